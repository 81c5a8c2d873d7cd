/- What is proved here: parts of the proof: Qm Lcl Sha Sci Wnp Sgl. -/
import Derived.Test.YtkecnihgjepfeaaGreatJ15
import Derived.Shelf.Spec.SlicesGrow
/- Plain: slots and arenas in memory. -/
namespace Go.Proofs.YtkecnihgjepfeaaGreat
open Go.RowKit
set_option linter.unusedVariables false
set_option linter.unusedSimpArgs false
set_option maxHeartbeats 8000000
set_option maxRecDepth 20000
structure So where
 ow:Int
 sh:Sh
structure Sl where
 ow:Int
 sh:Sh
 sx:Sx
def Sl.so (s:Sl):So:=⟨s.ow,s.sh⟩
def zSl:Sl:=⟨0,zS,zX⟩
def Sl.l (s:Sl):List Value:=[.int .i64 s.ow,.bool s.sh.lv,.int .i64 s.sh.lo,.int .i64 s.sh.hi,.slice s.sx.A s.sh.cs.length s.sx.c,.int .i64 s.sh.hd,.int .i64 s.sh.sz,.slice s.sx.A2 s.sh.l.length s.sx.c2,.slice s.sx.A3 s.sh.h.length s.sx.c3]
abbrev Sl.v (s:Sl):Value:=.agg #[.int .i64 s.ow,.bool s.sh.lv,.int .i64 s.sh.lo,.int .i64 s.sh.hi,.slice s.sx.A s.sh.cs.length s.sx.c,.int .i64 s.sh.hd,.int .i64 s.sh.sz,.slice s.sx.A2 s.sh.l.length s.sx.c2,.slice s.sx.A3 s.sh.h.length s.sx.c3]
theorem Sl.l_len (s:Sl):s.l.length=9:=rfl
theorem Sl.l_one (s:Sl):∀ u∈s.l,u.oneCell' = true:=by
 intro u hu
 simp only [Sl.l,List.mem_cons,List.not_mem_nil,or_false] at hu
 rcases hu with rfl | rfl | rfl | rfl | rfl | rfl | rfl | rfl | rfl <;> rfl
theorem sl_so {s:Sl} {o:So} (h:s.so=o):s.ow=o.ow/\s.sh=o.sh:=by subst h;exact ⟨rfl,rfl⟩
def qcs (l:List Sl):List Value:=l.flatMap Sl.l
theorem qcs_cons (d:Sl) (l:List Sl):qcs (d::l)=d.l++qcs l:=rfl
theorem qcs_len (l:List Sl):(qcs l).length=l.length*9:=by
 induction l with
 | nil=>rfl
 | cons d l ih=>rw [qcs_cons,List.length_append,ih,Sl.l_len];simp;omega
theorem qcs_drop (l:List Sl) (k:Nat):(qcs l).drop (k*9)=qcs (l.drop k):=by
 induction k generalizing l with
 | zero=>simp
 | succ k ih=>
  cases l with
  | nil=>simp [qcs]
  | cons d l=>
   rw [qcs_cons,List.drop_succ_cons,<-ih,show (k+1)*9=d.l.length+k*9 by rw [Sl.l_len];omega,List.drop_append,List.drop_eq_nil_of_le (by omega)]
   simp
theorem qcs_at (l:List Sl) (k j:Nat) (hk:k<l.length) (hj:j<9):(qcs l)[k*9+j]? = l[k].l[j]?:=by
 have h:=qcs_drop l k
 have e:(qcs l)[k*9+j]? = ((qcs l).drop (k*9))[j]?:=by rw [List.getElem?_drop]
 rw [e,h,List.drop_eq_getElem_cons hk,qcs_cons,List.getElem?_append_left (by rw [Sl.l_len];exact hj)]
theorem qcs_one (l:List Sl):∀ u∈qcs l,u.oneCell' = true:=by
 intro u hu
 obtain ⟨M,_,h⟩:=List.mem_flatMap.1 hu
 exact M.l_one u h
def Ql (w:World) (B:Nat) (v:Value) (l:List Sl):Prop:=∃ A c,v=.slice A l.length c/\l.length<=c/\c<=maxLen/\Rd w B 9 A l.length (qcs l)
section
variable {w w' : World} {B B' : Nat} {v:Value} {l:List Sl} {A:Option Addr} {n c:Nat}
theorem Ql.nil:Ql w B (.slice none 0 0) []:=⟨none,0,rfl,nLR _,Nat.zero_le _,Rd.nil none⟩
theorem Ql.keep (h:Ql w B v l) (hk:∀ p:Addr,p.block<B->w'.cell? p=w.cell? p):Ql w' B v l:=by
 obtain ⟨A,c,e,hl,hm,h⟩:=h;exact ⟨A,c,e,hl,hm,h.keep hk⟩
theorem Ql.more (h:Ql w B v l) (hB:B<=B'):Ql w B' v l:=by
 obtain ⟨A,c,e,hl,hm,h⟩:=h;exact ⟨A,c,e,hl,hm,h.more hB⟩
theorem Ql.below (h:Ql w B v l) (hb:Below B w w'):Ql w' B v l:=h.keep fun _ hp=>hb.cell hp
theorem Ql.alloc (h:Ql w B v l) (hB:B<=w.heap.size) (o:Obj):Ql (w.alloc o) B v l:=h.keep fun p hp=>World.cell?_alloc_lt w o p (by omega)
theorem Ql.len (h:Ql w B (.slice A n c) l):n=l.length/\n<=c/\c<=maxLen:=by
 obtain ⟨A',c',e,hl,hm,h⟩:=h
 injection e with e1 e2 e3
 subst e2;subst e3
 exact ⟨rfl,hl,hm⟩
theorem Ql.rd (h:Ql w B (.slice A n c) l):Rd w B 9 A n (qcs l):=by
 obtain ⟨A',c',e,hl,hm,h⟩:=h
 injection e with e1 e2 e3
 subst e1;subst e2
 exact h
theorem Ql.of_own {base:Nat} {e:TypeId} {n:Nat} (h:w.ownsRow base e 9 v n (qcs l)):Ql w w.heap.size v l:=by
 have hl:n=l.length:=by have:=h.1;rw [qcs_len] at this;omega
 subst hl
 rcases h.2 with ⟨hv,h0⟩ | ⟨g,cap,cur,hv,_,_,hl,hm,_⟩
 ·subst hv;exact ⟨none,0,by rw [h0],by omega,Nat.zero_le _,by rw [show l=[] from List.length_eq_zero_iff.1 h0];exact Rd.nil _⟩
 ·subst hv;exact ⟨_,cap,rfl,hl,hm,Rd.of_own h⟩
theorem Ql.offp (h:Ql w B (.slice A n c) l) {p:Addr} (ho:∀ a,A=some a->0<n->a.block≠p.block) (v:Value):Ql (w.setCell p v) B (.slice A n c) l:=by
 obtain ⟨h1,h2,h3⟩:=h.len
 subst h1
 refine ⟨A,c,rfl,h2,h3,h.rd.1,fun hn=>?_⟩
 obtain ⟨b,o,e,hb,hc⟩:=h.rd.2 hn
 have:=ho _ e hn
 exact ⟨b,o,e,hb,fun j u hu=>(World.cell?_setCell_other w p _ v (fun e'=>by have e2:=congrArg Addr.block e';simp at e2 this;omega)).trans (hc j u hu)⟩
abbrev Q9 (W:World) (b o:Nat) (s:Sl):Prop:=W.cell? ⟨b,o,none⟩=some (.int .i64 s.ow)/\W.cell? ⟨b,o+1,none⟩=some (.bool s.sh.lv)/\W.cell? ⟨b,o+2,none⟩=some (.int .i64 s.sh.lo)/\W.cell? ⟨b,o+3,none⟩=some (.int .i64 s.sh.hi)/\W.cell? ⟨b,o+4,none⟩=some (.slice s.sx.A s.sh.cs.length s.sx.c)/\W.cell? ⟨b,o+5,none⟩=some (.int .i64 s.sh.hd)/\W.cell? ⟨b,o+6,none⟩=some (.int .i64 s.sh.sz)/\W.cell? ⟨b,o+7,none⟩=some (.slice s.sx.A2 s.sh.l.length s.sx.c2)/\W.cell? ⟨b,o+8,none⟩=some (.slice s.sx.A3 s.sh.h.length s.sx.c3)
theorem Ql.atg {k:Nat} (h:Ql w B (.slice A n c) l) (hk:k<l.length):∃ b o,A=some ⟨b,o,none⟩/\b<B/\Q9 w b (o+k*9) l[k]:=by
 have hn:=h.len.1
 obtain ⟨b,o,e,hb,hc⟩:=h.rd.2 (by omega)
 have g:∀ j u,j<9->l[k].l[j]? = some u->w.cell? ⟨b,o+k*9+j,none⟩=some u:=fun j u hj hu=>by
  rw [Nat.add_assoc];exact hc _ u (by rw [qcs_at l k j hk hj];exact hu)
 exact ⟨b,o,e,hb,g 0 _ (by omega) rfl,g 1 _ (by omega) rfl,g 2 _ (by omega) rfl,g 3 _ (by omega) rfl,g 4 _ (by omega) rfl,g 5 _ (by omega) rfl,g 6 _ (by omega) rfl,g 7 _ (by omega) rfl,g 8 _ (by omega) rfl⟩
end
structure Ar where
 sl:List So
 st:List St
 ow:Int
 cap:Int
 dl:List Msg
 dir:Dd
 ep:Int
 ck:Int
 ni:Int
def zA:Ar:=⟨[],[],0,0,[],zD10,0,0,0⟩
structure Ax where
 A:Option Addr
 c:Nat
 q:List Sl
 A2:Option Addr
 c2:Nat
 A3:Option Addr
 c3:Nat
 D:Dx
def zAx:Ax:=⟨none,0,[],none,0,none,0,zDx⟩
abbrev av (a:Ar) (Y:Ax):Value:=.agg #[.slice Y.A a.sl.length Y.c,.slice Y.A2 a.st.length Y.c2,.int .i64 a.ow,.int .i64 a.cap,.slice Y.A3 a.dl.length Y.c3,.int .i64 a.dir.vn,.slice Y.D.A a.dir.l.length Y.D.c,.slice Y.D.A2 a.dir.F.length Y.D.c2,.int .i64 a.ep,.int .i64 a.ck,.int .i64 a.ni]
abbrev acl (a:Ar) (Y:Ax):Array Value:=#[.slice Y.A a.sl.length Y.c,.slice Y.A2 a.st.length Y.c2,.int .i64 a.ow,.int .i64 a.cap,.slice Y.A3 a.dl.length Y.c3,.int .i64 a.dir.vn,.slice Y.D.A a.dir.l.length Y.D.c,.slice Y.D.A2 a.dir.F.length Y.D.c2,.int .i64 a.ep,.int .i64 a.ck,.int .i64 a.ni]
structure AR (W:World) (B:Nat) (a:Ar) (Y:Ax):Prop where
 ql:Ql W B (.slice Y.A a.sl.length Y.c) Y.q
 so:Y.q.map Sl.so=a.sl
 sr:∀ s∈Y.q,SR W B s.sh s.sx
 tl:Tl W B (.slice Y.A2 a.st.length Y.c2) a.st
 ls:Ls W B (.slice Y.A3 a.dl.length Y.c3) a.dl
 dr:DR W B a.dir Y.D
structure AOff (a:Ar) (Y:Ax) (p:Nat):Prop where
 o1:OffB p a.sl.length Y.A
 os:∀ s∈Y.q,SOff s.sh s.sx p
 o2:OffB p a.st.length Y.A2
 o3:OffB p a.dl.length Y.A3
 o4:DOff a.dir Y.D p
structure Ax.nw (Y:Ax) (lo:Nat):Prop where
 n1:Nw lo Y.A
 ns:∀ s∈Y.q,s.sx.nw lo
 n2:Nw lo Y.A2
 n3:Nw lo Y.A3
 n4:Y.D.nw lo
theorem zAx_nw (lo:Nat):zAx.nw lo:=⟨nw_none,fun s h=>absurd h (by simp [zAx]),nw_none,nw_none,zDx_nw lo⟩
section
variable {W W' : World} {B B' p lo lo' : Nat} {a:Ar} {Y:Ax}
theorem Ax.nw.off (h:Y.nw lo) (hp:p<lo):AOff a Y p:=⟨offb_nw h.n1 hp,fun s hs=>(h.ns s hs).off hp,offb_nw h.n2 hp,offb_nw h.n3 hp,h.n4.off hp⟩
theorem Ax.nw.low (h:Y.nw lo) (hp:lo'<=lo):Y.nw lo':=⟨nw_low h.n1 hp,fun s hs=>(h.ns s hs).low hp,nw_low h.n2 hp,nw_low h.n3 hp,h.n4.low hp⟩
theorem AR.below (h:AR W B a Y) (hb:Below B W W'):AR W' B a Y:=⟨h.ql.below hb,h.so,fun s hs=>(h.sr s hs).below hb,h.tl.below hb,h.ls.below hb,h.dr.below hb⟩
theorem AR.more (h:AR W B a Y) (hB:B<=B'):AR W B' a Y:=⟨h.ql.more hB,h.so,fun s hs=>(h.sr s hs).more hB,h.tl.more hB,h.ls.more hB,h.dr.more hB⟩
theorem AR.up (h:AR W W.heap.size a Y) (hb:Below W.heap.size W W'):AR W' W'.heap.size a Y:=(h.below hb).more hb.size
theorem AR.alloc (h:AR W W.heap.size a Y) (o:Obj):AR (W.alloc o) (W.alloc o).heap.size a Y:=h.up ((Below.refl _ _).alloc (nLR _) o)
theorem AR.zero:AR W B zA zAx:=⟨Ql.nil,rfl,fun s h=>absurd h (by simp [zAx]),Tl.nil,Ls.nil,DR.zero⟩
theorem AR.len (h:AR W B a Y):Y.q.length=a.sl.length:=by rw [<-h.so];simp
theorem Ql.offb {A:Option Addr} {n c:Nat} {l:List Sl} (h:Ql W B (.slice A n c) l) {p:Addr} (ho:OffB p.block n A) (v:Value):Ql (W.setCell p v) B (.slice A n c) l:=h.offp (fun a e h0=>ho h0 a e) v
theorem AR.offs (h:AR W B a Y) (hp:B<=p):AOff a Y p:=
 ⟨rd_off h.ql.rd hp,fun s hs=>⟨rd_off (h.sr s hs).ls.rd hp,rd_off (h.sr s hs).el.rd hp,rd_off (h.sr s hs).dl.rd hp⟩,rd_off h.tl.rd hp,rd_off h.ls.rd hp,h.dr.offs hp⟩
theorem Tl.offb {A:Option Addr} {n c:Nat} {l:List St} (h:Tl W B (.slice A n c) l) {p:Addr} (ho:OffB p.block n A) (v:Value):Tl (W.setCell p v) B (.slice A n c) l:=by
 obtain ⟨h1,h2,h3⟩:=h.len
 subst h1
 exact ⟨A,c,rfl,h2,h3,h.rd.offp ho v⟩
theorem AR.offp (h:AR W B a Y) {q:Addr} (ho:AOff a Y q.block) (v:Value):AR (W.setCell q v) B a Y:=
 ⟨h.ql.offb ho.o1 v,h.so,fun s hs=>(h.sr s hs).offp (ho.os s hs) v,h.tl.offb ho.o2 v,h.ls.offp ho.o3 v,h.dr.offp ho.o4 v⟩
theorem AR.atg {k:Nat} (h:AR W B a Y) (hk:k<a.sl.length):∃ (s:Sl) (b o:Nat),Y.q[k]? = some s/\s.so=a.sl[k]/\Y.A=some ⟨b,o,none⟩/\b<B/\Q9 W b (o+k*9) s/\SR W B s.sh s.sx:=by
 have hl:k<Y.q.length:=by rw [h.len];exact hk
 obtain ⟨b,o,e,hb,hq⟩:=h.ql.atg hl
 exact ⟨Y.q[k],b,o,List.getElem?_eq_getElem hl,by simp [<-h.so],e,hb,hq,h.sr _ (List.getElem_mem hl)⟩
end
abbrev K11 (p:Nat) (a:Ar) (Y:Ax) (W:World):Prop:=
 W.cell? ⟨p,0,none⟩=some (.slice Y.A a.sl.length Y.c)/\W.cell? ⟨p,1,none⟩=some (.slice Y.A2 a.st.length Y.c2)/\W.cell? ⟨p,2,none⟩=some (.int .i64 a.ow)/\W.cell? ⟨p,3,none⟩=some (.int .i64 a.cap)/\W.cell? ⟨p,4,none⟩=some (.slice Y.A3 a.dl.length Y.c3)/\W.cell? ⟨p,5,none⟩=some (.int .i64 a.dir.vn)/\W.cell? ⟨p,6,none⟩=some (.slice Y.D.A a.dir.l.length Y.D.c)/\W.cell? ⟨p,7,none⟩=some (.slice Y.D.A2 a.dir.F.length Y.D.c2)/\W.cell? ⟨p,8,none⟩=some (.int .i64 a.ep)/\W.cell? ⟨p,9,none⟩=some (.int .i64 a.ck)/\W.cell? ⟨p,10,none⟩=some (.int .i64 a.ni)
structure QB (W:World) (p:Nat) (a:Ar) (Y:Ax):Prop where
 k:K11 p a Y W
 fr:∀ o,W.frozen? ⟨p,o,none⟩=false
 lt:p<W.heap.size
abbrev set11 (W:World) (p:Nat) (a:Ar) (Y:Ax):World:=((((((((((W.setCell ⟨p,0,none⟩ (.slice Y.A a.sl.length Y.c)).setCell ⟨p,1,none⟩ (.slice Y.A2 a.st.length Y.c2)).setCell ⟨p,2,none⟩ (.int .i64 a.ow)).setCell ⟨p,3,none⟩ (.int .i64 a.cap)).setCell ⟨p,4,none⟩ (.slice Y.A3 a.dl.length Y.c3)).setCell ⟨p,5,none⟩ (.int .i64 a.dir.vn)).setCell ⟨p,6,none⟩ (.slice Y.D.A a.dir.l.length Y.D.c)).setCell ⟨p,7,none⟩ (.slice Y.D.A2 a.dir.F.length Y.D.c2)).setCell ⟨p,8,none⟩ (.int .i64 a.ep)).setCell ⟨p,9,none⟩ (.int .i64 a.ck)).setCell ⟨p,10,none⟩ (.int .i64 a.ni)
section
variable {W W' : World} {p g:Nat} {a:Ar} {Y:Ax}
theorem QB.keep (h:QB W p a Y) (hc:∀ o,W'.cell? ⟨p,o,none⟩=W.cell? ⟨p,o,none⟩) (hf:∀ o,W'.frozen? ⟨p,o,none⟩=W.frozen? ⟨p,o,none⟩) (hs:W.heap.size<=W'.heap.size):QB W' p a Y:=by
 obtain ⟨⟨k0,k1,k2,k3,k4,k5,k6,k7,k8,k9,k10⟩,fr,lt⟩:=h
 exact ⟨⟨(hc 0).trans k0,(hc 1).trans k1,(hc 2).trans k2,(hc 3).trans k3,(hc 4).trans k4,(hc 5).trans k5,(hc 6).trans k6,(hc 7).trans k7,(hc 8).trans k8,(hc 9).trans k9,(hc 10).trans k10⟩,fun o=>(hf o).trans (fr o),Nat.lt_of_lt_of_le lt hs⟩
theorem QB.up (h:QB W p a Y) (hb:Below W.heap.size W W'):QB W' p a Y:=h.keep (fun o=>hb.cell (p:=⟨p,o,none⟩) h.lt) (fun o=>hb.frozen (p:=⟨p,o,none⟩) h.lt) hb.size
theorem QB.alloc (h:QB W p a Y) (o:Obj):QB (W.alloc o) p a Y:=h.up ((Below.refl _ _).alloc (nLR _) o)
theorem QB.other (h:QB W p a Y) {x:Addr} (hne:x.block≠p) (v:Value):QB (W.setCell x v) p a Y:=
 h.keep (fun o=>World.cell?_setCell_other W x ⟨p,o,none⟩ v (fun e=>hne (by rw [e]))) (fun o=>by simp [go_sem]) (by simp)
theorem QB.grown (h:QB W p a Y) (hg:W.grownBy W' (some g)) (hne:p≠g):QB W' p a Y:=h.keep (fun o=>hg.cell_far ⟨p,o,none⟩ h.lt (fun e=>by injection e with e;exact hne e)) (fun o=>hg.frozen_far ⟨p,o,none⟩ h.lt (fun e=>by injection e with e;exact hne e)) hg.size
theorem QB.start (w:World) (a:Ar) (Y:Ax) (t:TypeId):QB (w.alloc (.cells (acl a Y) t)) w.heap.size a Y:=
 ⟨⟨by simp [go_sem],by simp [go_sem],by simp [go_sem],by simp [go_sem],by simp [go_sem],by simp [go_sem],by simp [go_sem],by simp [go_sem],by simp [go_sem],by simp [go_sem],by simp [go_sem]⟩,fun o=>by simp [go_sem],by simp⟩
theorem QB.set (h:QB W p a Y) (b:Ar) (Z:Ax):QB (set11 W p b Z) p b Z:=by
 obtain ⟨⟨k0,k1,k2,k3,k4,k5,k6,k7,k8,k9,k10⟩,fr,lt⟩:=h
 exact ⟨⟨by simp [go_sem,k0],by simp [go_sem,k1],by simp [go_sem,k2],by simp [go_sem,k3],by simp [go_sem,k4],by simp [go_sem,k5],by simp [go_sem,k6],by simp [go_sem,k7],by simp [go_sem,k8],by simp [go_sem,k9],by simp [go_sem,k10]⟩,fun o=>by simp [go_sem,fr o],by simp [lt]⟩
theorem QB.free (h:QB W p a Y):W.frozen? ⟨p,0,none⟩=false/\W.frozen? ⟨p,1,none⟩=false/\W.frozen? ⟨p,2,none⟩=false/\W.frozen? ⟨p,3,none⟩=false/\W.frozen? ⟨p,4,none⟩=false/\W.frozen? ⟨p,5,none⟩=false/\W.frozen? ⟨p,6,none⟩=false/\W.frozen? ⟨p,7,none⟩=false/\W.frozen? ⟨p,8,none⟩=false/\W.frozen? ⟨p,9,none⟩=false/\W.frozen? ⟨p,10,none⟩=false:=
 ⟨h.fr 0,h.fr 1,h.fr 2,h.fr 3,h.fr 4,h.fr 5,h.fr 6,h.fr 7,h.fr 8,h.fr 9,h.fr 10⟩
theorem set11_size (W:World) (p:Nat) (a:Ar) (Y:Ax):(set11 W p a Y).heap.size=W.heap.size:=by simp
theorem set11_below {B:Nat} {w:World} (h:Below B w W) (hp:B<=p) (a:Ar) (Y:Ax):Below B w (set11 W p a Y):=
 ((((((((((h.setCell (p:=⟨p,0,none⟩) hp _).setCell (p:=⟨p,1,none⟩) hp _).setCell (p:=⟨p,2,none⟩) hp _).setCell (p:=⟨p,3,none⟩) hp _).setCell (p:=⟨p,4,none⟩) hp _).setCell (p:=⟨p,5,none⟩) hp _).setCell (p:=⟨p,6,none⟩) hp _).setCell (p:=⟨p,7,none⟩) hp _).setCell (p:=⟨p,8,none⟩) hp _).setCell (p:=⟨p,9,none⟩) hp _).setCell (p:=⟨p,10,none⟩) hp _
theorem AR.set11 {B:Nat} {b:Ar} {Z:Ax} (h:AR W B b Z) (ho:AOff b Z p) (a:Ar) (Y:Ax):AR (set11 W p a Y) B b Z:=
 ((((((((((h.offp (q:=⟨p,0,none⟩) ho _).offp (q:=⟨p,1,none⟩) ho _).offp (q:=⟨p,2,none⟩) ho _).offp (q:=⟨p,3,none⟩) ho _).offp (q:=⟨p,4,none⟩) ho _).offp (q:=⟨p,5,none⟩) ho _).offp (q:=⟨p,6,none⟩) ho _).offp (q:=⟨p,7,none⟩) ho _).offp (q:=⟨p,8,none⟩) ho _).offp (q:=⟨p,9,none⟩) ho _).offp (q:=⟨p,10,none⟩) ho _
end
def AE (w:World) (a:Ar) (x:Int) (e:Ending) (w' : World):Prop:=∃ Y,e=.returned (.tuple #[av a Y,.int .i64 x])/\Y.nw w.heap.size/\AR w' w'.heap.size a Y/\Below w.heap.size w w'
end Go.Proofs.YtkecnihgjepfeaaGreat
namespace Go.Proofs.YtkecnihgjepfeaaGreat
open Go.RowKit
set_option linter.unusedVariables false
set_option linter.unusedSimpArgs false
set_option maxHeartbeats 8000000
set_option maxRecDepth 20000
theorem info_lease:(Tryz.prog.info? 152).map (fun i=>(i.zero,i.size,i.bytes))=some (some (Le.v zL),8,72):=by kernel_rfl
def EClP (w:World) (l:List Le) (e:Ending) (w' : World):Prop:=∃ v,e=.returned v/\w'.ownsRow w.heap.size 152 8 v l.length (ecs l)/\Below w.heap.size w w'
theorem eclone_end {w w1:World} {l:List Le} {v1:Value} {o:Obj} (hown:w1.ownsRow w.heap.size 152 8 v1 (0+l.length) ([]++ecs l)) (hg:(w.alloc o).grownBy w1 (Value.ownBlock (.slice (some ⟨w.heap.size,0,none⟩) 0 0))):EClP w l (.returned v1) w1:=by
 rw [Nat.zero_add,List.nil_append] at hown
 exact ⟨v1,rfl,hown,(((Below.refl _ _).alloc (nLR _) o)).grown hg (by simp) (fun k hk=>by simp [Value.ownBlock] at hk;omega)⟩
theorem eclone_any (A:Option Addr) (n c:Nat) (l:List Le) (w:World) (hv:El w w.heap.size (.slice A n c) l) (h2:n<=1000) :
  Calls Tryz.prog 79 #[.slice A n c] w (EClP w l):=by
 obtain ⟨rfl,hm1,hm2⟩:=hv.len
 obtain ⟨i0,hi0,hz0⟩:=Option.map_eq_some_iff.1 info_lease
 simp only [Prod.mk.injEq] at hz0
 have HI:=Lh hi0
 have HZ:=Lh hz0
 have HV:=Lh hv
 have heq:∀ W,(binOp .eql 67 (.slice A l.length c) (.slice none 0 0)).run Tryz.prog W=.ok (.bool A.isNone) W:=fun W=>Lib.run_eql_slice_nil W _ _ _ _ _ _ _ Tryz.underlying67
 have HRD:=Lh hv.rd
 clear hv hi0 hz0
 cases A with
 | none=>
  have hl:l=[]:=by
   cases l with
   | nil=>rfl
   | cons d l=>obtain ⟨b,o,e,_⟩:=HRD.out.2 (by simp);cases e
  subst hl
  have HP:=Lh (show EClP w [] (.returned (.slice none 0 0)) w from ⟨_,rfl,World.ownsRow_nil w _ _ _,Below.refl _ _⟩)
  simp only [List.length_nil,Option.isNone_none] at heq ⊢
  go_enter Tryz.func79,Tryz.ntmps79
  go_wp2
  go_ret
  exact HP.out
 | some a=>
  simp only [Option.isNone_some] at heq
  go_enter Tryz.func79,Tryz.ntmps79
  go_wp2_with (at_builtin;refine wpList_append_rd _ rfl (.tmp 5) (.tmp 6) 67 rfl w.heap.size 152 i0 _ 8 72 Tryz.underlying67 HI.out HZ.out.1 HZ.out.2.1 HZ.out.2.2 rfl (by omega) (.slice (some ⟨w.heap.size,0,none⟩) 0 0) 0 [] rfl (World.ownsRow_made w #[] 0 (nLR _) (Nat.zero_le _) rfl) w.heap.size (some a) l.length c (ecs l) rfl (HV.out.alloc (nLR _) _).rd (ecs_one l) (by unfold maxLen;omega) (by omega) (by simp) ?_;intro v1 w1 hown1 hg1 hat1)
  have HP:=Lh (eclone_end hown1 hg1)
  clear hown1 hg1 hat1
  go_wp2
  go_ret
  exact HP.out
structure Cc2 (W:World) (g:Nat) (v0 v1:Value) (l0 l1:List Le):Prop where
 c0:W.cell? ⟨g,0,none⟩=some v0
 c1:W.cell? ⟨g,1,none⟩=some v1
 lt:g<W.heap.size
 e0:El W W.heap.size v0 l0
 e1:El W W.heap.size v1 l1
theorem swithin_any (n lo hi:Int) (w:World):Calls Tryz.prog 165 #[.int .i64 n,.int .i64 lo,.int .i64 hi] w fun e w'=>e=.returned (.bool (wi n lo hi))/\w=w':=by
 by_cases h1:lo<=n
 ·by_cases h2:n<=hi
  ·have H:=Lh (wi_true h1 h2)
   go_enter Tryz.func165,Tryz.ntmps165
   go_wp2
   go_ret
   exact ⟨by rw [H.out];rfl,rfl⟩
  ·have H:=Lh (show wi n lo hi=false from decide_eq_false (fun h=>h2 h.2))
   go_enter Tryz.func165,Tryz.ntmps165
   go_wp2
   go_ret
   exact ⟨by rw [H.out];rfl,rfl⟩
 ·have H:=Lh (show wi n lo hi=false from decide_eq_false (fun h=>h1 h.1))
  go_enter Tryz.func165,Tryz.ntmps165
  go_wp2
  go_ret
  exact ⟨by rw [H.out];rfl,rfl⟩
theorem shas_any (S:Sh) (D:Sx) (r:Int) (w:World):Calls Tryz.prog 180 #[sv S D,.int .i64 r] w fun e w'=>e=.returned (.bool (wi r S.lo S.hi))/\Below w.heap.size w w':=by
 have HB:=Lh ((Below.refl w.heap.size w).alloc (nLR _) (.cells #[.bool S.lv,.int .i64 S.lo,.int .i64 S.hi,.slice D.A S.cs.length D.c,.int .i64 S.hd,.int .i64 S.sz,.slice D.A2 S.l.length D.c2,.slice D.A3 S.h.length D.c3] 72))
 have HC:=Lh (fun w=>swithin_any r S.lo S.hi w)
 generalize wi r S.lo S.hi=b at*
 go_enter Tryz.func180,Tryz.ntmps180
 go_wp2_with fail
 refine (HC.out _).mono ?_
 rintro e w1 ⟨rfl,rfl⟩
 go_wp2
 go_ret
 exact ⟨rfl,HB.out⟩
theorem scap_any (S:Sh) (D:Sx) (w:World):Calls Tryz.prog 176 #[sv S D] w fun e w'=>e=.returned (.int .i64 (S.cs.length:Int))/\Below w.heap.size w w':=by
 have HB:=Lh ((Below.refl w.heap.size w).alloc (nLR _) (.cells #[.bool S.lv,.int .i64 S.lo,.int .i64 S.hi,.slice D.A S.cs.length D.c,.int .i64 S.hd,.int .i64 S.sz,.slice D.A2 S.l.length D.c2,.slice D.A3 S.h.length D.c3] 72))
 go_enter Tryz.func176,Tryz.ntmps176
 go_wp2
 go_ret
 exact ⟨rfl,HB.out⟩
theorem ssize_any (S:Sh) (D:Sx) (w:World) (h0:0<=S.sz) (h1:S.sz<=100) (h2:S.l.length<=100):Calls Tryz.prog 162 #[sv S D] w fun e w'=>e=.returned (.int .i64 (S.sz+S.l.length))/\Below w.heap.size w w':=by
 have HB:=Lh ((Below.refl w.heap.size w).alloc (nLR _) (.cells #[.bool S.lv,.int .i64 S.lo,.int .i64 S.hi,.slice D.A S.cs.length D.c,.int .i64 S.hd,.int .i64 S.sz,.slice D.A2 S.l.length D.c2,.slice D.A3 S.h.length D.c3] 72))
 have hw:wrap64 (S.sz+(S.l.length:Int))=S.sz+(S.l.length:Int):=IntWalk.wrap64_in _ (by omega)
 clear h0 h1 h2
 go_enter Tryz.func162,Tryz.ntmps162
 go_wp2
 go_ret
 exact ⟨congrArg (fun x=>Ending.returned (.int .i64 x)) hw,HB.out⟩
theorem sspan_any (lo hi:Int) (w:World):Calls Tryz.prog 74 #[.int .i64 lo,.int .i64 hi] w fun e w'=>e=.returned (.bool (spB lo hi))/\w=w':=by
 by_cases h1:0<=lo
 ·by_cases h2:lo<=hi
  ·by_cases h3:hi<65536
   ·have H:=Lh (spB_iff.2 ⟨h1,h2,h3⟩)
    go_enter Tryz.func74,Tryz.ntmps74
    go_wp2
    go_ret
    exact ⟨by rw [H.out];rfl,rfl⟩
   ·have H:=Lh (show spB lo hi=false from decide_eq_false (fun h=>h3 h.2.2))
    go_enter Tryz.func74,Tryz.ntmps74
    go_wp2
    go_ret
    exact ⟨by rw [H.out];rfl,rfl⟩
  ·have H:=Lh (show spB lo hi=false from decide_eq_false (fun h=>h2 h.2.1))
   go_enter Tryz.func74,Tryz.ntmps74
   go_wp2
   go_ret
   exact ⟨by rw [H.out];rfl,rfl⟩
 ·have H:=Lh (show spB lo hi=false from decide_eq_false (fun h=>h1 h.1))
  go_enter Tryz.func74,Tryz.ntmps74
  go_wp2
  go_ret
  exact ⟨by rw [H.out];rfl,rfl⟩
abbrev r3 (n lo hi:Int):Value:=.agg #[.int .i64 n,.int .i64 lo,.int .i64 hi]
theorem aepoch_any (n:Int) (w:World):Calls Tryz.prog 144 #[.int .i64 n] w fun e w'=>e=.returned (r3 n 0 65536)/\Below w.heap.size w w':=by
 have HB:=Lh ((Below.refl w.heap.size w).alloc (nLR _) (.cells #[.int .i64 0,.int .i64 0,.int .i64 0] 209))
 go_enter Tryz.func144,Tryz.ntmps144
 go_wp2
 exact bodyPost_ret (v:=r3 n 0 65536) (by simp only [results,Tryz.results144];go_simp <;> rfl) rfl ⟨rfl,(Below.refl w.heap.size w).alloc (nLR _) _⟩
theorem alimit_any (n:Int) (w:World):Calls Tryz.prog 145 #[.int .i64 n] w fun e w'=>e=.returned (r3 n 1 8)/\Below w.heap.size w w':=by
 have HB:=Lh ((Below.refl w.heap.size w).alloc (nLR _) (.cells #[.int .i64 0,.int .i64 0,.int .i64 0] 209))
 go_enter Tryz.func145,Tryz.ntmps145
 go_wp2
 exact bodyPost_ret (v:=r3 n 1 8) (by simp only [results,Tryz.results145];go_simp <;> rfl) rfl ⟨rfl,(Below.refl w.heap.size w).alloc (nLR _) _⟩
def fxN (p:Msg->Bool) (l:List Msg):Int:=if l.findIdx p<l.length then (l.findIdx p:Int) else -1
theorem fxN_hit {p:Msg->Bool} {l:List Msg} {k:Nat} (hk:k<l.length) (h:p l[k]=true) (hn:∀ j (hj:j<l.length),j<k->p l[j]=false):fxN p l=k:=by
 have e:l.findIdx p=k:=by
  rw [List.findIdx_eq hk]
  exact ⟨h,fun j hj=>hn j (by omega) hj⟩
 unfold fxN
 rw [e,if_pos hk]
theorem fxN_none {p:Msg->Bool} {l:List Msg} (hn:∀ j (hj:j<l.length),p l[j]=false):fxN p l = -1:=by
 have e:l.findIdx p=l.length:=List.findIdx_eq_length.2 fun M hM=>by
  obtain ⟨j,hj,rfl⟩:=List.mem_iff_getElem.1 hM
  exact hn j hj
 unfold fxN
 rw [e,if_neg (Nat.lt_irrefl _)]
theorem fxN_ge {p:Msg->Bool} {l:List Msg}:decide (0<=fxN p l)=l.any p:=by
 unfold fxN
 by_cases h:l.findIdx p<l.length
 ·rw [if_pos h]
  have e:=List.findIdx_getElem (w:=h)
  rw [show l.any p=true from List.any_eq_true.2 ⟨_,List.getElem_mem h,e⟩]
  simp
 ·rw [if_neg h]
  have e:l.findIdx p=l.length:=Nat.le_antisymm List.findIdx_le_length (by omega)
  rw [show l.any p=false from by
   rw [List.any_eq_false]
   intro M hM
   have:=List.findIdx_eq_length.1 e M hM
   simp [this]]
  rfl
theorem ixfuncH (A:Option Addr) (n c:Nat) (l:List Msg) (v:Value) (p:Msg->Bool) (I:World->Prop) (w:World) (hv:Ls w w.heap.size (.slice A n c) l) (hI:I w) (hK:∀ W W',I W->Below W.heap.size W W'->I W')
  (hF:∀ M W,I W->Calls Tryz.prog 198 #[M.v,v] W fun e w'=>e=.returned (.bool (p M))/\Below W.heap.size W w') :
  Calls Tryz.prog 197 #[.slice A n c,.func (.func 198) #[] #[v]] w fun e w'=>e=.returned (.int .i64 (fxN p l))/\Below w.heap.size w w':=by
 obtain ⟨rfl,hm1,hm2⟩:=hv.len
 have hL:l.length<=9223372036854775807:=by unfold maxLen at hm2;omega
 have HV:=Lh hv
 have HI:=Lh hI
 have HK:=Lh hK
 have HFF:=Lh hF
 have HB:=Lh (Below.refl w.heap.size w)
 clear hv hm1 hm2 hI hK hF
 go_enter Tryz.func197,Tryz.ntmps197
 go_wp2
 go_loopw [8] (fun i wr=>∃ k:Nat,k<=l.length/\i=.int .i64 k/\Below w.heap.size w wr/\I wr/\∀ j (hj:j<l.length),j<k->p l[j]=false) (fun i _=>l.length - (intOf i).toNat)
 case atStart=>exact ⟨0,by omega,rfl,HB.out,HI.out,fun j _ h=>absurd h (by omega)⟩
 case round=>
  obtain ⟨k,hk,rfl,hb,hi,hno⟩:=hrel
  have HN:=Lh hno
  have HVK:=Lh (HV.out.below hb)
  have HIK:=Lh hi
  have HB:=Lh hb
  clear hno hb hi
  by_cases hlt:k<l.length
  ·obtain ⟨b,o,rfl,hb,c0,c1,c2,c3,c4,c5,c6⟩:=HVK.out.at_ hlt
   cases he:p l[k] with
   | true=>
    have HR:=Lh (fxN_hit hlt he HN.out)
    have HC:=Lh (fun W (h:I W)=>HFF.out l[k] W h)
    rw [he] at HC
    clear he
    generalize l[k]=M at*
    go_wp2_with fail
    refine (HC.out _ HIK.out).mono ?_
    rintro e w1 ⟨rfl,hb1⟩
    have HB1:=Lh (HB.out.trans (hb1.mono HB.out.size))
    clear hb1
    go_wp2
    go_ret
    exact ⟨by rw [HR.out];rfl,HB1.out⟩
   | false=>
    have HC:=Lh (fun W (h:I W)=>HFF.out l[k] W h)
    rw [he] at HC
    have HNN:=Lh (show ∀ j (hj:j<l.length),j<k+1->p l[j]=false from fun j hj h=>by
     by_cases e:j=k
     ·subst e;exact he
     ·exact HN.out j hj (by omega))
    clear he
    generalize l[k]=M at*
    go_wp2_with fail
    refine (HC.out _ HIK.out).mono ?_
    rintro e w1 ⟨rfl,hb1⟩
    have HB1:=Lh (HB.out.trans (hb1.mono HB.out.size))
    have HI1:=Lh (HK.out _ _ HIK.out hb1)
    clear hb1
    go_wp2
    go_roundw
    case rel=>exact ⟨k+1,by omega,by go_num,HB1.out,HI1.out,HNN.out⟩
    case measure=>simp [intOf];omega
  ·have HR:=Lh (fxN_none (p:=p) (fun j hj=>HN.out j hj (by omega)))
   go_wp2
   go_ret
   exact ⟨by rw [HR.out];rfl,HB.out⟩
theorem cofuncH (A:Option Addr) (n c:Nat) (l:List Msg) (v:Value) (p:Msg->Bool) (I:World->Prop) (w:World) (hv:Ls w w.heap.size (.slice A n c) l) (hI:I w) (hK:∀ W W',I W->Below W.heap.size W W'->I W')
  (hF:∀ M W,I W->Calls Tryz.prog 198 #[M.v,v] W fun e w'=>e=.returned (.bool (p M))/\Below W.heap.size W w') :
  Calls Tryz.prog 178 #[.slice A n c,.func (.func 198) #[] #[v]] w fun e w'=>e=.returned (.bool (l.any p))/\Below w.heap.size w w':=by
 have HC:=Lh (ixfuncH A n c l v p I w hv hI hK hF)
 have HG:=Lh (fxN_ge (p:=p) (l:=l))
 clear hv hI hK hF
 generalize l.any p=b at*
 generalize fxN p l=x at*
 go_enter Tryz.func178,Tryz.ntmps178
 go_wp2_with fail
 refine HC.out.mono ?_
 rintro e w1 ⟨rfl,hb⟩
 have HB:=Lh hb
 clear hb
 go_wp2
 go_ret
 exact ⟨by rw [<-HG.out];rfl,HB.out⟩
theorem ixfuncV (A:Option Addr) (n c:Nat) (l:List Msg) (v:Value) (p:Msg->Bool) (I:World->Prop) (w:World) (hv:Ls w w.heap.size (.slice A n c) l) (hI:I w) (hK:∀ W W',I W->Below W.heap.size W W'->I W')
  (hF:∀ M W,I W->Calls Tryz.prog 179 #[M.v,v] W fun e w'=>e=.returned (.bool (p M))/\Below W.heap.size W w') :
  Calls Tryz.prog 197 #[.slice A n c,.func (.func 179) #[] #[v]] w fun e w'=>e=.returned (.int .i64 (fxN p l))/\Below w.heap.size w w':=by
 obtain ⟨rfl,hm1,hm2⟩:=hv.len
 have hL:l.length<=9223372036854775807:=by unfold maxLen at hm2;omega
 have HV:=Lh hv
 have HI:=Lh hI
 have HK:=Lh hK
 have HFF:=Lh hF
 have HB:=Lh (Below.refl w.heap.size w)
 clear hv hm1 hm2 hI hK hF
 go_enter Tryz.func197,Tryz.ntmps197
 go_wp2
 go_loopw [8] (fun i wr=>∃ k:Nat,k<=l.length/\i=.int .i64 k/\Below w.heap.size w wr/\I wr/\∀ j (hj:j<l.length),j<k->p l[j]=false) (fun i _=>l.length - (intOf i).toNat)
 case atStart=>exact ⟨0,by omega,rfl,HB.out,HI.out,fun j _ h=>absurd h (by omega)⟩
 case round=>
  obtain ⟨k,hk,rfl,hb,hi,hno⟩:=hrel
  have HN:=Lh hno
  have HVK:=Lh (HV.out.below hb)
  have HIK:=Lh hi
  have HB:=Lh hb
  clear hno hb hi
  by_cases hlt:k<l.length
  ·obtain ⟨b,o,rfl,hb,c0,c1,c2,c3,c4,c5,c6⟩:=HVK.out.at_ hlt
   cases he:p l[k] with
   | true=>
    have HR:=Lh (fxN_hit hlt he HN.out)
    have HC:=Lh (fun W (h:I W)=>HFF.out l[k] W h)
    rw [he] at HC
    clear he
    generalize l[k]=M at*
    go_wp2_with fail
    refine (HC.out _ HIK.out).mono ?_
    rintro e w1 ⟨rfl,hb1⟩
    have HB1:=Lh (HB.out.trans (hb1.mono HB.out.size))
    clear hb1
    go_wp2
    go_ret
    exact ⟨by rw [HR.out];rfl,HB1.out⟩
   | false=>
    have HC:=Lh (fun W (h:I W)=>HFF.out l[k] W h)
    rw [he] at HC
    have HNN:=Lh (show ∀ j (hj:j<l.length),j<k+1->p l[j]=false from fun j hj h=>by
     by_cases e:j=k
     ·subst e;exact he
     ·exact HN.out j hj (by omega))
    clear he
    generalize l[k]=M at*
    go_wp2_with fail
    refine (HC.out _ HIK.out).mono ?_
    rintro e w1 ⟨rfl,hb1⟩
    have HB1:=Lh (HB.out.trans (hb1.mono HB.out.size))
    have HI1:=Lh (HK.out _ _ HIK.out hb1)
    clear hb1
    go_wp2
    go_roundw
    case rel=>exact ⟨k+1,by omega,by go_num,HB1.out,HI1.out,HNN.out⟩
    case measure=>simp [intOf];omega
  ·have HR:=Lh (fxN_none (p:=p) (fun j hj=>HN.out j hj (by omega)))
   go_wp2
   go_ret
   exact ⟨by rw [HR.out];rfl,HB.out⟩
theorem cofuncV (A:Option Addr) (n c:Nat) (l:List Msg) (v:Value) (p:Msg->Bool) (I:World->Prop) (w:World) (hv:Ls w w.heap.size (.slice A n c) l) (hI:I w) (hK:∀ W W',I W->Below W.heap.size W W'->I W')
  (hF:∀ M W,I W->Calls Tryz.prog 179 #[M.v,v] W fun e w'=>e=.returned (.bool (p M))/\Below W.heap.size W w') :
  Calls Tryz.prog 178 #[.slice A n c,.func (.func 179) #[] #[v]] w fun e w'=>e=.returned (.bool (l.any p))/\Below w.heap.size w w':=by
 have HC:=Lh (ixfuncV A n c l v p I w hv hI hK hF)
 have HG:=Lh (fxN_ge (p:=p) (l:=l))
 clear hv hI hK hF
 generalize l.any p=b at*
 generalize fxN p l=x at*
 go_enter Tryz.func178,Tryz.ntmps178
 go_wp2_with fail
 refine HC.out.mono ?_
 rintro e w1 ⟨rfl,hb⟩
 have HB:=Lh hb
 clear hb
 go_wp2
 go_ret
 exact ⟨by rw [<-HG.out];rfl,HB.out⟩
end Go.Proofs.YtkecnihgjepfeaaGreat
/- Plain: a list of messages that is cut at both ends and appended to. -/
namespace Go.Proofs.YtkecnihgjepfeaaGreat
open Go.RowKit
set_option linter.unusedVariables false
set_option linter.unusedSimpArgs false
set_option maxHeartbeats 8000000
set_option maxRecDepth 20000
def Wn (W:World) (base Bd:Nat) (v:Value) (l:List Msg):Prop:=∃ A c,v=.slice A l.length c/\l.length<=c/\c<=maxLen/\(A=none->c=0)/\
 (0<c->∃ b o,A=some ⟨b,o,none⟩/\base<=b/\b<Bd/\(∀ j u,(lcs l)[j]? = some u->W.cell? ⟨b,o+j,none⟩=some u)/\∀ j,j<c*7->(W.cell? ⟨b,o+j,none⟩).isSome=true/\W.frozen? ⟨b,o+j,none⟩=false)
section
variable {W W' : World} {base Bd Bd' : Nat} {v:Value} {l:List Msg} {A:Option Addr} {n c:Nat}
theorem Wn.nil:Wn W base Bd (.slice none 0 0) []:=⟨none,0,rfl,nLR _,Nat.zero_le _,fun _=>rfl,fun h=>absurd h (by omega)⟩
theorem Wn.more (h:Wn W base Bd v l) (hB:Bd<=Bd'):Wn W base Bd' v l:=by
 obtain ⟨A,c,e,h1,h2,h3,h4⟩:=h
 exact ⟨A,c,e,h1,h2,h3,fun h0=>by obtain ⟨b,o,e,k1,k2,k3⟩:=h4 h0;exact ⟨b,o,e,k1,by omega,k3⟩⟩
theorem Wn.keep (h:Wn W base Bd v l) (hc:∀ b o,base<=b->b<Bd->W'.cell? ⟨b,o,none⟩=W.cell? ⟨b,o,none⟩/\W'.frozen? ⟨b,o,none⟩=W.frozen? ⟨b,o,none⟩):Wn W' base Bd v l:=by
 obtain ⟨A,c,e,h1,h2,h3,h4⟩:=h
 refine ⟨A,c,e,h1,h2,h3,fun h0=>?_⟩
 obtain ⟨b,o,e,k1,k2,k3,k4⟩:=h4 h0
 exact ⟨b,o,e,k1,k2,fun j u hu=>(hc b _ k1 k2).1.trans (k3 j u hu),fun j hj=>⟨by rw [(hc b (o+j) k1 k2).1];exact (k4 j hj).1,(hc b (o+j) k1 k2).2.trans (k4 j hj).2⟩⟩
theorem Wn.below (h:Wn W base Bd v l) (hB:Bd<=W.heap.size) (hb:Below W.heap.size W W'):Wn W' base Bd v l:=
 h.keep fun b o _ h2=>⟨hb.cell (p:=⟨b,o,none⟩) (by show b<_;omega),hb.frozen (p:=⟨b,o,none⟩) (by show b<_;omega)⟩
theorem Wn.alloc (h:Wn W base Bd v l) (hB:Bd<=W.heap.size) (o:Obj):Wn (W.alloc o) base Bd v l:=h.below hB ((Below.refl _ _).alloc (nLR _) o)
theorem Wn.ls (h:Wn W base Bd v l):Ls W Bd v l:=by
 obtain ⟨A,c,e,h1,h2,h3,h4⟩:=h
 refine ⟨A,c,e,h1,h2,by rw [lcs_len],fun h0=>?_⟩
 obtain ⟨b,o,e,k1,k2,k3,_⟩:=h4 (by omega)
 exact ⟨b,o,e,k2,k3⟩
theorem Wn.form (h:Wn W base Bd v l):∃ A c,v=.slice A l.length c:=by obtain ⟨A,c,e,_⟩:=h;exact ⟨A,c,e⟩
theorem Wn.own {base' : Nat} {e:TypeId} (h:W.ownsRow base' e 7 v l.length (lcs l)) (hb:base<=base'):Wn W base W.heap.size v l:=by
 rcases h.2 with ⟨hv,h0⟩ | ⟨g,cap,cur,hv,hg,hh,hl,hm,hs,ht⟩
 ·have hl:l=[]:=List.length_eq_zero_iff.1 h0
  subst hl
  subst hv
  exact Wn.nil
 ·subst hv
  refine ⟨_,cap,rfl,hl,hm,fun h=>by simp at h,fun _=>⟨g,0,rfl,by omega,(Array.getElem?_eq_some_iff.1 hh).1,fun j u hu=>by have:=h.cells (g:=g) rfl j u hu;rwa [add_mk] at this,fun j hj=>⟨?_,by rw [Nat.zero_add];exact h.frozenAt j⟩⟩⟩
  rw [Nat.zero_add]
  have hj' : j<cur.size:=by omega
  simp [World.cell?,hh,hj']
theorem only_sets {a w:World} {g:Nat}:∀ (vs:List Value) (m:Nat) (w:World),a.grownBy w (some g)->a.grownBy (w.setCells g m vs) (some g)
 | [],_,_,h=>h
 | v::r,m,w,h=>only_sets (w:=w) r (m+1) _ (only_set h (p:=⟨g,m,none⟩) (.inl rfl) v)
theorem Wn.room (h:Wn W base Bd (.slice A l.length c) l) (hc:l.length+1<=c) {b o:Nat} (hA:A=some ⟨b,o,none⟩) (M:Msg):Wn (W.setCells b (o+l.length*7) M.l) base Bd (.slice A (l.length+1) c) (l++[M]):=by
 obtain ⟨A',c',e,h1,h2,h3,h4⟩:=h
 injection e with e1 e2 e3
 subst e1;subst e3
 refine ⟨A,c,by simp,by simpa using hc,h2,h3,fun h0=>?_⟩
 obtain ⟨b',o',e,k1,k2,k3,k4⟩:=h4 h0
 rw [hA] at e
 injection e with e
 injection e with e1 e2 _
 subst e1;subst e2
 refine ⟨b,o,hA,k1,k2,fun j u hu=>?_,fun j hj=>⟨?_,by rw [World.frozen?_setCells];exact (k4 j hj).2⟩⟩
 ·have hll:=lcs_len l
  rw [lcs_app] at hu
  by_cases hj:j<(lcs l).length
  ·rw [List.getElem?_append_left hj] at hu
   rw [World.cell?_setCells_out b M.l (o+l.length*7) W ⟨b,o+j,none⟩ (fun _ _=>by left;show o+j<o+l.length*7;omega)]
   exact k3 j u hu
  ·rw [List.getElem?_append_right (by omega)] at hu
   have hM:lcs [M]=M.l:=by simp [lcs]
   rw [hM] at hu
   have hjl:j - (lcs l).length<7:=(List.getElem?_eq_some_iff.1 hu).1
   have e:o+j=o+l.length*7+(j - (lcs l).length):=by omega
   rw [e,World.cell?_setCells_in b M.l (o+l.length*7) W (fun i hi=>by rw [Nat.add_assoc];exact (k4 (l.length*7+i) (by rw [Msg.l_len] at hi;omega)).1) (j - (lcs l).length) (by rw [Msg.l_len];exact hjl)]
   rw [<-hu]
   exact (List.getElem?_eq_getElem _).symm
 ·by_cases hj2:l.length*7<=j/\j<l.length*7+7
  ·have e:o+j=o+l.length*7+(j - l.length*7):=by omega
   rw [e,World.cell?_setCells_in b M.l (o+l.length*7) W (fun i hi=>by rw [Nat.add_assoc];exact (k4 (l.length*7+i) (by rw [Msg.l_len] at hi;omega)).1) (j - l.length*7) (by rw [Msg.l_len];omega)]
   rfl
  ·rw [World.cell?_setCells_out b M.l (o+l.length*7) W ⟨b,o+j,none⟩ (fun _ _=>by rw [Msg.l_len];show o+j<o+l.length*7\/o+l.length*7+7<=o+j;omega)]
   exact (k4 j hj).1
end
theorem wpList_append_wn {P:Program} (w:World) {ops:Array Oper} {rest:List Oper} {o:Oper} {a:Act} {Q:Exit->Act->World->Prop}
  (hg:o.guard=none) (s x:Operand) (t:TypeId) (hop:o.op=Op.call { callee:=Callee.builtin Builtin.append,args:=#[s,x],argTypes:=#[t,t] })
  (e:TypeId) (i:TypeInfo) (z:Value) (bytes:Nat) (h1:P.underlying t=some (.slice e)) (h2:P.info? e=some i) (h3:i.zero=some z) (h4:i.size=7) (h5:i.bytes=bytes) (h6:z.cells.size=7)
  (base Bd:Nat) (A:Option Addr) (c:Nat) (l:List Msg) (hs:a.eval s=.slice A l.length c) (hw:Wn w base Bd (.slice A l.length c) l) (hbs:base<=w.heap.size) (hBd:Bd<=w.heap.size)
  (ad:Addr) (cx:Nat) (M:Msg) (hx:a.eval x=.slice (some ad) 1 cx) (hc:∀ j u,M.l[j]? = some u->w.cell? (ad.add j)=some u)
  (b1:l.length+1<=maxLen) (b2:(l.length+1)*bytes<=140737488355328)
  (h:∀ v' w',Wn w' base w'.heap.size v' (l++[M])->(∃ row,w.grownBy w' row/\∀ q,row=some q->base<=q/\q<Bd)->wpList P ops Q rest (a.put o.dst v') w') :
  wpList P ops Q (o::rest) a w:=by
 have hM:M.l.length=1*7:=rfl
 have hnone:∀ q,(none:Option Nat)=some q->base<=q/\q<Bd:=fun q e=>by cases e
 have hown:∀ v' w',w'.ownsRow w.heap.size e 7 v' (l.length+1) (lcs l++M.l)->Wn w' base w'.heap.size v' (l++[M]):=fun v' w' h=>by
  refine Wn.own (base':=w.heap.size) (e:=e) ?_ hbs
  have hM1:lcs [M]=M.l:=by simp [lcs]
  rw [lcs_app,hM1,List.length_append]
  exact h
 obtain ⟨A',c',e',k1,k2,k3,k4⟩:=id hw
 injection e' with e1 _ e3
 subst e1;subst e3
 by_cases h0:0<c
 ·obtain ⟨b,off,rfl,p1,p2,p3,p4⟩:=k4 h0
  refine wpList_append_arg w hg s x t hop e i z 7 bytes h1 h2 h3 h4 h5 h6 (by omega) b off l.length c (lcs l) hs (lcs_len l) p3 ad 1 cx M.l hx hM hc M.l_one (fun hr j hj=>by rw [Nat.add_assoc];exact p4 (l.length*7+j) (by rw [Msg.l_len] at hj;omega)) b1 b2 (fun hr=>?_) (fun hr v' w' ho hgr=>h v' w' (hown v' w' ho) ⟨none,hgr,hnone⟩)
  refine h _ _ ?_ ⟨some b,only_sets (w:=w) _ _ _ (World.grownBy.refl w (some b)),fun q e=>by injection e with e;subst e;exact ⟨p1,p2⟩⟩
  exact (hw.room hr rfl M).more (by rw [sets_size];exact hBd)
 ·have hl0:l=[]:=List.length_eq_zero_iff.1 (by omega)
  subst hl0
  refine wpList_append_grows w hg s x t hop e i z 7 bytes h1 h2 h3 h4 h5 h6 (by omega) A 0 c [] hs (fun hn=>⟨rfl,k3 hn⟩) rfl (fun b _ j u hu=>by simp at hu) ad 1 cx M.l hx hM hc M.l_one (by omega) b1 b2 (fun v' w' ho hgr=>h v' w' (hown v' w' (by simpa [lcs] using ho)) ⟨none,hgr,hnone⟩)
end Go.Proofs.YtkecnihgjepfeaaGreat
namespace Go.Proofs.YtkecnihgjepfeaaGreat
open Go.RowKit
set_option linter.unusedVariables false
set_option linter.unusedSimpArgs false
set_option maxHeartbeats 8000000
set_option maxRecDepth 20000
def LsW (l:List Msg) (w:World) (e:Ending) (w' : World):Prop:=∃ A c,e=.returned (.slice A l.length c)/\Wn w' w.heap.size w'.heap.size (.slice A l.length c) l/\Below w.heap.size w w'
theorem Wn.base {W:World} {base base' Bd:Nat} {v:Value} {l:List Msg} (h:Wn W base Bd v l) (hb:base'<=base):Wn W base' Bd v l:=by
 obtain ⟨A,c,e,h1,h2,h3,h4⟩:=h
 exact ⟨A,c,e,h1,h2,h3,fun h0=>by obtain ⟨b,o,e,k1,k2,k3⟩:=h4 h0;exact ⟨b,o,e,by omega,k2,k3⟩⟩
theorem wn_row {W:World} {q m base:Nat} {f:Nat->Msg} {l:List Msg} (h:MRow W q m f) (hb:base<=q) (hl:(List.range m).map f=l) (hm:m<=maxLen):Wn W base W.heap.size (.slice (some ⟨q,0,none⟩) l.length m) l:=by
 have hlen:l.length=m:=by rw [<-hl];simp
 have hls:=h.ls m m (nLR _) (nLR _) hm
 rw [hl] at hls
 refine ⟨_,m,rfl,by omega,hm,(fun e=>by cases e),fun h0=>⟨q,0,rfl,hb,h.1,fun j u hu=>?_,fun j hj=>⟨?_,h.2.2 _⟩⟩⟩
 ·obtain ⟨b,o,e,_,hc⟩:=hls.rd.2 h0
  injection e with e
  injection e with e1 e2 _
  subst e1;subst e2
  exact hc j u hu
 ·rw [Nat.zero_add]
  have e:j=j / 7*7+j % 7:=by omega
  rw [e]
  exact (h.there (k:=j / 7) (by omega) (j % 7) (by omega)).1
theorem ordered_wn (A:Option Addr) (n c:Nat) (cs:List Msg) (hd sz:Nat) (w:World) (hv:Ls w w.heap.size (.slice A n c) cs) (hn:nmB cs.length hd sz=true) :
  Calls Tryz.prog 166 #[.agg #[.slice A n c,.int .i64 hd,.int .i64 sz]] w (LsW (ord cs hd sz) w):=by
 obtain ⟨rfl,hm1,hm2⟩:=hv.len
 obtain ⟨⟨n1,n2⟩,⟨h1,h2⟩,⟨s1,s2⟩⟩:=nm_of hn
 have hmk:=run_make_msgs sz (by omega)
 have HV:=Lh hv
 clear hv hn
 go_enter Tryz.func166,Tryz.ntmps166
 go_wp2
 have HS:=Lh (OrdAt.start w A cs.length c hd sz sz 66 79)
 obtain ⟨p,hp⟩:∃ p,p=w.heap.size:=⟨_,rfl⟩
 obtain ⟨q,hq⟩:∃ q,q=w.heap.size+1:=⟨_,rfl⟩
 rw [<-hq,<-hp] at HS ⊢
 have HPP:=Lh hp
 clear hmk hp hq
 go_loopw [10] (fun i wr=>∃ k:Nat,k<=sz/\i=.int .i64 k/\OrdAt w p A cs.length c hd sz q sz (fun j=>if j<k then cel cs hd j else zM) wr) (fun i _=>sz - (intOf i).toNat)
 case atStart=>exact ⟨0,by omega,rfl,HS.out.congr fun j _=>by simp⟩
 case round=>
  obtain ⟨k,hk,rfl,hrel⟩:=hrel
  have HR:=Lh hrel
  have HVK:=Lh (HV.out.below hrel.bel)
  clear hrel
  by_cases hlt:k<sz
  ·obtain ⟨m,hm⟩:∃ m,m=(hd+k) % cs.length:=⟨_,rfl⟩
   have hml:m<cs.length:=by rw [hm];exact Nat.mod_lt _ (by omega)
   have HX:=Lh (cel_get (by omega) m hm hml)
   have HPL:=Lh (fun w=>place_any A cs.length c hd sz k (by omega) (by omega) (by omega) (by omega) (by omega) (by omega) w)
   have hmi:((hd:Int)+(k:Int)) % (cs.length:Int)=(m:Int):=by rw [hm];simp
   rw [hmi] at HPL
   obtain ⟨b,o,rfl,hb,hc⟩:=HVK.out.at_ hml
   generalize cs[m]=X at*
   clear hm hmi
   obtain ⟨r0,r1,r2,hpl,hql⟩:=HR.out.facts
   have HC7:=Lh hc
   clear hc
   have hbw:b<wr.heap.size:=by have:=HPP.out;omega
   go_wp2
   have HST:=Lh (fun w1 (hb1:Below wr.drew.heap.size wr.drew w1)=>OrdAt.step (X:=X) HR.out hlt HC7.out hbw (drew_below hb1))
   have hzz:(if k<k then cel cs hd k else zM)=zM:=if_neg (by omega)
   simp only [hzz] at HST
   clear hzz
   go_region_with ((go_at_call 184;refine (HPL.out _).mono ?_;rintro e w1 ⟨rfl,hb1⟩;obtain ⟨HR1,⟨x0,x1,x2,hpl1,hql1⟩,⟨d0,d1,d2,d3,d4,d5,d6⟩,⟨z0,z1,z2,z3,z4,z5,z6⟩,⟨y0,y1,y2,y3,y4,y5,y6⟩⟩:=HST.out _ hb1;clear hb1))
   all_goals
    have HP:=Lh (HR1.out.put hlt X)
    clear d0 d1 d2 d3 d4 d5 d6 z0 z1 z2 z3 z4 z5 z6 y0 y1 y2 y3 y4 y5 y6
    go_wp2
    go_roundw
    case rel=>
     refine ⟨k+1,by omega,by go_num,HP.out.congr fun j hj=>?_⟩
     by_cases e:j=k
     ·subst e
      rw [if_pos rfl,if_pos (by omega),HX.out]
     ·rw [if_neg e]
      by_cases e' : j<k
      ·rw [if_pos e',if_pos (by omega)]
      ·rw [if_neg e',if_neg (by omega)]
    case measure=>simp [intOf];omega
  ·obtain rfl:k=sz:=by omega
   have HF:=Lh (HR.out.finish (l:=ord cs hd k) (by
    unfold ord
    exact List.map_congr_left fun j hj=>if_pos (List.mem_range.1 hj)) k (by omega) (nLR _) (by unfold maxLen;omega))
   have HW:=Lh (wn_row HR.out.row (show w.heap.size<=q by have:=HR.out.old;omega) (show (List.range k).map (fun j=>if j<k then cel cs hd j else zM)=ord cs hd k by
    unfold ord
    exact List.map_congr_left fun j hj=>if_pos (List.mem_range.1 hj)) (by unfold maxLen;omega))
   go_wp2
   go_ret
   exact ⟨_,k,by rw [ord_len];rfl,HW.out,HF.out.2⟩
theorem glist_wn (A:Option Addr) (n c:Nat) (cs:List Msg) (hd sz:Int) (w:World) (hv:Ls w w.heap.size (.slice A n c) cs) :
  Calls Tryz.prog 146 #[.agg #[.slice A n c,.int .i64 hd,.int .i64 sz]] w (LsW (lsF cs hd sz) w):=by
 obtain ⟨rfl,_,_⟩:=hv.len
 have HV:=Lh hv
 have HS:=Lh (RgAt.start w A cs.length c hd sz 66)
 have HG:=Lh (fun w1 (h:Ls w1 w1.heap.size (.slice A cs.length c) cs)=>gvalid_any A cs.length c cs hd sz w1 h)
 clear hv
 by_cases h0:rgV cs hd sz=0
 ·obtain ⟨hn,_,_,_⟩:=rgV_zero h0
  obtain ⟨⟨n1,n2⟩,⟨h1,h2⟩,⟨s1,s2⟩⟩:=nm_of hn
  obtain ⟨hd,rfl⟩:=Int.eq_ofNat_of_zero_le h1
  obtain ⟨sz,rfl⟩:=Int.eq_ofNat_of_zero_le s1
  have HO:=Lh (fun w1 (h:Ls w1 w1.heap.size (.slice A cs.length c) cs)=>ordered_wn A cs.length c cs hd sz w1 h hn)
  have HF:=Lh (show lsF cs hd sz=ord cs hd sz from if_pos h0)
  rw [h0] at HG
  clear h0 hn n1 n2 h1 h2 s1 s2
  go_enter Tryz.func146,Tryz.ntmps146
  go_wp2_with fail
  refine (HG.out _ ((HV.out.below HS.out.bel).more HS.out.bel.size)).mono ?_
  rintro e w1 ⟨rfl,hb⟩
  have HR1:=Lh (HS.out.below hb)
  obtain ⟨r0,r1,r2,hp⟩:=HR1.out.facts
  clear hb
  go_wp2_with fail
  refine (HO.out _ ((HV.out.below HR1.out.bel).more HR1.out.bel.size)).mono ?_
  rintro e w2 ⟨A2,c2,rfl,hl,hb⟩
  have HL:=Lh (Wn.base (show Wn _ _ _ _ _ from hl) HR1.out.bel.size)
  have HB:=Lh (HR1.out.bel.trans (hb.mono HR1.out.bel.size))
  clear hl hb
  go_wp2
  go_ret
  rw [HF.out]
  exact ⟨_,_,rfl,HL.out,HB.out⟩
 ·have HF:=Lh (show lsF cs hd sz=[] from if_neg h0)
  have hne:(rgV cs hd sz != 0)=true:=bne_iff_ne.2 h0
  generalize rgV cs hd sz=x at*
  clear h0
  go_enter Tryz.func146,Tryz.ntmps146
  go_wp2_with fail
  refine (HG.out _ ((HV.out.below HS.out.bel).more HS.out.bel.size)).mono ?_
  rintro e w1 ⟨rfl,hb⟩
  have HR1:=Lh (HS.out.below hb)
  clear hb
  go_wp2
  go_ret
  rw [HF.out]
  exact ⟨none,0,rfl,Wn.nil,HR1.out.bel⟩
end Go.Proofs.YtkecnihgjepfeaaGreat
