/- What is proved here: parts of the proof: Sdir Dbt Gr Ys Qm Lcl. -/
import Derived.Test.YtkecnihgjepfeaaGreatJ14
import Derived.Test.YtkecnihgjepfeaaGreatJ10
import Derived.Shelf.Spec.SlicesGrow
namespace Go.Proofs.YtkecnihgjepfeaaGreat
open Go.RowKit
set_option linter.unusedVariables false
set_option linter.unusedSimpArgs false
set_option maxHeartbeats 8000000
set_option maxRecDepth 20000
def SrDir (B g:Nat) (w:World) (e:Ending) (w' : World):Prop:=∃ (D:Dd) (X:Dx),e=.returned (dv D X)/\vaD D=0/\DR w' w'.heap.size D X/\X.nw w.heap.size/\SrcAt w' B g/\w.grownBy w' (some g)
structure DgAt (w:World) (B g r p:Nat) (d:Dd) (X:Dx) (W:World):Prop where
 src:SrcAt W B g
 db:Db10 W p d X
 dr:DR W W.heap.size d X
 op:DOff d X p
 nw:X.nw (r+1)
 ne:g<w.heap.size/\w.heap.size<=r/\r<p
 rb:Db10 W r zD10 zDx
 gr:w.grownBy W (some g)
section
variable {w W W' : World} {B g r p:Nat} {d:Dd} {X:Dx}
end
structure DgN (w:World) (B g r p:Nat) (d:Dd) (X:Dx) (oz:Option Nat) (W:World):Prop where
 ds:DgAt w B g r p d X W
 zb:∀ z,oz=some z->Db10 W z zD10 zDx/\z≠g/\z≠p/\w.heap.size<=z/\DOff d X z/\z≠r
section
variable {w W W' : World} {B g r p:Nat} {d:Dd} {X:Dx} {oz:Option Nat}
end
section
variable {w W W' : World} {B g r p:Nat} {d d' : Dd} {X Y:Dx}
end
structure Rb (W:World) (q:Nat) (cs:List Value):Prop where
 c:∀ (j:Nat) (u:Value),cs[j]? = some u->W.cell? ⟨q,j,none⟩=some u
 f:∀ o,W.frozen? ⟨q,o,none⟩=false
 lt:q<W.heap.size
section
variable {W W' : World} {q g:Nat} {cs:List Value}
theorem Rb.up (h:Rb W q cs) (hb:Below W.heap.size W W'):Rb W' q cs:=⟨fun j u hu=>(hb.cell (p:=⟨q,j,none⟩) h.lt).trans (h.c j u hu),fun o=>(hb.frozen (p:=⟨q,o,none⟩) h.lt).trans (h.f o),Nat.lt_of_lt_of_le h.lt hb.size⟩
theorem Rb.grown (h:Rb W q cs) (hg:W.grownBy W' (some g)) (hne:q≠g):Rb W' q cs:=
 ⟨fun j u hu=>(hg.cell_far ⟨q,j,none⟩ h.lt (fun e=>by injection e with e;exact hne e)).trans (h.c j u hu),fun o=>(hg.frozen_far ⟨q,o,none⟩ h.lt (fun e=>by injection e with e;exact hne e)).trans (h.f o),Nat.lt_of_lt_of_le h.lt hg.size⟩
theorem Rb.other (h:Rb W q cs) {a:Addr} (hne:a.block≠q) (v:Value):Rb (W.setCell a v) q cs:=
 ⟨fun j u hu=>(World.cell?_setCell_other W a ⟨q,j,none⟩ v (fun e=>hne (by rw [e]))).trans (h.c j u hu),fun o=>by rw [World.frozen?_setCell];exact h.f o,by simpa using h.lt⟩
theorem Rb.set (h:Rb W q cs) {j:Nat} (hj:j<cs.length) (v:Value):Rb (W.setCell ⟨q,j,none⟩ v) q (cs.set j v):=by
 refine ⟨fun i u hu=>?_,fun o=>by rw [World.frozen?_setCell];exact h.f o,by simpa using h.lt⟩
 by_cases e:i=j
 ·subst e
  rw [List.getElem?_set_self hj] at hu
  injection hu with hu
  subst hu
  exact World.cell?_setCell_same' W _ _ (by rw [h.c i _ (List.getElem?_eq_getElem hj)];rfl)
 ·rw [List.getElem?_set_ne (fun e'=>e e'.symm)] at hu
  exact (World.cell?_setCell_other W _ _ _ (fun e'=>by injection e' with _ e2;exact e e2.symm)).trans (h.c i u hu)
theorem Rb.of_own {base size n cap:Nat} {e:TypeId} (h:W.ownsRow base e size (.slice (some ⟨q,0,none⟩) n cap) n cs):Rb W q cs:=
 ⟨fun j u hu=>by have:=h.cells (g:=q) rfl j u hu;rw [add_mk,Nat.zero_add] at this;exact this,fun o=>h.frozenAt o,(h.lt q rfl).2⟩
theorem Rb.fl {F:List Int} {c:Nat} (h:Rb W q (ics F)) (hc:F.length<=c) (hm:c<=maxLen):Fl W W.heap.size (.slice (some ⟨q,0,none⟩) F.length c) F:=
 ⟨_,c,rfl,hc,hm,by rw [ics_len],fun _=>⟨q,0,rfl,h.lt,fun j u hu=>by rw [Nat.zero_add];exact h.c j u hu⟩⟩
end
theorem own_rb {W:World} {base size n:Nat} {e:TypeId} {v:Value} {cs:List Value} (ho:W.ownsRow base e size v n cs) (h0:0<n):∃ q cap,v=.slice (some ⟨q,0,none⟩) n cap/\base<=q/\n<=cap/\cap<=maxLen/\Rb W q cs:=by
 rcases ho.2 with ⟨_,h⟩ | ⟨q,cap,cur,hv,hq,_,hl,hm,_⟩
 ·omega
 ·subst hv
  exact ⟨q,cap,rfl,hq,hl,hm,Rb.of_own ho⟩
structure Be10 (w:World) (g p q1 c1:Nat) (d:Dd) (A2:Option Addr) (c2:Nat) (W:World):Prop where
 src:SrcAt W w.heap.size g
 db:Db10 W p d ⟨some ⟨q1,0,none⟩,c1,A2,c2⟩
 r1:Rb W q1 (scs d.l)
 fl:Fl W W.heap.size (.slice A2 d.F.length c2) d.F
 bel:Below w.heap.size w W
 ord:w.heap.size<=g/\g<p/\p<q1
 cap:d.l.length<=c1/\c1<=maxLen
 off:∀ a,A2=some a->0<d.F.length->a.block≠p
structure Bf10 (w:World) (g p q1 c1 q2 c2:Nat) (d:Dd) (W:World):Prop where
 src:SrcAt W w.heap.size g
 db:Db10 W p d ⟨some ⟨q1,0,none⟩,c1,some ⟨q2,0,none⟩,c2⟩
 r1:Rb W q1 (scs d.l)
 r2:Rb W q2 (ics d.F)
 bel:Below w.heap.size w W
 ord:w.heap.size<=g/\g<p/\p<q1/\q1<q2
 cap:(d.l.length<=c1/\c1<=maxLen)/\d.F.length<=c2/\c2<=maxLen
section
variable {w W W' : World} {g p q1 c1 q2 c2:Nat} {d:Dd} {X:Dx} {A2:Option Addr}
end
end Go.Proofs.YtkecnihgjepfeaaGreat
/- Plain: rows of records in memory, whatever the records are; a box of cells that is stored whole. -/
namespace Go.Proofs.YtkecnihgjepfeaaGreat
open Go.RowKit
set_option linter.unusedVariables false
set_option linter.unusedSimpArgs false
set_option maxHeartbeats 8000000
set_option maxRecDepth 20000
structure Rw15 where
 z:Nat
 A:Option Addr
 n:Nat
 xs:List Value
def RR (W:World) (B:Nat) (rs:List Rw15):Prop:=∀ r∈rs,Rd W B r.z r.A r.n r.xs
def ROff (rs:List Rw15) (p:Nat):Prop:=∀ r∈rs,OffB p r.n r.A
def RNw (rs:List Rw15) (lo:Nat):Prop:=∀ r∈rs,Nw lo r.A
section
variable {W W' w:World} {B B' p lo lo' g:Nat} {rs ss:List Rw15}
theorem RR.below (h:RR W B rs) (hb:Below B W W'):RR W' B rs:=fun r hr=>(h r hr).below hb
theorem RR.more (h:RR W B rs) (hB:B<=B'):RR W B' rs:=fun r hr=>(h r hr).more hB
theorem RR.up (h:RR W W.heap.size rs) (hb:Below W.heap.size W W'):RR W' W'.heap.size rs:=(h.below hb).more hb.size
theorem RR.alloc (h:RR W W.heap.size rs) (o:Obj):RR (W.alloc o) (W.alloc o).heap.size rs:=h.up ((Below.refl _ _).alloc (nLR _) o)
theorem RR.offp (h:RR W B rs) {q:Addr} (ho:ROff rs q.block) (v:Value):RR (W.setCell q v) B rs:=fun r hr=>(h r hr).offp (ho r hr) v
theorem RR.app (h:RR W B rs) (k:RR W B ss):RR W B (rs++ss):=fun r hr=>by rcases List.mem_append.1 hr with h1 | h1;exact h r h1;exact k r h1
theorem RR.sub (h:RR W B rs) (hs:∀ r∈ss,r∈rs):RR W B ss:=fun r hr=>h r (hs r hr)
theorem ROff.app (h:ROff rs p) (k:ROff ss p):ROff (rs++ss) p:=fun r hr=>by rcases List.mem_append.1 hr with h1 | h1;exact h r h1;exact k r h1
theorem ROff.sub (h:ROff rs p) (hs:∀ r∈ss,r∈rs):ROff ss p:=fun r hr=>h r (hs r hr)
theorem RNw.app (h:RNw rs lo) (k:RNw ss lo):RNw (rs++ss) lo:=fun r hr=>by rcases List.mem_append.1 hr with h1 | h1;exact h r h1;exact k r h1
theorem RNw.sub (h:RNw rs lo) (hs:∀ r∈ss,r∈rs):RNw ss lo:=fun r hr=>h r (hs r hr)
theorem RNw.off (h:RNw rs lo) (hp:p<lo):ROff rs p:=fun r hr=>offb_nw (h r hr) hp
theorem RNw.low (h:RNw rs lo) (hl:lo'<=lo):RNw rs lo':=fun r hr=>nw_low (h r hr) hl
theorem RR.offs (h:RR W B rs) (hp:B<=p):ROff rs p:=fun r hr=>fun hn a ha=>by
 obtain ⟨b,o,e,hb,-⟩:=(h r hr).2 hn
 rw [ha] at e
 injection e with e
 subst e
 show b≠p
 omega
theorem RR.grown (h:RR W W.heap.size rs) (hg:W.grownBy W' (some g)) (ho:ROff rs g):RR W' W'.heap.size rs:=fun r hr=>
 Rd.more ⟨(h r hr).1,fun h0=>by
  obtain ⟨b,o,e,hb,hc⟩:=(h r hr).2 h0
  have hne:b≠g:=ho r hr h0 _ e
  exact ⟨b,o,e,hb,fun j u hu=>(hg.cell_far ⟨b,o+j,none⟩ hb (fun e=>by injection e with e;exact hne e)).trans (hc j u hu)⟩⟩ hg.size
theorem RR.grownN {g:Option Nat} (h:RR W W.heap.size rs) (hg:W.grownBy W' g) (ho:∀ b,g=some b->ROff rs b):RR W' W'.heap.size rs:=by
 cases g with
 | none=>exact h.up ((Below.refl _ _).grown hg (nLR _) (fun k e=>by cases e))
 | some b=>exact h.grown hg (ho b rfl)
end
def stN15 (W:World) (p:Nat):Nat->List Value->World
 | _,[]=>W
 | o,v::vs=>stN15 (W.setCell ⟨p,o,none⟩ v) p (o+1) vs
section
variable {W w:World} {B p q:Nat} {rs:List Rw15} {vs cs:List Value}
theorem stN15_size (o:Nat):(stN15 W p o vs).heap.size=W.heap.size:=by
 induction vs generalizing W o with
 | nil=>rfl
 | cons v vs ih=>rw [stN15,ih];simp
theorem stN15_below (h:Below B w W) (hp:B<=p) (o:Nat):Below B w (stN15 W p o vs):=by
 induction vs generalizing W o with
 | nil=>exact h
 | cons v vs ih=>exact ih (h.setCell (p:=⟨p,o,none⟩) hp v) (o+1)
theorem RR.stN (h:RR W B rs) (ho:ROff rs p) (o:Nat):RR (stN15 W p o vs) B rs:=by
 induction vs generalizing W o with
 | nil=>exact h
 | cons v vs ih=>exact ih (h.offp (q:=⟨p,o,none⟩) ho v) (o+1)
theorem Rb.stNo (h:Rb W q cs) (hp:p≠q) (o:Nat):Rb (stN15 W p o vs) q cs:=by
 induction vs generalizing W o with
 | nil=>exact h
 | cons v vs ih=>exact ih (h.other (a:=⟨p,o,none⟩) hp v) (o+1)
theorem rb_stN_at (h:Rb W p cs) (o:Nat) (ho:o+vs.length<=cs.length):Rb (stN15 W p o vs) p (cs.take o++vs++cs.drop (o+vs.length)):=by
 induction vs generalizing W o cs with
 | nil=>
  show Rb W p _
  simpa using h
 | cons v vs ih=>
  have hl:o<cs.length:=by simp at ho;omega
  have h1:=ih (h.set hl v) (o+1) (by simp at ho ⊢;omega)
  rw [stN15]
  have e:(cs.set o v).take (o+1)++vs++(cs.set o v).drop (o+1+vs.length)=cs.take o++(v::vs)++cs.drop (o+(v::vs).length):=by
   have e1:(cs.set o v).take (o+1)=cs.take o++[v]:=by
    rw [List.take_set,List.take_add_one,List.getElem?_eq_getElem hl,List.set_append_right _ _ (by simp;omega)]
    simp [Nat.min_eq_left (Nat.le_of_lt hl)]
   have e2:(cs.set o v).drop (o+1+vs.length)=cs.drop (o+(v::vs).length):=by
    rw [List.drop_set_of_lt (by omega)]
    simp [Nat.add_comm,Nat.add_left_comm]
   rw [e1,e2]
   simp
  rw [e] at h1
  exact h1
theorem Rb.stN (h:Rb W p cs) (hl:vs.length=cs.length):Rb (stN15 W p 0 vs) p vs:=by
 have h1:=rb_stN_at (vs:=vs) h 0 (by omega)
 simpa [hl] using h1
theorem Rb.start (W:World) (cs:List Value) (t:TypeId):Rb (W.alloc (.cells cs.toArray t)) W.heap.size cs:=
 ⟨fun j u hu=>by simp [go_sem,hu],fun o=>by simp [go_sem],by simp⟩
end
theorem stN15_set (W:World) (p:Nat) (vs:List Value) (o:Nat):stN15 W p o vs=W.setCells p o vs:=by
 induction vs generalizing W o with
 | nil=>rfl
 | cons v vs ih=>exact ih _ _
theorem Rb.range {W:World} {q:Nat} {cs:List Value} (h:Rb W q cs):W.rangeAt q 0 cs:=fun j v hv=>by rw [Nat.zero_add];exact h.c j v hv
theorem Rb.there {W:World} {q:Nat} {cs:List Value} (h:Rb W q cs):W.there q 0 cs.length:=fun j hj=>by
 rw [Nat.zero_add]
 exact ⟨by rw [h.c j _ (List.getElem?_eq_getElem hj)];rfl,h.f j⟩
theorem wpList_store_rb {P:Program} {ops:Array Oper} {rest:List Oper} {op:Oper} {a:Act} {W:World} {Q:Exit->Act->World->Prop} (hgd:op.guard=none) (ty:TypeId) (x y:Operand) (ho:op.op=.store ty x y) (b:Nat) (vs cs:List Value) (hx:a.eval x=.pointer (some ⟨b,0,none⟩)) (hy:a.eval y=.agg cs.toArray) (hr:Rb W b vs) (hl:vs.length=cs.length) (hi:(P.info? ty).map (·.size)=some cs.length) (h1:cs.toArray.all (·.oneCell')=true) (h:∀ W',W' = stN15 W b 0 cs->Rb W' b cs->wpList P ops Q rest (a.put op.dst undef) W'):wpList P ops Q (op::rest) a W:=by
 refine wpList_store_mid hgd ty x y ho b 0 cs.toArray hx hy ?_ ?_ h1 ?_
 ·have:=hr.there
  rw [hl] at this
  simpa using this
 ·simpa using hi
 ·have e:W.setCells b 0 cs.toArray.toList=stN15 W b 0 cs:=by rw [stN15_set]
  rw [e]
  exact h _ rfl (hr.stN hl.symm)
end Go.Proofs.YtkecnihgjepfeaaGreat
namespace Go.Proofs.YtkecnihgjepfeaaGreat
open Go.RowKit
set_option linter.unusedVariables false
set_option linter.unusedSimpArgs false
set_option maxHeartbeats 8000000
set_option maxRecDepth 20000
structure St where
 sq:Int
 ep:Int
 rd:Int
 ls:Int
deriving DecidableEq
abbrev zSt:St:=⟨0,0,0,0⟩
def tg (l:List St) (k:Nat):St:=l.getD k zSt
theorem tg_get {l:List St} {k:Nat} (h:k<l.length):tg l k=l[k]:=by simp [tg,List.getD,h]
def St.l (d:St):List Value:=[.int .i64 d.sq,.int .i64 d.ep,.int .i64 d.rd,.int .i64 d.ls]
abbrev St.v (d:St):Value:=.agg #[.int .i64 d.sq,.int .i64 d.ep,.int .i64 d.rd,.int .i64 d.ls]
theorem St.l_len (d:St):d.l.length=4:=rfl
theorem St.l_one (d:St):∀ u∈d.l,u.oneCell' = true:=by
 intro u hu
 simp only [St.l,List.mem_cons,List.not_mem_nil,or_false] at hu
 rcases hu with rfl | rfl | rfl | rfl <;> rfl
def tcs (l:List St):List Value:=l.flatMap St.l
theorem tcs_cons (d:St) (l:List St):tcs (d::l)=d.l++tcs l:=rfl
theorem tcs_app (l m:List St):tcs (l++m)=tcs l++tcs m:=by simp [tcs]
theorem tcs_len (l:List St):(tcs l).length=l.length*4:=by
 induction l with
 | nil=>rfl
 | cons d l ih=>rw [tcs_cons,List.length_append,ih,St.l_len];simp;omega
theorem tcs_drop (l:List St) (k:Nat):(tcs l).drop (k*4)=tcs (l.drop k):=by
 induction k generalizing l with
 | zero=>simp
 | succ k ih=>
  cases l with
  | nil=>simp [tcs]
  | cons d l=>
   rw [tcs_cons,List.drop_succ_cons,<-ih,show (k+1)*4=d.l.length+k*4 by rw [St.l_len];omega,List.drop_append,List.drop_eq_nil_of_le (by omega)]
   simp
theorem tcs_at (l:List St) (k j:Nat) (hk:k<l.length) (hj:j<4):(tcs l)[k*4+j]? = l[k].l[j]?:=by
 have h:=tcs_drop l k
 have e:(tcs l)[k*4+j]? = ((tcs l).drop (k*4))[j]?:=by rw [List.getElem?_drop]
 rw [e,h,List.drop_eq_getElem_cons hk,tcs_cons,List.getElem?_append_left (by rw [St.l_len];exact hj)]
theorem tcs_one (l:List St):∀ u∈tcs l,u.oneCell' = true:=by
 intro u hu
 obtain ⟨M,_,h⟩:=List.mem_flatMap.1 hu
 exact M.l_one u h
theorem tcs_one1 (d:St):tcs [d]=d.l:=by simp [tcs]
def Tl (w:World) (B:Nat) (v:Value) (l:List St):Prop:=∃ A c,v=.slice A l.length c/\l.length<=c/\c<=maxLen/\Rd w B 4 A l.length (tcs l)
section
variable {w w' : World} {B B' : Nat} {v:Value} {l:List St} {A:Option Addr} {n c:Nat}
theorem Tl.nil:Tl w B (.slice none 0 0) []:=⟨none,0,rfl,nLR _,Nat.zero_le _,Rd.nil none⟩
theorem Tl.keep (h:Tl w B v l) (hk:∀ p:Addr,p.block<B->w'.cell? p=w.cell? p):Tl w' B v l:=by
 obtain ⟨A,c,e,hl,hm,h⟩:=h;exact ⟨A,c,e,hl,hm,h.keep hk⟩
theorem Tl.more (h:Tl w B v l) (hB:B<=B'):Tl w B' v l:=by
 obtain ⟨A,c,e,hl,hm,h⟩:=h;exact ⟨A,c,e,hl,hm,h.more hB⟩
theorem Tl.below (h:Tl w B v l) (hb:Below B w w'):Tl w' B v l:=h.keep fun _ hp=>hb.cell hp
theorem Tl.up (h:Tl w w.heap.size v l) (hb:Below w.heap.size w w'):Tl w' w'.heap.size v l:=(h.below hb).more hb.size
theorem Tl.alloc (h:Tl w B v l) (hB:B<=w.heap.size) (o:Obj):Tl (w.alloc o) B v l:=h.keep fun p hp=>World.cell?_alloc_lt w o p (by omega)
theorem Tl.len (h:Tl w B (.slice A n c) l):n=l.length/\n<=c/\c<=maxLen:=by
 obtain ⟨A',c',e,hl,hm,h⟩:=h
 injection e with e1 e2 e3
 subst e2;subst e3
 exact ⟨rfl,hl,hm⟩
theorem Tl.rd (h:Tl w B (.slice A n c) l):Rd w B 4 A n (tcs l):=by
 obtain ⟨A',c',e,hl,hm,h⟩:=h
 injection e with e1 e2 e3
 subst e1;subst e2
 exact h
theorem Tl.of_own {base:Nat} {e:TypeId} {n:Nat} (h:w.ownsRow base e 4 v n (tcs l)):Tl w w.heap.size v l:=by
 have hl:n=l.length:=by have:=h.1;rw [tcs_len] at this;omega
 subst hl
 rcases h.2 with ⟨hv,h0⟩ | ⟨g,cap,cur,hv,_,_,hl,hm,_⟩
 ·subst hv;exact ⟨none,0,by rw [h0],by omega,Nat.zero_le _,by rw [show l=[] from List.length_eq_zero_iff.1 h0];exact Rd.nil _⟩
 ·subst hv;exact ⟨_,cap,rfl,hl,hm,Rd.of_own h⟩
theorem Tl.offp (h:Tl w B (.slice A n c) l) {p:Addr} (ho:∀ a,A=some a->0<n->a.block≠p.block) (v:Value):Tl (w.setCell p v) B (.slice A n c) l:=by
 obtain ⟨h1,h2,h3⟩:=h.len
 subst h1
 refine ⟨A,c,rfl,h2,h3,h.rd.1,fun hn=>?_⟩
 obtain ⟨b,o,e,hb,hc⟩:=h.rd.2 hn
 have:=ho _ e hn
 exact ⟨b,o,e,hb,fun j u hu=>(World.cell?_setCell_other w p _ v (fun e'=>by have e2:=congrArg Addr.block e';simp at e2 this;omega)).trans (hc j u hu)⟩
theorem Tl.atg {k:Nat} (h:Tl w B (.slice A n c) l) (hk:k<l.length):∃ b o,A=some ⟨b,o,none⟩/\b<B/\w.cell? ⟨b,o+k*4,none⟩=some (.int .i64 (tg l k).sq)/\w.cell? ⟨b,o+k*4+1,none⟩=some (.int .i64 (tg l k).ep)/\w.cell? ⟨b,o+k*4+2,none⟩=some (.int .i64 (tg l k).rd)/\w.cell? ⟨b,o+k*4+3,none⟩=some (.int .i64 (tg l k).ls):=by
 have hn:=h.len.1
 obtain ⟨b,o,e,hb,hc⟩:=h.rd.2 (by omega)
 have g:∀ j u,j<4->l[k].l[j]? = some u->w.cell? ⟨b,o+k*4+j,none⟩=some u:=fun j u hj hu=>by
  rw [Nat.add_assoc];exact hc _ u (by rw [tcs_at l k j hk hj];exact hu)
 rw [tg_get hk]
 exact ⟨b,o,e,hb,g 0 _ (by omega) rfl,g 1 _ (by omega) rfl,g 2 _ (by omega) rfl,g 3 _ (by omega) rfl⟩
end
theorem tmod2 (n:Int):(n.tmod 2=0↔n % 2=0):=by
 rw [<-Int.dvd_iff_tmod_eq_zero,<-Int.dvd_iff_emod_eq_zero]
abbrev nbP (n:Int):Prop:=0<=n/\n<=1099511627776
def nbB (n:Int):Bool:=decide (nbP n)
theorem nbB_yes {n:Int} (h:nbP n):nbB n=true:=decide_eq_true h
theorem nbB_no {n:Int} (h:¬nbP n):nbB n=false:=decide_eq_false h
def evB (n:Int):Bool:=decide (n % 2=0)
theorem evB_yes {n:Int} (h:n % 2=0):evB n=true:=decide_eq_true h
theorem evB_no {n:Int} (h:¬n % 2=0):evB n=false:=decide_eq_false h
theorem evB_not (n:Int):(n.tmod 2 != 0) = !evB n:=by
 have:=tmod2 n
 by_cases h:n % 2=0
 ·rw [evB_yes h,this.2 h];rfl
 ·have h2:¬n.tmod 2=0:=fun g=>h (this.1 g)
  rw [evB_no h];simp [h2]
def bgE (s:St):Int:=if ¬nbP s.sq then 1 else if s.sq % 2=1 then 7 else if 1099511627774<s.sq then 6 else 0
def bgT (s:St):St:=if bgE s=0 then ⟨s.sq+1,s.ep,s.rd,s.ls⟩ else zSt
theorem bg_1 {s:St} (h:¬nbP s.sq):bgE s=1/\bgT s=zSt:=by
 have e:bgE s=1:=if_pos h
 exact ⟨e,by unfold bgT;rw [e];rfl⟩
theorem bg_7 {s:St} (h:nbP s.sq) (h1:s.sq % 2=1):bgE s=7/\bgT s=zSt:=by
 have e:bgE s=7:=by unfold bgE;rw [if_neg (fun g=>g h),if_pos h1]
 exact ⟨e,by unfold bgT;rw [e];rfl⟩
theorem bg_6 {s:St} (h:nbP s.sq) (h1:¬s.sq % 2=1) (h2:1099511627774<s.sq):bgE s=6/\bgT s=zSt:=by
 have e:bgE s=6:=by unfold bgE;rw [if_neg (fun g=>g h),if_neg h1,if_pos h2]
 exact ⟨e,by unfold bgT;rw [e];rfl⟩
theorem bg_0 {s:St} (h:nbP s.sq) (h1:¬s.sq % 2=1) (h2:¬1099511627774<s.sq):bgE s=0/\bgT s=⟨s.sq+1,s.ep,s.rd,s.ls⟩:=by
 have e:bgE s=0:=by unfold bgE;rw [if_neg (fun g=>g h),if_neg h1,if_neg h2]
 exact ⟨e,by unfold bgT;rw [if_pos e]⟩
def quB (l:List St):Bool:=l.all fun s=>decide (s.sq % 2=0)
theorem quB_yes {l:List St} (h:∀ j,j<l.length->(tg l j).sq % 2=0):quB l=true:=List.all_eq_true.2 fun s hs=>by
 obtain ⟨j,hj,rfl⟩:=List.getElem_of_mem hs
 have:=h j hj
 rw [tg_get hj] at this
 exact decide_eq_true this
theorem quB_no {l:List St} {j:Nat} (hj:j<l.length) (h:¬(tg l j).sq % 2=0):quB l=false:=by
 cases e:quB l with
 | false=>rfl
 | true=>
  have:=List.all_eq_true.1 e _ (List.getElem_mem hj)
  rw [tg_get hj] at h
  exact absurd (of_decide_eq_true this) h
end Go.Proofs.YtkecnihgjepfeaaGreat
/- Plain: slots and arenas in memory. -/
namespace Go.Proofs.YtkecnihgjepfeaaGreat
open Go.RowKit
set_option linter.unusedVariables false
set_option linter.unusedSimpArgs false
set_option maxHeartbeats 8000000
set_option maxRecDepth 20000
structure So where
 ow:Int
 sh:Sh
structure Sl where
 ow:Int
 sh:Sh
 sx:Sx
def Sl.so (s:Sl):So:=⟨s.ow,s.sh⟩
def zSl:Sl:=⟨0,zS,zX⟩
def Sl.l (s:Sl):List Value:=[.int .i64 s.ow,.bool s.sh.lv,.int .i64 s.sh.lo,.int .i64 s.sh.hi,.slice s.sx.A s.sh.cs.length s.sx.c,.int .i64 s.sh.hd,.int .i64 s.sh.sz,.slice s.sx.A2 s.sh.l.length s.sx.c2,.slice s.sx.A3 s.sh.h.length s.sx.c3]
abbrev Sl.v (s:Sl):Value:=.agg #[.int .i64 s.ow,.bool s.sh.lv,.int .i64 s.sh.lo,.int .i64 s.sh.hi,.slice s.sx.A s.sh.cs.length s.sx.c,.int .i64 s.sh.hd,.int .i64 s.sh.sz,.slice s.sx.A2 s.sh.l.length s.sx.c2,.slice s.sx.A3 s.sh.h.length s.sx.c3]
theorem Sl.l_len (s:Sl):s.l.length=9:=rfl
theorem Sl.l_one (s:Sl):∀ u∈s.l,u.oneCell' = true:=by
 intro u hu
 simp only [Sl.l,List.mem_cons,List.not_mem_nil,or_false] at hu
 rcases hu with rfl | rfl | rfl | rfl | rfl | rfl | rfl | rfl | rfl <;> rfl
theorem sl_so {s:Sl} {o:So} (h:s.so=o):s.ow=o.ow/\s.sh=o.sh:=by subst h;exact ⟨rfl,rfl⟩
def qcs (l:List Sl):List Value:=l.flatMap Sl.l
theorem qcs_cons (d:Sl) (l:List Sl):qcs (d::l)=d.l++qcs l:=rfl
theorem qcs_len (l:List Sl):(qcs l).length=l.length*9:=by
 induction l with
 | nil=>rfl
 | cons d l ih=>rw [qcs_cons,List.length_append,ih,Sl.l_len];simp;omega
theorem qcs_drop (l:List Sl) (k:Nat):(qcs l).drop (k*9)=qcs (l.drop k):=by
 induction k generalizing l with
 | zero=>simp
 | succ k ih=>
  cases l with
  | nil=>simp [qcs]
  | cons d l=>
   rw [qcs_cons,List.drop_succ_cons,<-ih,show (k+1)*9=d.l.length+k*9 by rw [Sl.l_len];omega,List.drop_append,List.drop_eq_nil_of_le (by omega)]
   simp
theorem qcs_at (l:List Sl) (k j:Nat) (hk:k<l.length) (hj:j<9):(qcs l)[k*9+j]? = l[k].l[j]?:=by
 have h:=qcs_drop l k
 have e:(qcs l)[k*9+j]? = ((qcs l).drop (k*9))[j]?:=by rw [List.getElem?_drop]
 rw [e,h,List.drop_eq_getElem_cons hk,qcs_cons,List.getElem?_append_left (by rw [Sl.l_len];exact hj)]
theorem qcs_one (l:List Sl):∀ u∈qcs l,u.oneCell' = true:=by
 intro u hu
 obtain ⟨M,_,h⟩:=List.mem_flatMap.1 hu
 exact M.l_one u h
def Ql (w:World) (B:Nat) (v:Value) (l:List Sl):Prop:=∃ A c,v=.slice A l.length c/\l.length<=c/\c<=maxLen/\Rd w B 9 A l.length (qcs l)
section
variable {w w' : World} {B B' : Nat} {v:Value} {l:List Sl} {A:Option Addr} {n c:Nat}
theorem Ql.nil:Ql w B (.slice none 0 0) []:=⟨none,0,rfl,nLR _,Nat.zero_le _,Rd.nil none⟩
theorem Ql.keep (h:Ql w B v l) (hk:∀ p:Addr,p.block<B->w'.cell? p=w.cell? p):Ql w' B v l:=by
 obtain ⟨A,c,e,hl,hm,h⟩:=h;exact ⟨A,c,e,hl,hm,h.keep hk⟩
theorem Ql.more (h:Ql w B v l) (hB:B<=B'):Ql w B' v l:=by
 obtain ⟨A,c,e,hl,hm,h⟩:=h;exact ⟨A,c,e,hl,hm,h.more hB⟩
theorem Ql.below (h:Ql w B v l) (hb:Below B w w'):Ql w' B v l:=h.keep fun _ hp=>hb.cell hp
theorem Ql.alloc (h:Ql w B v l) (hB:B<=w.heap.size) (o:Obj):Ql (w.alloc o) B v l:=h.keep fun p hp=>World.cell?_alloc_lt w o p (by omega)
theorem Ql.len (h:Ql w B (.slice A n c) l):n=l.length/\n<=c/\c<=maxLen:=by
 obtain ⟨A',c',e,hl,hm,h⟩:=h
 injection e with e1 e2 e3
 subst e2;subst e3
 exact ⟨rfl,hl,hm⟩
theorem Ql.rd (h:Ql w B (.slice A n c) l):Rd w B 9 A n (qcs l):=by
 obtain ⟨A',c',e,hl,hm,h⟩:=h
 injection e with e1 e2 e3
 subst e1;subst e2
 exact h
theorem Ql.of_own {base:Nat} {e:TypeId} {n:Nat} (h:w.ownsRow base e 9 v n (qcs l)):Ql w w.heap.size v l:=by
 have hl:n=l.length:=by have:=h.1;rw [qcs_len] at this;omega
 subst hl
 rcases h.2 with ⟨hv,h0⟩ | ⟨g,cap,cur,hv,_,_,hl,hm,_⟩
 ·subst hv;exact ⟨none,0,by rw [h0],by omega,Nat.zero_le _,by rw [show l=[] from List.length_eq_zero_iff.1 h0];exact Rd.nil _⟩
 ·subst hv;exact ⟨_,cap,rfl,hl,hm,Rd.of_own h⟩
theorem Ql.offp (h:Ql w B (.slice A n c) l) {p:Addr} (ho:∀ a,A=some a->0<n->a.block≠p.block) (v:Value):Ql (w.setCell p v) B (.slice A n c) l:=by
 obtain ⟨h1,h2,h3⟩:=h.len
 subst h1
 refine ⟨A,c,rfl,h2,h3,h.rd.1,fun hn=>?_⟩
 obtain ⟨b,o,e,hb,hc⟩:=h.rd.2 hn
 have:=ho _ e hn
 exact ⟨b,o,e,hb,fun j u hu=>(World.cell?_setCell_other w p _ v (fun e'=>by have e2:=congrArg Addr.block e';simp at e2 this;omega)).trans (hc j u hu)⟩
abbrev Q9 (W:World) (b o:Nat) (s:Sl):Prop:=W.cell? ⟨b,o,none⟩=some (.int .i64 s.ow)/\W.cell? ⟨b,o+1,none⟩=some (.bool s.sh.lv)/\W.cell? ⟨b,o+2,none⟩=some (.int .i64 s.sh.lo)/\W.cell? ⟨b,o+3,none⟩=some (.int .i64 s.sh.hi)/\W.cell? ⟨b,o+4,none⟩=some (.slice s.sx.A s.sh.cs.length s.sx.c)/\W.cell? ⟨b,o+5,none⟩=some (.int .i64 s.sh.hd)/\W.cell? ⟨b,o+6,none⟩=some (.int .i64 s.sh.sz)/\W.cell? ⟨b,o+7,none⟩=some (.slice s.sx.A2 s.sh.l.length s.sx.c2)/\W.cell? ⟨b,o+8,none⟩=some (.slice s.sx.A3 s.sh.h.length s.sx.c3)
theorem Ql.atg {k:Nat} (h:Ql w B (.slice A n c) l) (hk:k<l.length):∃ b o,A=some ⟨b,o,none⟩/\b<B/\Q9 w b (o+k*9) l[k]:=by
 have hn:=h.len.1
 obtain ⟨b,o,e,hb,hc⟩:=h.rd.2 (by omega)
 have g:∀ j u,j<9->l[k].l[j]? = some u->w.cell? ⟨b,o+k*9+j,none⟩=some u:=fun j u hj hu=>by
  rw [Nat.add_assoc];exact hc _ u (by rw [qcs_at l k j hk hj];exact hu)
 exact ⟨b,o,e,hb,g 0 _ (by omega) rfl,g 1 _ (by omega) rfl,g 2 _ (by omega) rfl,g 3 _ (by omega) rfl,g 4 _ (by omega) rfl,g 5 _ (by omega) rfl,g 6 _ (by omega) rfl,g 7 _ (by omega) rfl,g 8 _ (by omega) rfl⟩
end
structure Ar where
 sl:List So
 st:List St
 ow:Int
 cap:Int
 dl:List Msg
 dir:Dd
 ep:Int
 ck:Int
 ni:Int
def zA:Ar:=⟨[],[],0,0,[],zD10,0,0,0⟩
structure Ax where
 A:Option Addr
 c:Nat
 q:List Sl
 A2:Option Addr
 c2:Nat
 A3:Option Addr
 c3:Nat
 D:Dx
def zAx:Ax:=⟨none,0,[],none,0,none,0,zDx⟩
abbrev av (a:Ar) (Y:Ax):Value:=.agg #[.slice Y.A a.sl.length Y.c,.slice Y.A2 a.st.length Y.c2,.int .i64 a.ow,.int .i64 a.cap,.slice Y.A3 a.dl.length Y.c3,.int .i64 a.dir.vn,.slice Y.D.A a.dir.l.length Y.D.c,.slice Y.D.A2 a.dir.F.length Y.D.c2,.int .i64 a.ep,.int .i64 a.ck,.int .i64 a.ni]
abbrev acl (a:Ar) (Y:Ax):Array Value:=#[.slice Y.A a.sl.length Y.c,.slice Y.A2 a.st.length Y.c2,.int .i64 a.ow,.int .i64 a.cap,.slice Y.A3 a.dl.length Y.c3,.int .i64 a.dir.vn,.slice Y.D.A a.dir.l.length Y.D.c,.slice Y.D.A2 a.dir.F.length Y.D.c2,.int .i64 a.ep,.int .i64 a.ck,.int .i64 a.ni]
structure AR (W:World) (B:Nat) (a:Ar) (Y:Ax):Prop where
 ql:Ql W B (.slice Y.A a.sl.length Y.c) Y.q
 so:Y.q.map Sl.so=a.sl
 sr:∀ s∈Y.q,SR W B s.sh s.sx
 tl:Tl W B (.slice Y.A2 a.st.length Y.c2) a.st
 ls:Ls W B (.slice Y.A3 a.dl.length Y.c3) a.dl
 dr:DR W B a.dir Y.D
structure AOff (a:Ar) (Y:Ax) (p:Nat):Prop where
 o1:OffB p a.sl.length Y.A
 os:∀ s∈Y.q,SOff s.sh s.sx p
 o2:OffB p a.st.length Y.A2
 o3:OffB p a.dl.length Y.A3
 o4:DOff a.dir Y.D p
structure Ax.nw (Y:Ax) (lo:Nat):Prop where
 n1:Nw lo Y.A
 ns:∀ s∈Y.q,s.sx.nw lo
 n2:Nw lo Y.A2
 n3:Nw lo Y.A3
 n4:Y.D.nw lo
theorem zAx_nw (lo:Nat):zAx.nw lo:=⟨nw_none,fun s h=>absurd h (by simp [zAx]),nw_none,nw_none,zDx_nw lo⟩
section
variable {W W' : World} {B B' p lo lo' : Nat} {a:Ar} {Y:Ax}
theorem Ax.nw.off (h:Y.nw lo) (hp:p<lo):AOff a Y p:=⟨offb_nw h.n1 hp,fun s hs=>(h.ns s hs).off hp,offb_nw h.n2 hp,offb_nw h.n3 hp,h.n4.off hp⟩
theorem Ax.nw.low (h:Y.nw lo) (hp:lo'<=lo):Y.nw lo':=⟨nw_low h.n1 hp,fun s hs=>(h.ns s hs).low hp,nw_low h.n2 hp,nw_low h.n3 hp,h.n4.low hp⟩
theorem AR.below (h:AR W B a Y) (hb:Below B W W'):AR W' B a Y:=⟨h.ql.below hb,h.so,fun s hs=>(h.sr s hs).below hb,h.tl.below hb,h.ls.below hb,h.dr.below hb⟩
theorem AR.more (h:AR W B a Y) (hB:B<=B'):AR W B' a Y:=⟨h.ql.more hB,h.so,fun s hs=>(h.sr s hs).more hB,h.tl.more hB,h.ls.more hB,h.dr.more hB⟩
theorem AR.up (h:AR W W.heap.size a Y) (hb:Below W.heap.size W W'):AR W' W'.heap.size a Y:=(h.below hb).more hb.size
theorem AR.alloc (h:AR W W.heap.size a Y) (o:Obj):AR (W.alloc o) (W.alloc o).heap.size a Y:=h.up ((Below.refl _ _).alloc (nLR _) o)
theorem AR.zero:AR W B zA zAx:=⟨Ql.nil,rfl,fun s h=>absurd h (by simp [zAx]),Tl.nil,Ls.nil,DR.zero⟩
theorem AR.len (h:AR W B a Y):Y.q.length=a.sl.length:=by rw [<-h.so];simp
theorem Ql.offb {A:Option Addr} {n c:Nat} {l:List Sl} (h:Ql W B (.slice A n c) l) {p:Addr} (ho:OffB p.block n A) (v:Value):Ql (W.setCell p v) B (.slice A n c) l:=h.offp (fun a e h0=>ho h0 a e) v
theorem AR.offs (h:AR W B a Y) (hp:B<=p):AOff a Y p:=
 ⟨rd_off h.ql.rd hp,fun s hs=>⟨rd_off (h.sr s hs).ls.rd hp,rd_off (h.sr s hs).el.rd hp,rd_off (h.sr s hs).dl.rd hp⟩,rd_off h.tl.rd hp,rd_off h.ls.rd hp,h.dr.offs hp⟩
theorem Tl.offb {A:Option Addr} {n c:Nat} {l:List St} (h:Tl W B (.slice A n c) l) {p:Addr} (ho:OffB p.block n A) (v:Value):Tl (W.setCell p v) B (.slice A n c) l:=by
 obtain ⟨h1,h2,h3⟩:=h.len
 subst h1
 exact ⟨A,c,rfl,h2,h3,h.rd.offp ho v⟩
theorem AR.offp (h:AR W B a Y) {q:Addr} (ho:AOff a Y q.block) (v:Value):AR (W.setCell q v) B a Y:=
 ⟨h.ql.offb ho.o1 v,h.so,fun s hs=>(h.sr s hs).offp (ho.os s hs) v,h.tl.offb ho.o2 v,h.ls.offp ho.o3 v,h.dr.offp ho.o4 v⟩
theorem AR.atg {k:Nat} (h:AR W B a Y) (hk:k<a.sl.length):∃ (s:Sl) (b o:Nat),Y.q[k]? = some s/\s.so=a.sl[k]/\Y.A=some ⟨b,o,none⟩/\b<B/\Q9 W b (o+k*9) s/\SR W B s.sh s.sx:=by
 have hl:k<Y.q.length:=by rw [h.len];exact hk
 obtain ⟨b,o,e,hb,hq⟩:=h.ql.atg hl
 exact ⟨Y.q[k],b,o,List.getElem?_eq_getElem hl,by simp [<-h.so],e,hb,hq,h.sr _ (List.getElem_mem hl)⟩
end
abbrev K11 (p:Nat) (a:Ar) (Y:Ax) (W:World):Prop:=
 W.cell? ⟨p,0,none⟩=some (.slice Y.A a.sl.length Y.c)/\W.cell? ⟨p,1,none⟩=some (.slice Y.A2 a.st.length Y.c2)/\W.cell? ⟨p,2,none⟩=some (.int .i64 a.ow)/\W.cell? ⟨p,3,none⟩=some (.int .i64 a.cap)/\W.cell? ⟨p,4,none⟩=some (.slice Y.A3 a.dl.length Y.c3)/\W.cell? ⟨p,5,none⟩=some (.int .i64 a.dir.vn)/\W.cell? ⟨p,6,none⟩=some (.slice Y.D.A a.dir.l.length Y.D.c)/\W.cell? ⟨p,7,none⟩=some (.slice Y.D.A2 a.dir.F.length Y.D.c2)/\W.cell? ⟨p,8,none⟩=some (.int .i64 a.ep)/\W.cell? ⟨p,9,none⟩=some (.int .i64 a.ck)/\W.cell? ⟨p,10,none⟩=some (.int .i64 a.ni)
structure QB (W:World) (p:Nat) (a:Ar) (Y:Ax):Prop where
 k:K11 p a Y W
 fr:∀ o,W.frozen? ⟨p,o,none⟩=false
 lt:p<W.heap.size
abbrev set11 (W:World) (p:Nat) (a:Ar) (Y:Ax):World:=((((((((((W.setCell ⟨p,0,none⟩ (.slice Y.A a.sl.length Y.c)).setCell ⟨p,1,none⟩ (.slice Y.A2 a.st.length Y.c2)).setCell ⟨p,2,none⟩ (.int .i64 a.ow)).setCell ⟨p,3,none⟩ (.int .i64 a.cap)).setCell ⟨p,4,none⟩ (.slice Y.A3 a.dl.length Y.c3)).setCell ⟨p,5,none⟩ (.int .i64 a.dir.vn)).setCell ⟨p,6,none⟩ (.slice Y.D.A a.dir.l.length Y.D.c)).setCell ⟨p,7,none⟩ (.slice Y.D.A2 a.dir.F.length Y.D.c2)).setCell ⟨p,8,none⟩ (.int .i64 a.ep)).setCell ⟨p,9,none⟩ (.int .i64 a.ck)).setCell ⟨p,10,none⟩ (.int .i64 a.ni)
section
variable {W W' : World} {p g:Nat} {a:Ar} {Y:Ax}
theorem QB.keep (h:QB W p a Y) (hc:∀ o,W'.cell? ⟨p,o,none⟩=W.cell? ⟨p,o,none⟩) (hf:∀ o,W'.frozen? ⟨p,o,none⟩=W.frozen? ⟨p,o,none⟩) (hs:W.heap.size<=W'.heap.size):QB W' p a Y:=by
 obtain ⟨⟨k0,k1,k2,k3,k4,k5,k6,k7,k8,k9,k10⟩,fr,lt⟩:=h
 exact ⟨⟨(hc 0).trans k0,(hc 1).trans k1,(hc 2).trans k2,(hc 3).trans k3,(hc 4).trans k4,(hc 5).trans k5,(hc 6).trans k6,(hc 7).trans k7,(hc 8).trans k8,(hc 9).trans k9,(hc 10).trans k10⟩,fun o=>(hf o).trans (fr o),Nat.lt_of_lt_of_le lt hs⟩
theorem QB.up (h:QB W p a Y) (hb:Below W.heap.size W W'):QB W' p a Y:=h.keep (fun o=>hb.cell (p:=⟨p,o,none⟩) h.lt) (fun o=>hb.frozen (p:=⟨p,o,none⟩) h.lt) hb.size
theorem QB.alloc (h:QB W p a Y) (o:Obj):QB (W.alloc o) p a Y:=h.up ((Below.refl _ _).alloc (nLR _) o)
theorem QB.other (h:QB W p a Y) {x:Addr} (hne:x.block≠p) (v:Value):QB (W.setCell x v) p a Y:=
 h.keep (fun o=>World.cell?_setCell_other W x ⟨p,o,none⟩ v (fun e=>hne (by rw [e]))) (fun o=>by simp [go_sem]) (by simp)
theorem QB.grown (h:QB W p a Y) (hg:W.grownBy W' (some g)) (hne:p≠g):QB W' p a Y:=h.keep (fun o=>hg.cell_far ⟨p,o,none⟩ h.lt (fun e=>by injection e with e;exact hne e)) (fun o=>hg.frozen_far ⟨p,o,none⟩ h.lt (fun e=>by injection e with e;exact hne e)) hg.size
theorem QB.start (w:World) (a:Ar) (Y:Ax) (t:TypeId):QB (w.alloc (.cells (acl a Y) t)) w.heap.size a Y:=
 ⟨⟨by simp [go_sem],by simp [go_sem],by simp [go_sem],by simp [go_sem],by simp [go_sem],by simp [go_sem],by simp [go_sem],by simp [go_sem],by simp [go_sem],by simp [go_sem],by simp [go_sem]⟩,fun o=>by simp [go_sem],by simp⟩
theorem QB.set (h:QB W p a Y) (b:Ar) (Z:Ax):QB (set11 W p b Z) p b Z:=by
 obtain ⟨⟨k0,k1,k2,k3,k4,k5,k6,k7,k8,k9,k10⟩,fr,lt⟩:=h
 exact ⟨⟨by simp [go_sem,k0],by simp [go_sem,k1],by simp [go_sem,k2],by simp [go_sem,k3],by simp [go_sem,k4],by simp [go_sem,k5],by simp [go_sem,k6],by simp [go_sem,k7],by simp [go_sem,k8],by simp [go_sem,k9],by simp [go_sem,k10]⟩,fun o=>by simp [go_sem,fr o],by simp [lt]⟩
theorem QB.free (h:QB W p a Y):W.frozen? ⟨p,0,none⟩=false/\W.frozen? ⟨p,1,none⟩=false/\W.frozen? ⟨p,2,none⟩=false/\W.frozen? ⟨p,3,none⟩=false/\W.frozen? ⟨p,4,none⟩=false/\W.frozen? ⟨p,5,none⟩=false/\W.frozen? ⟨p,6,none⟩=false/\W.frozen? ⟨p,7,none⟩=false/\W.frozen? ⟨p,8,none⟩=false/\W.frozen? ⟨p,9,none⟩=false/\W.frozen? ⟨p,10,none⟩=false:=
 ⟨h.fr 0,h.fr 1,h.fr 2,h.fr 3,h.fr 4,h.fr 5,h.fr 6,h.fr 7,h.fr 8,h.fr 9,h.fr 10⟩
theorem set11_size (W:World) (p:Nat) (a:Ar) (Y:Ax):(set11 W p a Y).heap.size=W.heap.size:=by simp
theorem set11_below {B:Nat} {w:World} (h:Below B w W) (hp:B<=p) (a:Ar) (Y:Ax):Below B w (set11 W p a Y):=
 ((((((((((h.setCell (p:=⟨p,0,none⟩) hp _).setCell (p:=⟨p,1,none⟩) hp _).setCell (p:=⟨p,2,none⟩) hp _).setCell (p:=⟨p,3,none⟩) hp _).setCell (p:=⟨p,4,none⟩) hp _).setCell (p:=⟨p,5,none⟩) hp _).setCell (p:=⟨p,6,none⟩) hp _).setCell (p:=⟨p,7,none⟩) hp _).setCell (p:=⟨p,8,none⟩) hp _).setCell (p:=⟨p,9,none⟩) hp _).setCell (p:=⟨p,10,none⟩) hp _
theorem AR.set11 {B:Nat} {b:Ar} {Z:Ax} (h:AR W B b Z) (ho:AOff b Z p) (a:Ar) (Y:Ax):AR (set11 W p a Y) B b Z:=
 ((((((((((h.offp (q:=⟨p,0,none⟩) ho _).offp (q:=⟨p,1,none⟩) ho _).offp (q:=⟨p,2,none⟩) ho _).offp (q:=⟨p,3,none⟩) ho _).offp (q:=⟨p,4,none⟩) ho _).offp (q:=⟨p,5,none⟩) ho _).offp (q:=⟨p,6,none⟩) ho _).offp (q:=⟨p,7,none⟩) ho _).offp (q:=⟨p,8,none⟩) ho _).offp (q:=⟨p,9,none⟩) ho _).offp (q:=⟨p,10,none⟩) ho _
end
def AE (w:World) (a:Ar) (x:Int) (e:Ending) (w' : World):Prop:=∃ Y,e=.returned (.tuple #[av a Y,.int .i64 x])/\Y.nw w.heap.size/\AR w' w'.heap.size a Y/\Below w.heap.size w w'
end Go.Proofs.YtkecnihgjepfeaaGreat
namespace Go.Proofs.YtkecnihgjepfeaaGreat
open Go.RowKit
set_option linter.unusedVariables false
set_option linter.unusedSimpArgs false
set_option maxHeartbeats 8000000
set_option maxRecDepth 20000
theorem info_lease:(Tryz.prog.info? 152).map (fun i=>(i.zero,i.size,i.bytes))=some (some (Le.v zL),8,72):=by kernel_rfl
def EClP (w:World) (l:List Le) (e:Ending) (w' : World):Prop:=∃ v,e=.returned v/\w'.ownsRow w.heap.size 152 8 v l.length (ecs l)/\Below w.heap.size w w'
theorem eclone_end {w w1:World} {l:List Le} {v1:Value} {o:Obj} (hown:w1.ownsRow w.heap.size 152 8 v1 (0+l.length) ([]++ecs l)) (hg:(w.alloc o).grownBy w1 (Value.ownBlock (.slice (some ⟨w.heap.size,0,none⟩) 0 0))):EClP w l (.returned v1) w1:=by
 rw [Nat.zero_add,List.nil_append] at hown
 exact ⟨v1,rfl,hown,(((Below.refl _ _).alloc (nLR _) o)).grown hg (by simp) (fun k hk=>by simp [Value.ownBlock] at hk;omega)⟩
theorem eclone_any (A:Option Addr) (n c:Nat) (l:List Le) (w:World) (hv:El w w.heap.size (.slice A n c) l) (h2:n<=1000) :
  Calls Tryz.prog 79 #[.slice A n c] w (EClP w l):=by
 obtain ⟨rfl,hm1,hm2⟩:=hv.len
 obtain ⟨i0,hi0,hz0⟩:=Option.map_eq_some_iff.1 info_lease
 simp only [Prod.mk.injEq] at hz0
 have HI:=Lh hi0
 have HZ:=Lh hz0
 have HV:=Lh hv
 have heq:∀ W,(binOp .eql 67 (.slice A l.length c) (.slice none 0 0)).run Tryz.prog W=.ok (.bool A.isNone) W:=fun W=>Lib.run_eql_slice_nil W _ _ _ _ _ _ _ Tryz.underlying67
 have HRD:=Lh hv.rd
 clear hv hi0 hz0
 cases A with
 | none=>
  have hl:l=[]:=by
   cases l with
   | nil=>rfl
   | cons d l=>obtain ⟨b,o,e,_⟩:=HRD.out.2 (by simp);cases e
  subst hl
  have HP:=Lh (show EClP w [] (.returned (.slice none 0 0)) w from ⟨_,rfl,World.ownsRow_nil w _ _ _,Below.refl _ _⟩)
  simp only [List.length_nil,Option.isNone_none] at heq ⊢
  go_enter Tryz.func79,Tryz.ntmps79
  go_wp2
  go_ret
  exact HP.out
 | some a=>
  simp only [Option.isNone_some] at heq
  go_enter Tryz.func79,Tryz.ntmps79
  go_wp2_with (at_builtin;refine wpList_append_rd _ rfl (.tmp 5) (.tmp 6) 67 rfl w.heap.size 152 i0 _ 8 72 Tryz.underlying67 HI.out HZ.out.1 HZ.out.2.1 HZ.out.2.2 rfl (by omega) (.slice (some ⟨w.heap.size,0,none⟩) 0 0) 0 [] rfl (World.ownsRow_made w #[] 0 (nLR _) (Nat.zero_le _) rfl) w.heap.size (some a) l.length c (ecs l) rfl (HV.out.alloc (nLR _) _).rd (ecs_one l) (by unfold maxLen;omega) (by omega) (by simp) ?_;intro v1 w1 hown1 hg1 hat1)
  have HP:=Lh (eclone_end hown1 hg1)
  clear hown1 hg1 hat1
  go_wp2
  go_ret
  exact HP.out
structure Cc2 (W:World) (g:Nat) (v0 v1:Value) (l0 l1:List Le):Prop where
 c0:W.cell? ⟨g,0,none⟩=some v0
 c1:W.cell? ⟨g,1,none⟩=some v1
 lt:g<W.heap.size
 e0:El W W.heap.size v0 l0
 e1:El W W.heap.size v1 l1
end Go.Proofs.YtkecnihgjepfeaaGreat
