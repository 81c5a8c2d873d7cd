/- What is proved here: parts of the proof: Dpu Dwo Dpb Tre Shd Shm. -/
import Derived.Test.YtkecnihgjepfeaaGreatJ09
import Derived.Deep.CutRange
import Derived.BigFrame
namespace Go.Proofs.YtkecnihgjepfeaaGreat
open Go.RowKit
set_option linter.unusedVariables false
set_option linter.unusedSimpArgs false
set_option maxHeartbeats 8000000
set_option maxRecDepth 20000
abbrev D2 (W:World) (p:Nat) (d:Du):Prop:=W.cell? ⟨p,0,none⟩=some (.int .i64 d.dl)/\W.cell? ⟨p,1,none⟩=some (.int .i64 d.id)
def DlV (w:World) (l:List Du) (e:Ending) (w' : World):Prop:=∃ A c,e=.returned (.slice A l.length c)/\Nw w.heap.size A/\Dl w' w'.heap.size (.slice A l.length c) l/\Below w.heap.size w w'
abbrev D2F (W:World) (p:Nat) (d:Du):Prop:=W.cell? ⟨p,0,none⟩=some (.int .i64 d.dl)/\W.cell? ⟨p,1,none⟩=some (.int .i64 d.id)/\W.frozen? ⟨p,0,none⟩=false/\W.frozen? ⟨p,1,none⟩=false/\p<W.heap.size
end Go.Proofs.YtkecnihgjepfeaaGreat
/- Plain: what Grant, Release, Extend of a table return; boxes of a table and of a message that may be written. -/
namespace Go.Proofs.YtkecnihgjepfeaaGreat
open Go.RowKit
set_option linter.unusedVariables false
set_option linter.unusedSimpArgs false
set_option maxHeartbeats 8000000
set_option maxRecDepth 20000
noncomputable def rlH (l:List Le) (h:List Du) (id:Int):List Du:=if rlE l h id=0 then rmR h id else []
noncomputable def rlL (l:List Le) (h:List Du) (id:Int):List Le:=if rlE l h id=0 then l.eraseIdx (kAt Le.id l id) else []
noncomputable def rlM (l:List Le) (h:List Du) (id:Int):Msg:=if rlE l h id=0 then (lg l (kAt Le.id l id)).m else zM
noncomputable def grL (l:List Le) (h:List Du) (x:Le):List Le:=if grE l h x=0 then kIns Le.id l x else []
noncomputable def grH (l:List Le) (h:List Du) (x:Le):List Du:=if grE l h x=0 then hpu h x.du else []
section
variable {l:List Le} {h:List Du} {id dl:Int} {x:Le}
end
structure RT (W:World) (r:Nat) (A:Option Addr) (n c:Nat) (A2:Option Addr) (n2 c2:Nat):Prop where
 c0:W.cell? ⟨r,0,none⟩=some (.slice A n c)
 c1:W.cell? ⟨r,1,none⟩=some (.slice A2 n2 c2)
 f0:W.frozen? ⟨r,0,none⟩=false
 f1:W.frozen? ⟨r,1,none⟩=false
 lt:r<W.heap.size
section
variable {W W' w:World} {r n c n2 c2:Nat} {A A2:Option Addr}
abbrev set2 (W:World) (r:Nat) (v v2:Value):World:=(W.setCell ⟨r,0,none⟩ v).setCell ⟨r,1,none⟩ v2
end
end Go.Proofs.YtkecnihgjepfeaaGreat
/- Plain: shards: their first error, valid shards, what changes of their rings and tables give. -/
namespace Go.Proofs.YtkecnihgjepfeaaGreat
open Go.RowKit
set_option linter.unusedVariables false
set_option linter.unusedSimpArgs false
set_option maxHeartbeats 8000000
set_option maxRecDepth 20000
structure Sh where
 lv:Bool
 lo:Int
 hi:Int
 cs:List Msg
 hd:Int
 sz:Int
 l:List Le
 h:List Du
def zS:Sh:=⟨false,0,0,[],0,0,[],[]⟩
structure Sx where
 A:Option Addr
 c:Nat
 A2:Option Addr
 c2:Nat
 A3:Option Addr
 c3:Nat
noncomputable def Sh.al (S:Sh):List Msg:=lsF S.cs S.hd S.sz++S.l.map Le.m
def spB (lo hi:Int):Bool:=decide (0<=lo/\lo<=hi/\hi<65536)
theorem spB_iff {lo hi:Int}:spB lo hi=true↔0<=lo/\lo<=hi/\hi<65536:=decide_eq_true_iff
def rtB (lo hi:Int) (l:List Msg):Bool:=l.any (fun M=>!wi M.rt lo hi)
theorem rtB_no {lo hi:Int} {l:List Msg}:rtB lo hi l=false↔∀ M∈l,lo<=M.rt/\M.rt<=hi:=by
 unfold rtB
 rw [List.any_eq_false]
 refine forall_congr' fun M=>imp_congr_right fun _=>?_
 cases h:wi M.rt lo hi with
 | true=>have:=wi_of h;simp;omega
 | false=>
  simp
  intro h1
  have h2:¬M.rt<=hi:=fun h2=>by rw [wi_true h1 h2] at h;cases h
  omega
noncomputable def liE (S:Sh):Int:=if spB S.lo S.hi=false then 1 else if (S.cs.length:Int)<S.sz+S.l.length then 3 else if rtB S.lo S.hi S.al=true then 12 else if dpB S.al=true then 10 else 0
noncomputable def shV (S:Sh):Int:=if rgV S.cs S.hd S.sz≠0 then rgV S.cs S.hd S.sz else if tbV S.l S.h≠0 then tbV S.l S.h else if S.lv=true then liE S else if S.lo≠0\/S.hi≠0\/0<S.sz+S.l.length then 7 else 0
noncomputable def exS (S:Sh) (b:Bool):Int:=if shV S≠0 then shV S else if S.lv=false then 7 else if b=true then 0 else 1
theorem exS_bad {S:Sh} (b:Bool) (h:shV S≠0):exS S b=shV S:=if_pos h
theorem exS_off {S:Sh} (b:Bool) (h:shV S=0) (h1:S.lv=false):exS S b=7:=by unfold exS;rw [if_neg (by simpa using h),if_pos h1]
theorem exS_num {S:Sh} {b:Bool} (h:shV S=0) (h1:S.lv=true) (hb:b=false):exS S b=1:=by unfold exS;rw [if_neg (by simpa using h),if_neg (by simp [h1]),if_neg (by simp [hb])]
theorem exS_ok {S:Sh} {b:Bool} (h:shV S=0) (h1:S.lv=true) (hb:b=true):exS S b=0:=by unfold exS;rw [if_neg (by simpa using h),if_neg (by simp [h1]),if_pos hb]
theorem exS_zero {S:Sh} {b:Bool} (h:exS S b=0):shV S=0/\S.lv=true/\b=true:=by
 by_cases h0:shV S=0
 ·cases h1:S.lv with
  | false=>rw [exS_off b h0 h1] at h;exact absurd h (by decide)
  | true=>
   cases hb:b with
   | false=>rw [exS_num h0 h1 hb] at h;exact absurd h (by decide)
   | true=>exact ⟨h0,rfl,rfl⟩
 ·rw [exS_bad b h0] at h;exact absurd h h0
structure Vs where
 lo:Int
 hi:Int
 n:Nat
 hd:Nat
 L:List Msg
 l:List Le
 h:List Du
def Vs.sh (V:Vs):Sh:=⟨true,V.lo,V.hi,fil V.n V.hd V.L,V.hd,V.L.length,V.l,V.h⟩
def Vs.al (V:Vs):List Msg:=V.L++V.l.map Le.m
structure Vs.Ok (V:Vs):Prop where
 n1:1<=V.n
 n2:V.n<=12
 hh:V.hd<V.n
 tb:TbOk V.l V.h
 sp:0<=V.lo/\V.lo<=V.hi/\V.hi<65536
 room:V.L.length+V.l.length<=V.n
 gd:Gd V.al
 own:∀ M∈V.al,V.lo<=M.rt/\M.rt<=V.hi
section
variable {V:Vs}
theorem Vs.Ok.gL (k:V.Ok):Gd V.L:=gd_sub (List.sublist_append_left _ _) k.gd
theorem Vs.Ok.lenL (k:V.Ok):V.L.length<=V.n:=by have:=k.room;omega
theorem Vs.Ok.ls (k:V.Ok):lsF (fil V.n V.hd V.L) (V.hd:Int) (V.L.length:Int)=V.L:=lsF_fil k.n1 k.n2 k.hh k.lenL k.gL
theorem Vs.Ok.al_sh (k:V.Ok):V.sh.al=V.al:=by
 show lsF (fil V.n V.hd V.L) (V.hd:Int) (V.L.length:Int)++_=_
 rw [k.ls];rfl
theorem Vs.Ok.rg (k:V.Ok):rgV (fil V.n V.hd V.L) (V.hd:Int) (V.L.length:Int)=0:=rgV_fil k.n1 k.n2 k.hh k.lenL k.gL
theorem Vs.Ok.li (k:V.Ok):liE V.sh=0:=by
 unfold liE
 rw [if_neg (by rw [show spB V.sh.lo V.sh.hi=true from spB_iff.2 k.sp];decide),if_neg (by show ¬((fil V.n V.hd V.L).length:Int)<(V.L.length:Int)+V.l.length;rw [fil_len];have:=k.room;omega),k.al_sh,
  if_neg (by rw [show rtB V.sh.lo V.sh.hi V.al=false from rtB_no.2 k.own];decide),if_neg (by rw [dpB_no k.gd.2];decide)]
theorem Vs.Ok.va (k:V.Ok):shV V.sh=0:=by
 unfold shV
 rw [if_neg (fun h=>h k.rg),if_neg (fun h=>h ((tbV_iff V.l V.h).2 k.tb)),if_pos (show V.sh.lv=true from rfl)]
 exact k.li
end
theorem vs_of {S:Sh} (h:shV S=0) (h1:S.lv=true):∃ V:Vs,V.Ok/\S=V.sh:=by
 unfold shV at h
 by_cases e1:rgV S.cs S.hd S.sz=0
 ·rw [if_neg (by simpa using e1)] at h
  by_cases e2:tbV S.l S.h=0
  ·rw [if_neg (by simpa using e2),if_pos h1] at h
   obtain ⟨g1,g2,g3,g4⟩:=rgV_zero e1
   obtain ⟨⟨n1,n2⟩,⟨d1,d2⟩,⟨s1,s2⟩⟩:=nm_of g1
   obtain ⟨d,hd⟩:=Int.eq_ofNat_of_zero_le d1
   obtain ⟨s,hs⟩:=Int.eq_ofNat_of_zero_le s1
   have hL:lsF S.cs S.hd S.sz=ord S.cs d s:=by
    unfold lsF
    rw [if_pos e1,hd,hs];simp only [Int.toNat_natCast]
   have hal:S.al=ord S.cs d s++S.l.map Le.m:=by unfold Sh.al;rw [hL]
   have hcs:fil S.cs.length d (ord S.cs d s)=S.cs:=fil_ord (by omega) (fun k hk hlt=>g2 k (by rw [hs];simpa using hk) hlt |> fun e=>by rw [hd] at e;simpa using e)
   have t:=(tbV_iff S.l S.h).1 e2
   unfold liE at h
   cases q1:spB S.lo S.hi with
   | false=>rw [if_pos q1] at h;exact absurd h (by decide)
   | true=>
    rw [if_neg (by simp [q1])] at h
    by_cases q2:(S.cs.length:Int)<S.sz+S.l.length
    ·rw [if_pos q2] at h;exact absurd h (by decide)
    ·rw [if_neg q2] at h
     cases q3:rtB S.lo S.hi S.al with
     | true=>rw [if_pos q3] at h;exact absurd h (by decide)
     | false=>
      rw [if_neg (by simp [q3])] at h
      cases q4:dpB S.al with
      | true=>rw [if_pos q4] at h;exact absurd h (by decide)
      | false=>
       refine ⟨⟨S.lo,S.hi,S.cs.length,d,ord S.cs d s,S.l,S.h⟩,⟨by show 1<=S.cs.length;omega,by show S.cs.length<=12;omega,by show d<S.cs.length;omega,t,spB_iff.1 q1,by show (ord S.cs d s).length+S.l.length<=S.cs.length;rw [ord_len];omega,⟨?_,?_⟩,?_⟩,?_⟩
       ·intro M hM
        rcases List.mem_append.1 hM with hM | hM
        ·exact fe_zero (by rw [hd,hs] at g3;simpa using g3) M hM
        ·obtain ⟨x,hx,rfl⟩:=List.mem_map.1 hM
         exact (t.ok x hx).1
       ·show ¬dupP (ord S.cs d s++S.l.map Le.m)
        rw [<-hal];exact dpB_not q4
       ·intro M hM
        exact rtB_no.1 q3 M (by rw [hal];exact hM)
       ·cases S with
        | mk lv lo hi cs hd' sz l hh=>
         simp only at*
         subst h1 hd hs
         show _=Sh.mk true lo hi (fil cs.length d (ord cs d s)) d (ord cs d s).length l hh
         rw [hcs,ord_len]
  ·rw [if_pos e2] at h;exact absurd h e2
 ·rw [if_pos e1] at h;exact absurd h e1
theorem vs_ex {S:Sh} {b:Bool} (h:exS S b=0):b=true/\∃ V:Vs,V.Ok/\S=V.sh:=by
 obtain ⟨h0,h1,h2⟩:=exS_zero h
 exact ⟨h2,vs_of h0 h1⟩
end Go.Proofs.YtkecnihgjepfeaaGreat
/- Plain: shards in memory: where the lists of a shard lie, a box of the call's own that holds a shard. -/
namespace Go.Proofs.YtkecnihgjepfeaaGreat
open Go.RowKit
set_option linter.unusedVariables false
set_option linter.unusedSimpArgs false
set_option maxHeartbeats 8000000
set_option maxRecDepth 20000
abbrev sv (S:Sh) (D:Sx):Value:=.agg #[.bool S.lv,.int .i64 S.lo,.int .i64 S.hi,.slice D.A S.cs.length D.c,.int .i64 S.hd,.int .i64 S.sz,.slice D.A2 S.l.length D.c2,.slice D.A3 S.h.length D.c3]
structure SR (W:World) (B:Nat) (S:Sh) (D:Sx):Prop where
 ls:Ls W B (.slice D.A S.cs.length D.c) S.cs
 el:El W B (.slice D.A2 S.l.length D.c2) S.l
 dl:Dl W B (.slice D.A3 S.h.length D.c3) S.h
def OffB (p n:Nat) (A:Option Addr):Prop:=0<n->∀ a,A=some a->a.block≠p
theorem offb_none {p n:Nat}:OffB p n none:=fun _ a h=>by cases h
theorem offb_nw {p n lo:Nat} {A:Option Addr} (h:Nw lo A) (hp:p<lo):OffB p n A:=fun _ a e=>by have:=h a e;omega
structure SOff (S:Sh) (D:Sx) (p:Nat):Prop where
 o1:OffB p S.cs.length D.A
 o2:OffB p S.l.length D.A2
 o3:OffB p S.h.length D.A3
structure Sx.nw (D:Sx) (lo:Nat):Prop where
 n1:Nw lo D.A
 n2:Nw lo D.A2
 n3:Nw lo D.A3
theorem Sx.nw.off {S:Sh} {D:Sx} {lo p:Nat} (h:D.nw lo) (hp:p<lo):SOff S D p:=⟨offb_nw h.n1 hp,offb_nw h.n2 hp,offb_nw h.n3 hp⟩
theorem Sx.nw.low {D:Sx} {lo lo' : Nat} (h:D.nw lo) (hp:lo'<=lo):D.nw lo':=⟨nw_low h.n1 hp,nw_low h.n2 hp,nw_low h.n3 hp⟩
def zX:Sx:=⟨none,0,none,0,none,0⟩
theorem zX_nw (lo:Nat):zX.nw lo:=⟨nw_none,nw_none,nw_none⟩
section
variable {W W' : World} {B B' : Nat} {S:Sh} {D:Sx}
theorem SR.below (h:SR W B S D) (hb:Below B W W'):SR W' B S D:=⟨h.ls.below hb,h.el.below hb,h.dl.below hb⟩
theorem SR.more (h:SR W B S D) (hB:B<=B'):SR W B' S D:=⟨h.ls.more hB,h.el.more hB,h.dl.more hB⟩
theorem SR.up (h:SR W W.heap.size S D) (hb:Below W.heap.size W W'):SR W' W'.heap.size S D:=(h.below hb).more hb.size
theorem SR.zero:SR W B zS zX:=⟨Ls.nil,El.nil,Dl.nil⟩
theorem rd_off {size n:Nat} {A:Option Addr} {xs:List Value} (h:Rd W B size A n xs) {p:Nat} (hp:B<=p):OffB p n A:=fun hn a e=>by
 obtain ⟨b,o,e2,hb,_⟩:=h.2 hn
 rw [e2] at e;injection e with e;subst e;show b≠p;omega
theorem Rd.offp {size n:Nat} {A:Option Addr} {xs:List Value} (h:Rd W B size A n xs) {p:Addr} (ho:OffB p.block n A) (v:Value):Rd (W.setCell p v) B size A n xs:=
 ⟨h.1,fun hn=>by
  obtain ⟨b,o,e,hb,hc⟩:=h.2 hn
  have:=ho hn _ e
  exact ⟨b,o,e,hb,fun j u hu=>(World.cell?_setCell_other W p _ v (fun e'=>by have e2:=congrArg Addr.block e';simp at e2 this;omega)).trans (hc j u hu)⟩⟩
theorem Ls.offp {A:Option Addr} {n c:Nat} {l:List Msg} (h:Ls W B (.slice A n c) l) {p:Addr} (ho:OffB p.block n A) (v:Value):Ls (W.setCell p v) B (.slice A n c) l:=by
 obtain ⟨h1,h2,h3⟩:=h.len
 subst h1
 exact ⟨A,c,rfl,h2,h3,h.rd.offp ho v⟩
theorem El.offp {A:Option Addr} {n c:Nat} {l:List Le} (h:El W B (.slice A n c) l) {p:Addr} (ho:OffB p.block n A) (v:Value):El (W.setCell p v) B (.slice A n c) l:=by
 obtain ⟨h1,h2,h3⟩:=h.len
 subst h1
 exact ⟨A,c,rfl,h2,h3,h.rd.offp ho v⟩
theorem Dl.offp {A:Option Addr} {n c:Nat} {l:List Du} (h:Dl W B (.slice A n c) l) {p:Addr} (ho:OffB p.block n A) (v:Value):Dl (W.setCell p v) B (.slice A n c) l:=by
 obtain ⟨h1,h2,h3⟩:=h.len
 subst h1
 exact ⟨A,c,rfl,h2,h3,h.rd.offp ho v⟩
theorem SR.offp (h:SR W B S D) {p:Addr} (ho:SOff S D p.block) (v:Value):SR (W.setCell p v) B S D:=⟨h.ls.offp ho.o1 v,h.el.offp ho.o2 v,h.dl.offp ho.o3 v⟩
end
structure SB8 (W:World) (p:Nat) (S:Sh) (D:Sx):Prop where
 c0:W.cell? ⟨p,0,none⟩=some (.bool S.lv)
 c1:W.cell? ⟨p,1,none⟩=some (.int .i64 S.lo)
 c2:W.cell? ⟨p,2,none⟩=some (.int .i64 S.hi)
 c3:W.cell? ⟨p,3,none⟩=some (.slice D.A S.cs.length D.c)
 c4:W.cell? ⟨p,4,none⟩=some (.int .i64 S.hd)
 c5:W.cell? ⟨p,5,none⟩=some (.int .i64 S.sz)
 c6:W.cell? ⟨p,6,none⟩=some (.slice D.A2 S.l.length D.c2)
 c7:W.cell? ⟨p,7,none⟩=some (.slice D.A3 S.h.length D.c3)
 fr:∀ o,W.frozen? ⟨p,o,none⟩=false
 lt:p<W.heap.size
section
variable {W W' : World} {p:Nat} {S:Sh} {D:Sx}
theorem SB8.keep (h:SB8 W p S D) (hc:∀ o,W'.cell? ⟨p,o,none⟩=W.cell? ⟨p,o,none⟩) (hf:∀ o,W'.frozen? ⟨p,o,none⟩=W.frozen? ⟨p,o,none⟩) (hs:W.heap.size<=W'.heap.size):SB8 W' p S D:=
 ⟨(hc 0).trans h.c0,(hc 1).trans h.c1,(hc 2).trans h.c2,(hc 3).trans h.c3,(hc 4).trans h.c4,(hc 5).trans h.c5,(hc 6).trans h.c6,(hc 7).trans h.c7,fun o=>(hf o).trans (h.fr o),Nat.lt_of_lt_of_le h.lt hs⟩
theorem SB8.below {B:Nat} (h:SB8 W p S D) (hb:Below B W W') (hp:p<B):SB8 W' p S D:=h.keep (fun o=>hb.cell (p:=⟨p,o,none⟩) hp) (fun o=>hb.frozen (p:=⟨p,o,none⟩) hp) hb.size
theorem SB8.up (h:SB8 W p S D) (hb:Below W.heap.size W W'):SB8 W' p S D:=h.below hb h.lt
theorem SB8.other (h:SB8 W p S D) {q:Addr} (hq:q.block≠p) (v:Value):SB8 (W.setCell q v) p S D:=
 h.keep (fun o=>World.cell?_setCell_other W q _ v (fun e=>hq (by rw [e]))) (fun o=>by rw [World.frozen?_setCell]) (by simp)
theorem SB8.start (w:World) (S:Sh) (D:Sx) (t:TypeId):SB8 (w.alloc (.cells #[.bool S.lv,.int .i64 S.lo,.int .i64 S.hi,.slice D.A S.cs.length D.c,.int .i64 S.hd,.int .i64 S.sz,.slice D.A2 S.l.length D.c2,.slice D.A3 S.h.length D.c3] t)) w.heap.size S D:=
 ⟨by simp [go_sem],by simp [go_sem],by simp [go_sem],by simp [go_sem],by simp [go_sem],by simp [go_sem],by simp [go_sem],by simp [go_sem],fun o=>by simp [go_sem],by simp⟩
theorem SB8.zero (w:World) (t:TypeId):SB8 (w.alloc (.cells #[.bool false,.int .i64 0,.int .i64 0,.slice none 0 0,.int .i64 0,.int .i64 0,.slice none 0 0,.slice none 0 0] t)) w.heap.size zS zX:=SB8.start w zS zX t
theorem SB8.facts (h:SB8 W p S D):W.cell? ⟨p,0,none⟩=some (.bool S.lv)/\W.cell? ⟨p,1,none⟩=some (.int .i64 S.lo)/\W.cell? ⟨p,2,none⟩=some (.int .i64 S.hi)/\W.cell? ⟨p,3,none⟩=some (.slice D.A S.cs.length D.c)/\W.cell? ⟨p,4,none⟩=some (.int .i64 S.hd)/\W.cell? ⟨p,5,none⟩=some (.int .i64 S.sz)/\W.cell? ⟨p,6,none⟩=some (.slice D.A2 S.l.length D.c2)/\W.cell? ⟨p,7,none⟩=some (.slice D.A3 S.h.length D.c3)/\p<W.heap.size:=
 ⟨h.c0,h.c1,h.c2,h.c3,h.c4,h.c5,h.c6,h.c7,h.lt⟩
theorem SB8.free (h:SB8 W p S D):W.frozen? ⟨p,0,none⟩=false/\W.frozen? ⟨p,1,none⟩=false/\W.frozen? ⟨p,2,none⟩=false/\W.frozen? ⟨p,3,none⟩=false/\W.frozen? ⟨p,4,none⟩=false/\W.frozen? ⟨p,5,none⟩=false/\W.frozen? ⟨p,6,none⟩=false/\W.frozen? ⟨p,7,none⟩=false:=
 ⟨h.fr 0,h.fr 1,h.fr 2,h.fr 3,h.fr 4,h.fr 5,h.fr 6,h.fr 7⟩
theorem addr_ne {p a b:Nat} (h:a≠b):(⟨p,a,none⟩:Addr)≠⟨p,b,none⟩:=fun e=>h (by injection e)
abbrev set8s (W:World) (p:Nat) (S:Sh) (D:Sx):World:=(((((((W.setCell ⟨p,0,none⟩ (.bool S.lv)).setCell ⟨p,1,none⟩ (.int .i64 S.lo)).setCell ⟨p,2,none⟩ (.int .i64 S.hi)).setCell ⟨p,3,none⟩ (.slice D.A S.cs.length D.c)).setCell ⟨p,4,none⟩ (.int .i64 S.hd)).setCell ⟨p,5,none⟩ (.int .i64 S.sz)).setCell ⟨p,6,none⟩ (.slice D.A2 S.l.length D.c2)).setCell ⟨p,7,none⟩ (.slice D.A3 S.h.length D.c3)
def Sh.l8 (S:Sh) (D:Sx):List Value:=[.bool S.lv,.int .i64 S.lo,.int .i64 S.hi,.slice D.A S.cs.length D.c,.int .i64 S.hd,.int .i64 S.sz,.slice D.A2 S.l.length D.c2,.slice D.A3 S.h.length D.c3]
theorem set8s_below {B:Nat} {a:World} (hp:B<=p) (h:Below B a W) (S:Sh) (D:Sx):Below B a (set8s W p S D):=sets_below hp (S.l8 D) 0 W h
end
structure SAt (w:World) (p:Nat) (S:Sh) (D:Sx) (W:World):Prop where
 s8:SB8 W p S D
 sr:SR W W.heap.size S D
 off:SOff S D p
 bel:Below w.heap.size w W
 old:w.heap.size<=p
theorem SR.offs {w:World} {S:Sh} {D:Sx} {B p:Nat} (h:SR w B S D) (hp:B<=p):SOff S D p:=⟨rd_off h.ls.rd hp,rd_off h.el.rd hp,rd_off h.dl.rd hp⟩
section
variable {w W W' : World} {p:Nat} {S:Sh} {D:Sx}
theorem SAt.below (h:SAt w p S D W) (hb:Below W.heap.size W W'):SAt w p S D W':=⟨h.s8.up hb,h.sr.up hb,h.off,h.bel.trans (hb.mono h.bel.size),h.old⟩
theorem SAt.alloc (h:SAt w p S D W) (o:Obj):SAt w p S D (W.alloc o):=h.below ((Below.refl _ _).alloc (nLR _) o)
theorem SAt.drew (h:SAt w p S D W):SAt w p S D W.drew:=h.below ((Below.refl _ _).drew)
theorem SAt.start (t:TypeId) (h:SR w w.heap.size S D):SAt w w.heap.size S D (w.alloc (.cells #[.bool S.lv,.int .i64 S.lo,.int .i64 S.hi,.slice D.A S.cs.length D.c,.int .i64 S.hd,.int .i64 S.sz,.slice D.A2 S.l.length D.c2,.slice D.A3 S.h.length D.c3] t)):=
 ⟨SB8.start w S D t,h.up ((Below.refl _ _).alloc (nLR _) _),h.offs (nLR _),(Below.refl _ _).alloc (nLR _) _,nLR _⟩
theorem SR.sets (ho:SOff S D p):∀ (vs:List Value) (m:Nat) (W:World),SR W W.heap.size S D->SR (W.setCells p m vs) (W.setCells p m vs).heap.size S D
 | [],_,_,h=>h
 | v::r,m,W,h=>SR.sets ho r (m+1) _ ((h.offp (p:=⟨p,m,none⟩) ho v).more (by simp))
theorem SAt.setA (h:SAt w p S D W) {A:Option Addr} {c:Nat} (hl:Ls W W.heap.size (.slice A S.cs.length c) S.cs) (ho:OffB p S.cs.length A):SAt w p S ⟨A,c,D.A2,D.c2,D.A3,D.c3⟩ (W.setCell ⟨p,3,none⟩ (.slice A S.cs.length c)):=by
 have g:∀ (j:Nat) (v:Value),j≠3->W.cell? ⟨p,j,none⟩=some v->(W.setCell ⟨p,3,none⟩ (.slice A S.cs.length c)).cell? ⟨p,j,none⟩=some v:=fun j v h3 e=>by
  rw [World.cell?_setCell_other _ _ _ _ (addr_ne h3.symm)];exact e
 exact ⟨⟨g 0 _ (by decide) h.s8.c0,g 1 _ (by decide) h.s8.c1,g 2 _ (by decide) h.s8.c2,by rw [World.cell?_setCell_same' _ _ _ (by rw [h.s8.c3];rfl)],g 4 _ (by decide) h.s8.c4,g 5 _ (by decide) h.s8.c5,g 6 _ (by decide) h.s8.c6,g 7 _ (by decide) h.s8.c7,fun o=>by rw [World.frozen?_setCell];exact h.s8.fr o,by simpa using h.s8.lt⟩,
  ⟨(hl.offp (p:=⟨p,3,none⟩) ho _).more (by simp),(h.sr.el.offp (p:=⟨p,3,none⟩) h.off.o2 _).more (by simp),(h.sr.dl.offp (p:=⟨p,3,none⟩) h.off.o3 _).more (by simp)⟩,⟨ho,h.off.o2,h.off.o3⟩,h.bel.setCell (p:=⟨p,3,none⟩) h.old _,h.old⟩
theorem SAt.setL (h:SAt w p S D W) {A:Option Addr} {c:Nat} (hl:El W W.heap.size (.slice A S.l.length c) S.l) (ho:OffB p S.l.length A):SAt w p S ⟨D.A,D.c,A,c,D.A3,D.c3⟩ (W.setCell ⟨p,6,none⟩ (.slice A S.l.length c)):=by
 have g:∀ (j:Nat) (v:Value),j≠6->W.cell? ⟨p,j,none⟩=some v->(W.setCell ⟨p,6,none⟩ (.slice A S.l.length c)).cell? ⟨p,j,none⟩=some v:=fun j v h3 e=>by
  rw [World.cell?_setCell_other _ _ _ _ (addr_ne h3.symm)];exact e
 exact ⟨⟨g 0 _ (by decide) h.s8.c0,g 1 _ (by decide) h.s8.c1,g 2 _ (by decide) h.s8.c2,g 3 _ (by decide) h.s8.c3,g 4 _ (by decide) h.s8.c4,g 5 _ (by decide) h.s8.c5,by rw [World.cell?_setCell_same' _ _ _ (by rw [h.s8.c6];rfl)],g 7 _ (by decide) h.s8.c7,fun o=>by rw [World.frozen?_setCell];exact h.s8.fr o,by simpa using h.s8.lt⟩,
  ⟨(h.sr.ls.offp (p:=⟨p,6,none⟩) h.off.o1 _).more (by simp),(hl.offp (p:=⟨p,6,none⟩) ho _).more (by simp),(h.sr.dl.offp (p:=⟨p,6,none⟩) h.off.o3 _).more (by simp)⟩,⟨h.off.o1,ho,h.off.o3⟩,h.bel.setCell (p:=⟨p,6,none⟩) h.old _,h.old⟩
theorem SAt.setH (h:SAt w p S D W) {A:Option Addr} {c:Nat} (hl:Dl W W.heap.size (.slice A S.h.length c) S.h) (ho:OffB p S.h.length A):SAt w p S ⟨D.A,D.c,D.A2,D.c2,A,c⟩ (W.setCell ⟨p,7,none⟩ (.slice A S.h.length c)):=by
 have g:∀ (j:Nat) (v:Value),j≠7->W.cell? ⟨p,j,none⟩=some v->(W.setCell ⟨p,7,none⟩ (.slice A S.h.length c)).cell? ⟨p,j,none⟩=some v:=fun j v h3 e=>by
  rw [World.cell?_setCell_other _ _ _ _ (addr_ne h3.symm)];exact e
 exact ⟨⟨g 0 _ (by decide) h.s8.c0,g 1 _ (by decide) h.s8.c1,g 2 _ (by decide) h.s8.c2,g 3 _ (by decide) h.s8.c3,g 4 _ (by decide) h.s8.c4,g 5 _ (by decide) h.s8.c5,g 6 _ (by decide) h.s8.c6,by rw [World.cell?_setCell_same' _ _ _ (by rw [h.s8.c7];rfl)],fun o=>by rw [World.frozen?_setCell];exact h.s8.fr o,by simpa using h.s8.lt⟩,
  ⟨(h.sr.ls.offp (p:=⟨p,7,none⟩) h.off.o1 _).more (by simp),(h.sr.el.offp (p:=⟨p,7,none⟩) h.off.o2 _).more (by simp),(hl.offp (p:=⟨p,7,none⟩) ho _).more (by simp)⟩,⟨h.off.o1,h.off.o2,ho⟩,h.bel.setCell (p:=⟨p,7,none⟩) h.old _,h.old⟩
theorem SAt.lt (h:SAt w p S D W):p<W.heap.size:=h.s8.lt
end
def SV (w:World) (S:Sh) (e:Ending) (w' : World):Prop:=∃ D,e=.returned (sv S D)/\D.nw w.heap.size/\SR w' w'.heap.size S D/\Below w.heap.size w w'
def SE (w:World) (S:Sh) (x:Int) (e:Ending) (w' : World):Prop:=∃ D,e=.returned (.tuple #[sv S D,.int .i64 x])/\D.nw w.heap.size/\SR w' w'.heap.size S D/\Below w.heap.size w w'
end Go.Proofs.YtkecnihgjepfeaaGreat
