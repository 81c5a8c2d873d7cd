/- What is proved here: parts of the proof: Dsu Dpu Dwo Dpb Tre Shd. -/
import Derived.Test.YtkecnihgjepfeaaGreatJ09
import Derived.BigRegion
import Derived.Deep.CutRange
import Derived.BigFrame
import Derived.Test.YtkecnihgjepfeaaGreatJ06
namespace Go.Proofs.YtkecnihgjepfeaaGreat
open Go.RowKit
set_option linter.unusedVariables false
set_option linter.unusedSimpArgs false
set_option maxHeartbeats 8000000
set_option maxRecDepth 20000
structure RwAt (w:World) (q n:Nat) (h:List Du) (W:World):Prop where
 row:DRow W q n (ge h)
 len:h.length=n
 bel:Below q w W
section
variable {w W W' : World} {q n:Nat} {h:List Du}
end
abbrev D2 (W:World) (p:Nat) (d:Du):Prop:=W.cell? ⟨p,0,none⟩=some (.int .i64 d.dl)/\W.cell? ⟨p,1,none⟩=some (.int .i64 d.id)
def DlV (w:World) (l:List Du) (e:Ending) (w' : World):Prop:=∃ A c,e=.returned (.slice A l.length c)/\Nw w.heap.size A/\Dl w' w'.heap.size (.slice A l.length c) l/\Below w.heap.size w w'
abbrev D2F (W:World) (p:Nat) (d:Du):Prop:=W.cell? ⟨p,0,none⟩=some (.int .i64 d.dl)/\W.cell? ⟨p,1,none⟩=some (.int .i64 d.id)/\W.frozen? ⟨p,0,none⟩=false/\W.frozen? ⟨p,1,none⟩=false/\p<W.heap.size
end Go.Proofs.YtkecnihgjepfeaaGreat
/- Plain: what Grant, Release, Extend of a table return; boxes of a table and of a message that may be written. -/
namespace Go.Proofs.YtkecnihgjepfeaaGreat
open Go.RowKit
set_option linter.unusedVariables false
set_option linter.unusedSimpArgs false
set_option maxHeartbeats 8000000
set_option maxRecDepth 20000
noncomputable def rlH (l:List Le) (h:List Du) (id:Int):List Du:=if rlE l h id=0 then rmR h id else []
noncomputable def rlL (l:List Le) (h:List Du) (id:Int):List Le:=if rlE l h id=0 then l.eraseIdx (kAt Le.id l id) else []
noncomputable def rlM (l:List Le) (h:List Du) (id:Int):Msg:=if rlE l h id=0 then (lg l (kAt Le.id l id)).m else zM
noncomputable def grL (l:List Le) (h:List Du) (x:Le):List Le:=if grE l h x=0 then kIns Le.id l x else []
noncomputable def grH (l:List Le) (h:List Du) (x:Le):List Du:=if grE l h x=0 then hpu h x.du else []
section
variable {l:List Le} {h:List Du} {id dl:Int} {x:Le}
end
structure RT (W:World) (r:Nat) (A:Option Addr) (n c:Nat) (A2:Option Addr) (n2 c2:Nat):Prop where
 c0:W.cell? ⟨r,0,none⟩=some (.slice A n c)
 c1:W.cell? ⟨r,1,none⟩=some (.slice A2 n2 c2)
 f0:W.frozen? ⟨r,0,none⟩=false
 f1:W.frozen? ⟨r,1,none⟩=false
 lt:r<W.heap.size
section
variable {W W' w:World} {r n c n2 c2:Nat} {A A2:Option Addr}
abbrev set2 (W:World) (r:Nat) (v v2:Value):World:=(W.setCell ⟨r,0,none⟩ v).setCell ⟨r,1,none⟩ v2
end
end Go.Proofs.YtkecnihgjepfeaaGreat
/- Plain: shards: their first error, valid shards, what changes of their rings and tables give. -/
namespace Go.Proofs.YtkecnihgjepfeaaGreat
open Go.RowKit
set_option linter.unusedVariables false
set_option linter.unusedSimpArgs false
set_option maxHeartbeats 8000000
set_option maxRecDepth 20000
structure Sh where
 lv:Bool
 lo:Int
 hi:Int
 cs:List Msg
 hd:Int
 sz:Int
 l:List Le
 h:List Du
def zS:Sh:=⟨false,0,0,[],0,0,[],[]⟩
structure Sx where
 A:Option Addr
 c:Nat
 A2:Option Addr
 c2:Nat
 A3:Option Addr
 c3:Nat
noncomputable def Sh.al (S:Sh):List Msg:=lsF S.cs S.hd S.sz++S.l.map Le.m
def spB (lo hi:Int):Bool:=decide (0<=lo/\lo<=hi/\hi<65536)
theorem spB_iff {lo hi:Int}:spB lo hi=true↔0<=lo/\lo<=hi/\hi<65536:=decide_eq_true_iff
def rtB (lo hi:Int) (l:List Msg):Bool:=l.any (fun M=>!wi M.rt lo hi)
theorem rtB_no {lo hi:Int} {l:List Msg}:rtB lo hi l=false↔∀ M∈l,lo<=M.rt/\M.rt<=hi:=by
 unfold rtB
 rw [List.any_eq_false]
 refine forall_congr' fun M=>imp_congr_right fun _=>?_
 cases h:wi M.rt lo hi with
 | true=>have:=wi_of h;simp;omega
 | false=>
  simp
  intro h1
  have h2:¬M.rt<=hi:=fun h2=>by rw [wi_true h1 h2] at h;cases h
  omega
noncomputable def liE (S:Sh):Int:=if spB S.lo S.hi=false then 1 else if (S.cs.length:Int)<S.sz+S.l.length then 3 else if rtB S.lo S.hi S.al=true then 12 else if dpB S.al=true then 10 else 0
noncomputable def shV (S:Sh):Int:=if rgV S.cs S.hd S.sz≠0 then rgV S.cs S.hd S.sz else if tbV S.l S.h≠0 then tbV S.l S.h else if S.lv=true then liE S else if S.lo≠0\/S.hi≠0\/0<S.sz+S.l.length then 7 else 0
noncomputable def exS (S:Sh) (b:Bool):Int:=if shV S≠0 then shV S else if S.lv=false then 7 else if b=true then 0 else 1
theorem exS_bad {S:Sh} (b:Bool) (h:shV S≠0):exS S b=shV S:=if_pos h
theorem exS_off {S:Sh} (b:Bool) (h:shV S=0) (h1:S.lv=false):exS S b=7:=by unfold exS;rw [if_neg (by simpa using h),if_pos h1]
theorem exS_num {S:Sh} {b:Bool} (h:shV S=0) (h1:S.lv=true) (hb:b=false):exS S b=1:=by unfold exS;rw [if_neg (by simpa using h),if_neg (by simp [h1]),if_neg (by simp [hb])]
theorem exS_ok {S:Sh} {b:Bool} (h:shV S=0) (h1:S.lv=true) (hb:b=true):exS S b=0:=by unfold exS;rw [if_neg (by simpa using h),if_neg (by simp [h1]),if_pos hb]
theorem exS_zero {S:Sh} {b:Bool} (h:exS S b=0):shV S=0/\S.lv=true/\b=true:=by
 by_cases h0:shV S=0
 ·cases h1:S.lv with
  | false=>rw [exS_off b h0 h1] at h;exact absurd h (by decide)
  | true=>
   cases hb:b with
   | false=>rw [exS_num h0 h1 hb] at h;exact absurd h (by decide)
   | true=>exact ⟨h0,rfl,rfl⟩
 ·rw [exS_bad b h0] at h;exact absurd h h0
structure Vs where
 lo:Int
 hi:Int
 n:Nat
 hd:Nat
 L:List Msg
 l:List Le
 h:List Du
def Vs.sh (V:Vs):Sh:=⟨true,V.lo,V.hi,fil V.n V.hd V.L,V.hd,V.L.length,V.l,V.h⟩
def Vs.al (V:Vs):List Msg:=V.L++V.l.map Le.m
structure Vs.Ok (V:Vs):Prop where
 n1:1<=V.n
 n2:V.n<=12
 hh:V.hd<V.n
 tb:TbOk V.l V.h
 sp:0<=V.lo/\V.lo<=V.hi/\V.hi<65536
 room:V.L.length+V.l.length<=V.n
 gd:Gd V.al
 own:∀ M∈V.al,V.lo<=M.rt/\M.rt<=V.hi
section
variable {V:Vs}
theorem Vs.Ok.gL (k:V.Ok):Gd V.L:=gd_sub (List.sublist_append_left _ _) k.gd
theorem Vs.Ok.lenL (k:V.Ok):V.L.length<=V.n:=by have:=k.room;omega
theorem Vs.Ok.ls (k:V.Ok):lsF (fil V.n V.hd V.L) (V.hd:Int) (V.L.length:Int)=V.L:=lsF_fil k.n1 k.n2 k.hh k.lenL k.gL
theorem Vs.Ok.al_sh (k:V.Ok):V.sh.al=V.al:=by
 show lsF (fil V.n V.hd V.L) (V.hd:Int) (V.L.length:Int)++_=_
 rw [k.ls];rfl
theorem Vs.Ok.rg (k:V.Ok):rgV (fil V.n V.hd V.L) (V.hd:Int) (V.L.length:Int)=0:=rgV_fil k.n1 k.n2 k.hh k.lenL k.gL
theorem Vs.Ok.li (k:V.Ok):liE V.sh=0:=by
 unfold liE
 rw [if_neg (by rw [show spB V.sh.lo V.sh.hi=true from spB_iff.2 k.sp];decide),if_neg (by show ¬((fil V.n V.hd V.L).length:Int)<(V.L.length:Int)+V.l.length;rw [fil_len];have:=k.room;omega),k.al_sh,
  if_neg (by rw [show rtB V.sh.lo V.sh.hi V.al=false from rtB_no.2 k.own];decide),if_neg (by rw [dpB_no k.gd.2];decide)]
theorem Vs.Ok.va (k:V.Ok):shV V.sh=0:=by
 unfold shV
 rw [if_neg (fun h=>h k.rg),if_neg (fun h=>h ((tbV_iff V.l V.h).2 k.tb)),if_pos (show V.sh.lv=true from rfl)]
 exact k.li
end
theorem vs_of {S:Sh} (h:shV S=0) (h1:S.lv=true):∃ V:Vs,V.Ok/\S=V.sh:=by
 unfold shV at h
 by_cases e1:rgV S.cs S.hd S.sz=0
 ·rw [if_neg (by simpa using e1)] at h
  by_cases e2:tbV S.l S.h=0
  ·rw [if_neg (by simpa using e2),if_pos h1] at h
   obtain ⟨g1,g2,g3,g4⟩:=rgV_zero e1
   obtain ⟨⟨n1,n2⟩,⟨d1,d2⟩,⟨s1,s2⟩⟩:=nm_of g1
   obtain ⟨d,hd⟩:=Int.eq_ofNat_of_zero_le d1
   obtain ⟨s,hs⟩:=Int.eq_ofNat_of_zero_le s1
   have hL:lsF S.cs S.hd S.sz=ord S.cs d s:=by
    unfold lsF
    rw [if_pos e1,hd,hs];simp only [Int.toNat_natCast]
   have hal:S.al=ord S.cs d s++S.l.map Le.m:=by unfold Sh.al;rw [hL]
   have hcs:fil S.cs.length d (ord S.cs d s)=S.cs:=fil_ord (by omega) (fun k hk hlt=>g2 k (by rw [hs];simpa using hk) hlt |> fun e=>by rw [hd] at e;simpa using e)
   have t:=(tbV_iff S.l S.h).1 e2
   unfold liE at h
   cases q1:spB S.lo S.hi with
   | false=>rw [if_pos q1] at h;exact absurd h (by decide)
   | true=>
    rw [if_neg (by simp [q1])] at h
    by_cases q2:(S.cs.length:Int)<S.sz+S.l.length
    ·rw [if_pos q2] at h;exact absurd h (by decide)
    ·rw [if_neg q2] at h
     cases q3:rtB S.lo S.hi S.al with
     | true=>rw [if_pos q3] at h;exact absurd h (by decide)
     | false=>
      rw [if_neg (by simp [q3])] at h
      cases q4:dpB S.al with
      | true=>rw [if_pos q4] at h;exact absurd h (by decide)
      | false=>
       refine ⟨⟨S.lo,S.hi,S.cs.length,d,ord S.cs d s,S.l,S.h⟩,⟨by show 1<=S.cs.length;omega,by show S.cs.length<=12;omega,by show d<S.cs.length;omega,t,spB_iff.1 q1,by show (ord S.cs d s).length+S.l.length<=S.cs.length;rw [ord_len];omega,⟨?_,?_⟩,?_⟩,?_⟩
       ·intro M hM
        rcases List.mem_append.1 hM with hM | hM
        ·exact fe_zero (by rw [hd,hs] at g3;simpa using g3) M hM
        ·obtain ⟨x,hx,rfl⟩:=List.mem_map.1 hM
         exact (t.ok x hx).1
       ·show ¬dupP (ord S.cs d s++S.l.map Le.m)
        rw [<-hal];exact dpB_not q4
       ·intro M hM
        exact rtB_no.1 q3 M (by rw [hal];exact hM)
       ·cases S with
        | mk lv lo hi cs hd' sz l hh=>
         simp only at*
         subst h1 hd hs
         show _=Sh.mk true lo hi (fil cs.length d (ord cs d s)) d (ord cs d s).length l hh
         rw [hcs,ord_len]
  ·rw [if_pos e2] at h;exact absurd h e2
 ·rw [if_pos e1] at h;exact absurd h e1
theorem vs_ex {S:Sh} {b:Bool} (h:exS S b=0):b=true/\∃ V:Vs,V.Ok/\S=V.sh:=by
 obtain ⟨h0,h1,h2⟩:=exS_zero h
 exact ⟨h2,vs_of h0 h1⟩
end Go.Proofs.YtkecnihgjepfeaaGreat
