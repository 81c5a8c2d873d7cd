/- What is proved here: shardqueueref04.with by a contract; shardqueueref03.Same of two lists that read alike is true; shardqueueref04.New and shardqueueref04.Same by contracts; RingOf of the statements' base makes a valid ring; Purged, Spent, Receivable, Deliver, Revive, Reroute of message and their references, each by one contract for all arguments; shard.Holds by a contract. -/
import Derived.Test.YtakjpmbgapipjaaGreatJ19
namespace Go.Proofs.YtakjpmbgapipjaaGreat
open Go.RowKit
set_option linter.unusedVariables false
structure WiAt (w:World) (r z y:Nat) (n:Nat) (hd sz:Int) (f:Nat→Msg) (W:World):Prop where
 rs:RB W r none 0 0 0 0
 row:MRow W z n f
 rb:RB W y (some ⟨z,0,none⟩) n n hd sz
 bel:Below w.heap.size w W
 old:w.heap.size≤r∧r<z∧z<y
section
variable {w W W' : World} {r z y n:Nat} {hd sz:Int} {f:Nat→Msg}
end
attribute [local go_sem ↓] Go.wp_at_zero Go.wp_at_succ
set_option maxHeartbeats 1000000 in
theorem rsame_yes (A A' : Option Addr) (n n' c c' : Nat) (l:List Msg) (w:World) (B B' : Nat) (hv:Ls w B (.slice A n c) l) (hv' : Ls w B' (.slice A' n' c') l) :
  Calls Tryz.prog 23 #[.slice A n c,.slice A' n' c'] w fun e w'=>e=.returned (.bool true)∧Below w.heap.size w w':=by
 obtain ⟨rfl,hm1,hm2⟩:=hv.len
 obtain ⟨rfl,hm1',hm2'⟩:=hv'.len
 have hL:l.length≤9223372036854775807:=by unfold maxLen at hm2;omega
 have HV:=Lh hv
 have HV':=Lh hv'
 have HB:=Lh (Below.refl w.heap.size w)
 clear hv hm1 hm2 hv' hm1' hm2'
 go_enter Tryz.func23,Tryz.ntmps23
 go_wp2
 go_loopw [5] (fun i wr=>∃ k:Nat,k≤l.length∧i=.int .i64 k∧Ls wr B (.slice A l.length c) l∧Ls wr B' (.slice A' l.length c') l∧Below w.heap.size w wr) (fun i _=>l.length - (intOf i).toNat)
 case atStart=>exact ⟨0,by omega,rfl,HV.out,HV'.out,HB.out⟩
 case round=>
  obtain ⟨k,hk,rfl,hv,hv',hb⟩:=hrel
  have HV:=Lh hv
  have HV':=Lh hv'
  have HB:=Lh hb
  clear hv hv' hb
  by_cases hlt:k<l.length
  ·obtain ⟨b,o,rfl,hb,hc⟩:=HV.out.at_ hlt
   obtain ⟨b',o',rfl,hb',hc'⟩:=HV'.out.at_ hlt
   generalize l[k]=M at*
   have hne:=neqm M
   obtain ⟨c0,c1,c2,c3,c4,c5,c6⟩:=hc
   obtain ⟨d0,d1,d2,d3,d4,d5,d6⟩:=hc'
   go_wp2
   go_quiet (fail)
   go_wp2
   go_roundw
   case rel=>exact ⟨k+1,by omega,by go_num,HV.out.drewN _,HV'.out.drewN _,below_drewN HB.out _⟩
   case measure=>simp [intOf];omega
  ·go_wp2
   go_ret
   exact ⟨rfl,HB.out⟩
set_option maxHeartbeats 2000000 in
theorem gsame_yes (A A' : Option Addr) (n n' c c' : Nat) (hd sz:Int) (l:List Msg) (w:World) (B B' : Nat) (hB:B≤w.heap.size) (hB' : B'≤w.heap.size) (hv:Ls w B (.slice A n c) l) (hv' : Ls w B' (.slice A' n' c') l) :
  Calls Tryz.prog 44 #[.agg #[.slice A n c,.int .i64 hd,.int .i64 sz],.agg #[.slice A' n' c',.int .i64 hd,.int .i64 sz]] w fun e w'=>e=.returned (.bool true)∧Below w.heap.size w w':=by
 have HB:=Lh (((Below.refl w.heap.size w).alloc (Nat.le_refl _) (.cells #[.slice A n c,.int .i64 hd,.int .i64 sz] 72)).alloc (by simp) (.cells #[.slice A' n' c',.int .i64 hd,.int .i64 sz] 72))
 have HS:=Lh (fun w1 (h:Below w.heap.size w w1)=>rsame_yes A A' n n' c c' l w1 B B' (hv.keep fun p hp=>h.cell (Nat.lt_of_lt_of_le hp hB)) (hv'.keep fun p hp=>h.cell (Nat.lt_of_lt_of_le hp hB')))
 clear hv hv' hB hB'
 go_enter Tryz.func44,Tryz.ntmps44
 go_wp2_with fail
 refine (HS.out _ HB.out).mono ?_
 rintro e w1 ⟨rfl,hb⟩
 have HB1:=Lh (HB.out.trans (hb.mono HB.out.size))
 clear hb
 go_wp2
 go_ret
 exact ⟨rfl,HB1.out⟩
structure RoAt (w:World) (B g r y:Nat) (A:Option Addr) (k c hd:Nat) (L:List Msg) (W:World):Prop where
 rb:RB W y A k c hd L.length
 rs:RB W r none 0 0 0 0
 ls:Ls W W.heap.size (.slice A k c) (fil k hd L)
 src:SrcAt W B g
 grow:w.grownBy W (some g)
 nw:Nw (r+1) A
 offy:Off y A
 old:w.heap.size≤r∧r<y∧g<w.heap.size∧B≤g
section
variable {w W W' : World} {B g r y k c hd:Nat} {A:Option Addr} {L:List Msg}
end
def spF (M:Msg) (l:Int):Bool:=decide (l≤M.ct)
theorem spent_any (M:Msg) (k:Int) (w:World):Calls Tryz.prog 159 #[M.v,.int .i64 k] w fun e w'=>e=.returned (.bool (spF M k))∧Below w.heap.size w w':=by
 have HB:=Lh ((Below.refl w.heap.size w).alloc (Nat.le_refl _) (.cells M.cs 84))
 by_cases h:k≤M.ct
 ·have HF:=Lh (show spF M k=true from decide_eq_true h)
  go_enter Tryz.func159,Tryz.ntmps159
  go_wp2
  go_ret
  exact ⟨by rw [HF.out];rfl,HB.out⟩
 ·have HF:=Lh (show spF M k=false from decide_eq_false h)
  go_enter Tryz.func159,Tryz.ntmps159
  go_wp2
  go_ret
  exact ⟨by rw [HF.out];rfl,HB.out⟩
structure Hn where
 id:Int
 gn:Int
 rt:Int
 ht:Int
abbrev Hn.v (H:Hn):Value:=.agg #[.int .i64 H.id,.int .i64 H.gn,.int .i64 H.rt,.int .i64 H.ht]
def H4 (W:World) (q:Nat) (H:Hn):Prop:=W.cell? ⟨q,0,none⟩=some (.int .i64 H.id)∧W.cell? ⟨q,1,none⟩=some (.int .i64 H.gn)∧W.cell? ⟨q,2,none⟩=some (.int .i64 H.rt)∧W.cell? ⟨q,3,none⟩=some (.int .i64 H.ht)∧q<W.heap.size
theorem nl_two (w:World) (a b:Rn) (t:TypeId):Nl (w.alloc (.cells #[.int .i64 a.n,.int .i64 a.lo,.int .i64 a.hi,.int .i64 b.n,.int .i64 b.lo,.int .i64 b.hi] t)) (w.heap.size+1) (.slice (some ⟨w.heap.size,0,none⟩) 2 2) [a,b]:=by
 refine ⟨_,2,rfl,Nat.le_refl _,by unfold maxLen;omega,by simp [rcs,Rn.l],fun _=>⟨w.heap.size,0,rfl,Nat.lt_succ_self _,fun j u hu=>?_⟩⟩
 rw [Nat.zero_add,World.cell?_alloc_new]
 simpa [rcs,Rn.l] using hu
end Go.Proofs.YtakjpmbgapipjaaGreat
