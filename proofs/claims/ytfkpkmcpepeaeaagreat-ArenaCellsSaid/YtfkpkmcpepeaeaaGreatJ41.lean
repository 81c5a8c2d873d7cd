/- What is proved here: dead.Put by one contract; '==' and '!=' of a lease and itself; shardqueueref05.Same of two lists that read alike are true; shardqueueref06.SameLeases, Same of two lists, two tables that read alike are true. -/
import Derived.Test.YtfkpkmcpepeaeaaGreatJ38
import Derived.Test.YtfkpkmcpepeaeaaGreatJ40
import Derived.Test.YtfkpkmcpepeaeaaGreatJ09
import Derived.Test.YtfkpkmcpepeaeaaGreatJ04
import Derived.Test.YtfkpkmcpepeaeaaGreatJ23
import Derived.Test.YtfkpkmcpepeaeaaGreatJ31
import Derived.Test.YtfkpkmcpepeaeaaGreatJ11
import Derived.Deep.QuietTactic
import Derived.BigQuiet
namespace Go.Proofs.YtfkpkmcpepeaeaaGreat
open Go.RowKit
set_option linter.unusedVariables false

/-- The boxes of a store and of a result. -/
structure Tw8 (w : World) (p r : Nat) (cap : Int) (A : Option Addr) (c : Nat) (l : List Msg) (W : World) : Prop where
  db : Db8 W p cap A l.length c
  rs : Db8 W r 0 none 0 0
  ls : Ls W w.heap.size (.slice A l.length c) l
  bel : Below w.heap.size w W
  old : w.heap.size ≤ p ∧ p < r
section
variable {w W W' : World} {p r c : Nat} {cap : Int} {A : Option Addr} {l : List Msg}
theorem Tw8.below (h : Tw8 w p r cap A c l W) (hb : Below W.heap.size W W') : Tw8 w p r cap A c l W' :=
  ⟨h.db.up hb, h.rs.up hb, h.ls.below (hb.mono h.bel.size), h.bel.trans (hb.mono h.bel.size), h.old⟩
theorem Tw8.alloc (h : Tw8 w p r cap A c l W) (o : Obj) : Tw8 w p r cap A c l (W.alloc o) := h.below ((Below.refl _ _).alloc (Nat.le_refl _) o)
theorem Tw8.drew (h : Tw8 w p r cap A c l W) : Tw8 w p r cap A c l W.drew := ⟨h.db.drew, h.rs.drew, h.ls.drew, h.bel.drew, h.old⟩
theorem Tw8.here (h : Tw8 w p r cap A c l W) : Ls W W.heap.size (.slice A l.length c) l := h.ls.more h.bel.size
theorem Tw8.start (t u : TypeId) (cap : Int) (hv : Ls w w.heap.size (.slice A l.length c) l) : Tw8 w w.heap.size (w.heap.size + 1) cap A c l ((w.alloc (.cells #[.int .i64 cap, .slice A l.length c] t)).alloc (.cells #[.int .i64 0, .slice none 0 0] u)) := by
  have h2 := Db8.fresh (w.alloc (.cells #[.int .i64 cap, .slice A l.length c] t)) 0 none 0 0 u
  have e : (w.alloc (.cells #[.int .i64 cap, .slice A l.length c] t)).heap.size = w.heap.size + 1 := by simp
  rw [e] at h2
  exact ⟨(Db8.fresh w cap A l.length c t).alloc _, h2, (hv.alloc (Nat.le_refl _) _).alloc (by simp) _, ((Below.refl _ _).alloc (Nat.le_refl _) _).alloc (by simp) _, Nat.le_refl _, by omega⟩
/-- A result is stored: the zero store. -/
theorem Tw8.zero (h : Tw8 w p r cap A c l W) : Below w.heap.size w ((W.setCell ⟨r, 0, none⟩ (.int .i64 0)).setCell ⟨r, 1, none⟩ (.slice none 0 0)) :=
  (h.bel.setCell (p := ⟨r, 0, none⟩) (show w.heap.size ≤ r by have := h.old; omega) _).setCell (p := ⟨r, 1, none⟩) (show w.heap.size ≤ r by have := h.old; omega) _
theorem Tw8.out (h : Tw8 w p r cap A c l W) (e : Int) : D8 w 0 [] e (.returned (.tuple #[.agg #[.int .i64 0, .slice none 0 0], .int .i64 e])) ((W.setCell ⟨r, 0, none⟩ (.int .i64 0)).setCell ⟨r, 1, none⟩ (.slice none 0 0)) :=
  ⟨none, 0, rfl, nw_none, Ls.nil, h.zero⟩
end
/-- Put's state behind the joining of the lists. -/
structure Pu8 (w : World) (p r : Nat) (cap : Int) (A : Option Addr) (c : Nat) (l : List Msg) (W : World) : Prop where
  db : Db8 W p cap A l.length c
  rs : Db8 W r 0 none 0 0
  ls : Ls W W.heap.size (.slice A l.length c) l
  nw : Nw (r + 1) A
  bel : Below w.heap.size w W
  old : w.heap.size ≤ p ∧ p < r
section
variable {w W W' : World} {p r c : Nat} {cap : Int} {A : Option Addr} {l : List Msg}
theorem Pu8.below (h : Pu8 w p r cap A c l W) (hb : Below W.heap.size W W') : Pu8 w p r cap A c l W' :=
  ⟨h.db.up hb, h.rs.up hb, (h.ls.below hb).more hb.size, h.nw, h.bel.trans (hb.mono h.bel.size), h.old⟩
theorem Pu8.zero (h : Pu8 w p r cap A c l W) : Below w.heap.size w ((W.setCell ⟨r, 0, none⟩ (.int .i64 0)).setCell ⟨r, 1, none⟩ (.slice none 0 0)) :=
  (h.bel.setCell (p := ⟨r, 0, none⟩) (show w.heap.size ≤ r by have := h.old; omega) _).setCell (p := ⟨r, 1, none⟩) (show w.heap.size ≤ r by have := h.old; omega) _
theorem Pu8.out (h : Pu8 w p r cap A c l W) : D8 w cap l 0 (.returned (.tuple #[.agg #[.int .i64 cap, .slice A l.length c], .int .i64 0])) ((W.setCell ⟨r, 0, none⟩ (.int .i64 cap)).setCell ⟨r, 1, none⟩ (.slice A l.length c)) := by
  have ho : Ob r l.length A := ob_nw h.nw (Nat.lt_succ_self r)
  refine ⟨A, c, rfl, nw_low h.nw (by have := h.old; omega), ?_, (h.bel.setCell (p := ⟨r, 0, none⟩) (show w.heap.size ≤ r by have := h.old; omega) _).setCell (p := ⟨r, 1, none⟩) (show w.heap.size ≤ r by have := h.old; omega) _⟩
  have := (h.ls.offo (p := ⟨r, 0, none⟩) ho (.int .i64 cap)).offo (p := ⟨r, 1, none⟩) ho (.slice A l.length c)
  simpa using this
end
end Go.Proofs.YtfkpkmcpepeaeaaGreat
namespace Go.Proofs.YtfkpkmcpepeaeaaGreat
open Go.RowKit
set_option linter.unusedVariables false

theorem eqm_fuel (M : Msg) (f : Nat) (W : World) : (Op.equalIn (f + 2) 112 M.v M.v).run Tryz.prog W = .ok true W := by
  have u3 := Tryz.underlying3
  have u9 := Tryz.underlying9
  have hS : Tryz.prog.underlying 112 = some (.struct (Tryz.prog.fieldsOf 112)) := by kernel_rfl
  have hp : Tryz.prog.stoodInHeld 112 = false := by kernel_rfl
  rw [show f + 2 = (f + 1) + 1 from rfl, run_equalIn_agg W (f + 1) 112 _ _ hS hp]
  simp only [Program.fieldsOf, Tryz.underlying112]
  go_simp
theorem eql_in (x : Le) (W : World) : (Op.equalIn 10000 115 x.v x.v).run Tryz.prog W = .ok true W := by
  have u3 := Tryz.underlying3
  have hS : Tryz.prog.underlying 115 = some (.struct (Tryz.prog.fieldsOf 115)) := by kernel_rfl
  have hp : Tryz.prog.stoodInHeld 115 = false := by kernel_rfl
  have hM := fun W => eqm_fuel x.m 9997 W
  rw [show (10000 : Nat) = 9999 + 1 from rfl, run_equalIn_agg W 9999 115 _ _ hS hp]
  simp only [Program.fieldsOf, Tryz.underlying115]
  go_simp
theorem eql (x : Le) : ∀ W, (binOp .eql 115 x.v x.v).run Tryz.prog W = .ok (.bool true) W := fun W => by
  rw [run_eql_struct, eql_in]; rfl
theorem neql (x : Le) : ∀ W, (binOp .neq 115 x.v x.v).run Tryz.prog W = .ok (.bool false) W := fun W => by
  rw [run_neq_struct, eql_in]; rfl
end Go.Proofs.YtfkpkmcpepeaeaaGreat
namespace Go.Proofs.YtfkpkmcpepeaeaaGreat
open Go.RowKit
set_option linter.unusedVariables false

set_option maxHeartbeats 2000000 in
theorem rsame5_yes (A A' : Option Addr) (n n' c c' : Nat) (l : List Du) (w : World) (B B' : Nat) (hv : Dl w B (.slice A n c) l) (hv' : Dl w B' (.slice A' n' c') l) :
    Calls Tryz.prog 58 #[.slice A n c, .slice A' n' c'] w fun e w' => e = .returned (.bool true) ∧ Below w.heap.size w w' := by
  obtain ⟨rfl, hm1, hm2⟩ := hv.len
  obtain ⟨rfl, hm1', hm2'⟩ := hv'.len
  have hL : l.length ≤ 9223372036854775807 := by unfold maxLen at hm2; omega
  have HV := Lib.hid hv
  have HV' := Lib.hid hv'
  have HB := Lib.hid (Below.refl w.heap.size w)
  clear hv hm1 hm2 hv' hm1' hm2'
  go_enter Tryz.func58, Tryz.ntmps58
  go_wp2
  go_loopw [5] (fun i wr => ∃ k : Nat, k ≤ l.length ∧ i = .int .i64 k ∧ Dl wr B (.slice A l.length c) l ∧ Dl wr B' (.slice A' l.length c') l ∧ Below w.heap.size w wr) (fun i _ => l.length - (intOf i).toNat)
  case atStart => exact ⟨0, by omega, rfl, HV.out, HV'.out, HB.out⟩
  case round =>
    obtain ⟨k, hk, rfl, hv, hv', hb⟩ := hrel
    have HV := Lib.hid hv
    have HV' := Lib.hid hv'
    have HB := Lib.hid hb
    clear hv hv' hb
    by_cases hlt : k < l.length
    · obtain ⟨b, o, rfl, hb, c0, c1⟩ := HV.out.atg hlt
      obtain ⟨b', o', rfl, hb', d0, d1⟩ := HV'.out.atg hlt
      generalize ge l k = M at *
      have hne := neqd_no M
      go_wp2
      go_quiet (fail)
      go_wp2
      go_roundw
      case rel => exact ⟨k + 1, by omega, by go_num, HV.out.drewN _, HV'.out.drewN _, bel_drewN HB.out _⟩
      case measure => simp [intOf]; omega
    · go_wp2
      go_ret
      exact ⟨rfl, HB.out⟩

end Go.Proofs.YtfkpkmcpepeaeaaGreat
namespace Go.Proofs.YtfkpkmcpepeaeaaGreat
open Go.RowKit
set_option linter.unusedVariables false

set_option maxHeartbeats 2000000 in
theorem rsamel_yes (A A' : Option Addr) (n n' c c' : Nat) (l : List Le) (w : World) (B B' : Nat) (hv : El w B (.slice A n c) l) (hv' : El w B' (.slice A' n' c') l) :
    Calls Tryz.prog 57 #[.slice A n c, .slice A' n' c'] w fun e w' => e = .returned (.bool true) ∧ Below w.heap.size w w' := by
  obtain ⟨rfl, hm1, hm2⟩ := hv.len
  obtain ⟨rfl, hm1', hm2'⟩ := hv'.len
  have hL : l.length ≤ 9223372036854775807 := by unfold maxLen at hm2; omega
  have HV := Lib.hid hv
  have HV' := Lib.hid hv'
  have HB := Lib.hid (Below.refl w.heap.size w)
  clear hv hm1 hm2 hv' hm1' hm2'
  go_enter Tryz.func57, Tryz.ntmps57
  go_wp2
  go_loopw [5] (fun i wr => ∃ k : Nat, k ≤ l.length ∧ i = .int .i64 k ∧ El wr B (.slice A l.length c) l ∧ El wr B' (.slice A' l.length c') l ∧ Below w.heap.size w wr) (fun i _ => l.length - (intOf i).toNat)
  case atStart => exact ⟨0, by omega, rfl, HV.out, HV'.out, HB.out⟩
  case round =>
    obtain ⟨k, hk, rfl, hv, hv', hb⟩ := hrel
    have HV := Lib.hid hv
    have HV' := Lib.hid hv'
    have HB := Lib.hid hb
    clear hv hv' hb
    by_cases hlt : k < l.length
    · obtain ⟨b, o, rfl, _⟩ := HV.out.some_ (by omega)
      obtain ⟨b', o', rfl, _⟩ := HV'.out.some_ (by omega)
      obtain ⟨⟨c0, c1, c2, c3, c4, c5, c6, c7⟩, hb⟩ := HV.out.c8 hlt
      obtain ⟨⟨d0, d1, d2, d3, d4, d5, d6, d7⟩, hb'⟩ := HV'.out.c8 hlt
      generalize l[k] = M at *
      have hne := neql M
      go_wp2
      go_quiet (fail)
      go_wp2
      go_roundw
      case rel => exact ⟨k + 1, by omega, by go_num, HV.out.drewN _, HV'.out.drewN _, bel_drewN HB.out _⟩
      case measure => simp [intOf]; omega
    · go_wp2
      go_ret
      exact ⟨rfl, HB.out⟩

set_option maxHeartbeats 2000000 in
theorem rtsame_yes (A A' : Option Addr) (n n' c c' : Nat) (l : List Le) (A2 A2' : Option Addr) (n2 n2' c2 c2' : Nat) (h : List Du) (w : World)
    (hv : El w w.heap.size (.slice A n c) l) (hv' : El w w.heap.size (.slice A' n' c') l) (hd : Dl w w.heap.size (.slice A2 n2 c2) h) (hd' : Dl w w.heap.size (.slice A2' n2' c2') h) :
    Calls Tryz.prog 32 #[tv A n c A2 n2 c2, tv A' n' c' A2' n2' c2'] w fun e w' => e = .returned (.bool true) ∧ Below w.heap.size w w' := by
  have HB := Lib.hid (((Below.refl w.heap.size w).alloc (Nat.le_refl _) (.cells #[.slice A n c, .slice A2 n2 c2] 52)).alloc (by simp) (.cells #[.slice A' n' c', .slice A2' n2' c2'] 52))
  have HE := Lib.hid (fun W (hb : Below w.heap.size w W) => rsamel_yes A A' n n' c c' l W _ _ (hv.below hb) (hv'.below hb))
  have HD := Lib.hid (fun W (hb : Below w.heap.size w W) => rsame5_yes A2 A2' n2 n2' c2 c2' h W _ _ (hd.below hb) (hd'.below hb))
  have HT := Lib.hid ((TB.start w A n c A2 n2 c2 52).below ((Below.refl (w.heap.size + 1) _).alloc (by simp) (.cells #[.slice A' n' c', .slice A2' n2' c2'] 52)) (Nat.lt_succ_self _))
  have HT' := Lib.hid (TB.start (w.alloc (.cells #[.slice A n c, .slice A2 n2 c2] 52)) A' n' c' A2' n2' c2' 52)
  rw [show (w.alloc (.cells #[.slice A n c, .slice A2 n2 c2] 52)).heap.size = w.heap.size + 1 by simp] at HT'
  clear hv hv' hd hd'
  go_enter Tryz.func32, Tryz.ntmps32
  go_wp2_with fail
  obtain ⟨p, hp⟩ : ∃ p, p = w.heap.size := ⟨_, rfl⟩
  obtain ⟨q, hq⟩ : ∃ q, q = w.heap.size + 1 := ⟨_, rfl⟩
  rw [← hq] at HT'
  rw [← hp] at HT
  rw [← hq, ← hp]
  clear hq hp
  generalize (w.alloc (.cells #[.slice A n c, .slice A2 n2 c2] 52)).alloc (.cells #[.slice A' n' c', .slice A2' n2' c2'] 52) = w2 at *
  refine (HE.out _ HB.out).mono ?_
  rintro e w3 ⟨rfl, hb⟩
  obtain ⟨t0, t1, tl⟩ := HT.out.below hb HT.out.2.2
  obtain ⟨s0, s1, sl⟩ := HT'.out.below hb HT'.out.2.2
  have HB3 := Lib.hid (HB.out.trans (hb.mono HB.out.size))
  clear hb
  go_wp2_with fail
  refine (HD.out _ HB3.out).mono ?_
  rintro e w4 ⟨rfl, hb⟩
  have HB4 := Lib.hid (HB3.out.trans (hb.mono HB3.out.size))
  clear hb
  go_wp2
  go_ret
  exact ⟨rfl, HB4.out⟩
end Go.Proofs.YtfkpkmcpepeaeaaGreat
