/- What is proved here: dead.Put by one contract; shardqueueref08.New, sound, Validate, Room, Same by contracts; '==' and '!=' of a lease and itself; shardqueueref05.Same of two lists that read alike are true. -/
import Derived.Test.YtfkpkmcpepeaeaaJ39
import Derived.Test.YtfkpkmcpepeaeaaJ41
import Derived.Test.YtfkpkmcpepeaeaaJ03
import Derived.Test.YtfkpkmcpepeaeaaRows
import Derived.Test.YtfkpkmcpepeaeaaJ01
import Derived.WalkKit
import Derived.Outline
import Derived.IntWalk
import Derived.Test.YtfkpkmcpepeaeaaJ28
import Derived.Test.YtfkpkmcpepeaeaaJ09
import Derived.Test.YtfkpkmcpepeaeaaJ04
import Derived.Test.YtfkpkmcpepeaeaaJ24
import Derived.Test.YtfkpkmcpepeaeaaJ32
import Derived.Test.YtfkpkmcpepeaeaaJ11
import Derived.Deep.QuietTactic
import Derived.BigQuiet
namespace Go.Proofs.Ytfkpkmcpepeaeaa
open Go.RowKit
set_option linter.unusedVariables false

/-- The boxes of a store and of a result. -/
structure Tw8 (w : World) (p r : Nat) (cap : Int) (A : Option Addr) (c : Nat) (l : List Msg) (W : World) : Prop where
  db : Db8 W p cap A l.length c
  rs : Db8 W r 0 none 0 0
  ls : Ls W w.heap.size (.slice A l.length c) l
  bel : Below w.heap.size w W
  old : w.heap.size ≤ p ∧ p < r
section
variable {w W W' : World} {p r c : Nat} {cap : Int} {A : Option Addr} {l : List Msg}
theorem Tw8.below (h : Tw8 w p r cap A c l W) (hb : Below W.heap.size W W') : Tw8 w p r cap A c l W' :=
  ⟨h.db.up hb, h.rs.up hb, h.ls.below (hb.mono h.bel.size), h.bel.trans (hb.mono h.bel.size), h.old⟩
theorem Tw8.alloc (h : Tw8 w p r cap A c l W) (o : Obj) : Tw8 w p r cap A c l (W.alloc o) := h.below ((Below.refl _ _).alloc (Nat.le_refl _) o)
theorem Tw8.drew (h : Tw8 w p r cap A c l W) : Tw8 w p r cap A c l W.drew := ⟨h.db.drew, h.rs.drew, h.ls.drew, h.bel.drew, h.old⟩
theorem Tw8.here (h : Tw8 w p r cap A c l W) : Ls W W.heap.size (.slice A l.length c) l := h.ls.more h.bel.size
theorem Tw8.start (t u : TypeId) (cap : Int) (hv : Ls w w.heap.size (.slice A l.length c) l) : Tw8 w w.heap.size (w.heap.size + 1) cap A c l ((w.alloc (.cells #[.int .i64 cap, .slice A l.length c] t)).alloc (.cells #[.int .i64 0, .slice none 0 0] u)) := by
  have h2 := Db8.fresh (w.alloc (.cells #[.int .i64 cap, .slice A l.length c] t)) 0 none 0 0 u
  have e : (w.alloc (.cells #[.int .i64 cap, .slice A l.length c] t)).heap.size = w.heap.size + 1 := by simp
  rw [e] at h2
  exact ⟨(Db8.fresh w cap A l.length c t).alloc _, h2, (hv.alloc (Nat.le_refl _) _).alloc (by simp) _, ((Below.refl _ _).alloc (Nat.le_refl _) _).alloc (by simp) _, Nat.le_refl _, by omega⟩
/-- A result is stored: the zero store. -/
theorem Tw8.zero (h : Tw8 w p r cap A c l W) : Below w.heap.size w ((W.setCell ⟨r, 0, none⟩ (.int .i64 0)).setCell ⟨r, 1, none⟩ (.slice none 0 0)) :=
  (h.bel.setCell (p := ⟨r, 0, none⟩) (show w.heap.size ≤ r by have := h.old; omega) _).setCell (p := ⟨r, 1, none⟩) (show w.heap.size ≤ r by have := h.old; omega) _
theorem Tw8.out (h : Tw8 w p r cap A c l W) (e : Int) : D8 w 0 [] e (.returned (.tuple #[.agg #[.int .i64 0, .slice none 0 0], .int .i64 e])) ((W.setCell ⟨r, 0, none⟩ (.int .i64 0)).setCell ⟨r, 1, none⟩ (.slice none 0 0)) :=
  ⟨none, 0, rfl, nw_none, Ls.nil, h.zero⟩
end
/-- Put's state behind the joining of the lists. -/
structure Pu8 (w : World) (p r : Nat) (cap : Int) (A : Option Addr) (c : Nat) (l : List Msg) (W : World) : Prop where
  db : Db8 W p cap A l.length c
  rs : Db8 W r 0 none 0 0
  ls : Ls W W.heap.size (.slice A l.length c) l
  nw : Nw (r + 1) A
  bel : Below w.heap.size w W
  old : w.heap.size ≤ p ∧ p < r
section
variable {w W W' : World} {p r c : Nat} {cap : Int} {A : Option Addr} {l : List Msg}
theorem Pu8.below (h : Pu8 w p r cap A c l W) (hb : Below W.heap.size W W') : Pu8 w p r cap A c l W' :=
  ⟨h.db.up hb, h.rs.up hb, (h.ls.below hb).more hb.size, h.nw, h.bel.trans (hb.mono h.bel.size), h.old⟩
theorem Pu8.zero (h : Pu8 w p r cap A c l W) : Below w.heap.size w ((W.setCell ⟨r, 0, none⟩ (.int .i64 0)).setCell ⟨r, 1, none⟩ (.slice none 0 0)) :=
  (h.bel.setCell (p := ⟨r, 0, none⟩) (show w.heap.size ≤ r by have := h.old; omega) _).setCell (p := ⟨r, 1, none⟩) (show w.heap.size ≤ r by have := h.old; omega) _
theorem Pu8.out (h : Pu8 w p r cap A c l W) : D8 w cap l 0 (.returned (.tuple #[.agg #[.int .i64 cap, .slice A l.length c], .int .i64 0])) ((W.setCell ⟨r, 0, none⟩ (.int .i64 cap)).setCell ⟨r, 1, none⟩ (.slice A l.length c)) := by
  have ho : Ob r l.length A := ob_nw h.nw (Nat.lt_succ_self r)
  refine ⟨A, c, rfl, nw_low h.nw (by have := h.old; omega), ?_, (h.bel.setCell (p := ⟨r, 0, none⟩) (show w.heap.size ≤ r by have := h.old; omega) _).setCell (p := ⟨r, 1, none⟩) (show w.heap.size ≤ r by have := h.old; omega) _⟩
  have := (h.ls.offo (p := ⟨r, 0, none⟩) ho (.int .i64 cap)).offo (p := ⟨r, 1, none⟩) ho (.slice A l.length c)
  simpa using this
end
end Go.Proofs.Ytfkpkmcpepeaeaa
namespace Go.Proofs.Ytfkpkmcpepeaeaa
open Go.RowKit
set_option linter.unusedVariables false

theorem rnew8_any (n : Int) (w : World) : Calls Try.prog 48 #[.int .i64 n] w (N8 w (nw8 n) (nw8E n)) := by
  have HB := Lib.hid (Db8.fresh w 0 none 0 0 56)
  by_cases h1 : n < 1
  · have h := wi_low (hi := 24) h1
    have HE := Lib.hid (show nw8 n = 0 ∧ nw8E n = 1 from ⟨if_neg (by rw [h]; decide), if_neg (by rw [h]; decide)⟩)
    clear h
    go_enter Try.func48, Try.ntmps48
    obtain ⟨b0, b1, bl, f0, f1⟩ := HB.out.all
    go_wp2
    exact bodyPost_ret (v := .tuple #[.agg #[.int .i64 0, .slice none 0 0], .int .i64 1]) (by simp only [results, Try.results48]; go_simp <;> rfl) rfl ⟨by rw [HE.out.1, HE.out.2], (Below.refl _ _).alloc (Nat.le_refl _) _⟩
  · by_cases h2 : 24 < n
    · have h := wi_high (lo := 1) h2
      have HE := Lib.hid (show nw8 n = 0 ∧ nw8E n = 1 from ⟨if_neg (by rw [h]; decide), if_neg (by rw [h]; decide)⟩)
      clear h
      go_enter Try.func48, Try.ntmps48
      obtain ⟨b0, b1, bl, f0, f1⟩ := HB.out.all
      go_wp2
      exact bodyPost_ret (v := .tuple #[.agg #[.int .i64 0, .slice none 0 0], .int .i64 1]) (by simp only [results, Try.results48]; go_simp <;> rfl) rfl ⟨by rw [HE.out.1, HE.out.2], (Below.refl _ _).alloc (Nat.le_refl _) _⟩
    · have h := wi_true (lo := 1) (hi := 24) (n := n) (by omega) (by omega)
      have HE := Lib.hid (show nw8 n = n ∧ nw8E n = 0 from ⟨if_pos h, if_pos h⟩)
      clear h
      go_enter Try.func48, Try.ntmps48
      obtain ⟨b0, b1, bl, f0, f1⟩ := HB.out.all
      go_wp2
      exact bodyPost_ret (v := .tuple #[.agg #[.int .i64 n, .slice none 0 0], .int .i64 0]) (by simp only [results, Try.results48]; go_simp <;> rfl) rfl ⟨by rw [HE.out.1, HE.out.2], (Below.refl _ _).alloc (Nat.le_refl _) _⟩
/-- Two stores that are the same. -/
theorem rsame8_yes (cap : Int) (A A' : Option Addr) (n n' c c' : Nat) (l : List Msg) (w : World) (hv : Ls w w.heap.size (.slice A n c) l) (hv' : Ls w w.heap.size (.slice A' n' c') l) :
    Calls Try.prog 50 #[.agg #[.int .i64 cap, .slice A n c], .agg #[.int .i64 cap, .slice A' n' c']] w fun e w' => e = .returned (.bool true) ∧ Below w.heap.size w w' := by
  obtain ⟨rfl, _, _⟩ := hv.len
  obtain ⟨rfl, _, _⟩ := hv'.len
  have H0 := Lib.hid ((VaAt8.start 56 cap hv).alloc (.cells #[.int .i64 cap, .slice A' l.length c'] 56))
  have h1 := VaAt8.start (w := w.alloc (.cells #[.int .i64 cap, .slice A l.length c] 56)) 56 cap ((hv'.alloc (Nat.le_refl _) (.cells #[.int .i64 cap, .slice A l.length c] 56)).more (by simp))
  rw [show (w.alloc (.cells #[.int .i64 cap, .slice A l.length c] 56)).heap.size = w.heap.size + 1 by simp] at h1
  have H1 := Lib.hid h1
  have HS := Lib.hid (fun W (h : Ls W W.heap.size (.slice A l.length c) l) (h' : Ls W W.heap.size (.slice A' l.length c') l) => rsame_yes A A' l.length l.length c c' l W _ _ h h')
  clear hv hv' h1
  obtain ⟨b0, b1, bl⟩ := H0.out.db.facts
  obtain ⟨d0, d1, dl⟩ := H1.out.db.facts
  go_enter Try.func50, Try.ntmps50
  go_wp2_with fail
  refine (HS.out _ H0.out.here H1.out.here).mono ?_
  rintro e w1 ⟨rfl, hb⟩
  have HF := Lib.hid (H0.out.below hb)
  clear hb b0 b1 bl d0 d1 dl
  go_wp2
  go_ret
  exact ⟨rfl, HF.out.bel⟩
end Go.Proofs.Ytfkpkmcpepeaeaa
namespace Go.Proofs.Ytfkpkmcpepeaeaa
open Go.RowKit
set_option linter.unusedVariables false

theorem eqm_fuel (M : Msg) (f : Nat) (W : World) : (Op.equalIn (f + 2) 131 M.v M.v).run Try.prog W = .ok true W := by
  have u3 := Try.underlying3
  have u9 := Try.underlying9
  have hS : Try.prog.underlying 131 = some (.struct (Try.prog.fieldsOf 131)) := by kernel_rfl
  have hp : Try.prog.stoodInHeld 131 = false := by kernel_rfl
  rw [show f + 2 = (f + 1) + 1 from rfl, run_equalIn_agg W (f + 1) 131 _ _ hS hp]
  simp only [Program.fieldsOf, Try.underlying131]
  go_simp
theorem eql_in (x : Le) (W : World) : (Op.equalIn 10000 150 x.v x.v).run Try.prog W = .ok true W := by
  have u3 := Try.underlying3
  have hS : Try.prog.underlying 150 = some (.struct (Try.prog.fieldsOf 150)) := by kernel_rfl
  have hp : Try.prog.stoodInHeld 150 = false := by kernel_rfl
  have hM := fun W => eqm_fuel x.m 9997 W
  rw [show (10000 : Nat) = 9999 + 1 from rfl, run_equalIn_agg W 9999 150 _ _ hS hp]
  simp only [Program.fieldsOf, Try.underlying150]
  go_simp
theorem eql (x : Le) : ∀ W, (binOp .eql 150 x.v x.v).run Try.prog W = .ok (.bool true) W := fun W => by
  rw [run_eql_struct, eql_in]; rfl
theorem neql (x : Le) : ∀ W, (binOp .neq 150 x.v x.v).run Try.prog W = .ok (.bool false) W := fun W => by
  rw [run_neq_struct, eql_in]; rfl
end Go.Proofs.Ytfkpkmcpepeaeaa
namespace Go.Proofs.Ytfkpkmcpepeaeaa
open Go.RowKit
set_option linter.unusedVariables false

set_option maxHeartbeats 2000000 in
theorem rsame5_yes (A A' : Option Addr) (n n' c c' : Nat) (l : List Du) (w : World) (B B' : Nat) (hv : Dl w B (.slice A n c) l) (hv' : Dl w B' (.slice A' n' c') l) :
    Calls Try.prog 85 #[.slice A n c, .slice A' n' c'] w fun e w' => e = .returned (.bool true) ∧ Below w.heap.size w w' := by
  obtain ⟨rfl, hm1, hm2⟩ := hv.len
  obtain ⟨rfl, hm1', hm2'⟩ := hv'.len
  have hL : l.length ≤ 9223372036854775807 := by unfold maxLen at hm2; omega
  have HV := Lib.hid hv
  have HV' := Lib.hid hv'
  have HB := Lib.hid (Below.refl w.heap.size w)
  clear hv hm1 hm2 hv' hm1' hm2'
  go_enter Try.func85, Try.ntmps85
  go_wp2
  go_loopw [5] (fun i wr => ∃ k : Nat, k ≤ l.length ∧ i = .int .i64 k ∧ Dl wr B (.slice A l.length c) l ∧ Dl wr B' (.slice A' l.length c') l ∧ Below w.heap.size w wr) (fun i _ => l.length - (intOf i).toNat)
  case atStart => exact ⟨0, by omega, rfl, HV.out, HV'.out, HB.out⟩
  case round =>
    obtain ⟨k, hk, rfl, hv, hv', hb⟩ := hrel
    have HV := Lib.hid hv
    have HV' := Lib.hid hv'
    have HB := Lib.hid hb
    clear hv hv' hb
    by_cases hlt : k < l.length
    · obtain ⟨b, o, rfl, hb, c0, c1⟩ := HV.out.atg hlt
      obtain ⟨b', o', rfl, hb', d0, d1⟩ := HV'.out.atg hlt
      generalize ge l k = M at *
      have hne := neqd_no M
      go_wp2
      go_quiet (fail)
      go_wp2
      go_roundw
      case rel => exact ⟨k + 1, by omega, by go_num, HV.out.drewN _, HV'.out.drewN _, bel_drewN HB.out _⟩
      case measure => simp [intOf]; omega
    · go_wp2
      go_ret
      exact ⟨rfl, HB.out⟩

end Go.Proofs.Ytfkpkmcpepeaeaa
