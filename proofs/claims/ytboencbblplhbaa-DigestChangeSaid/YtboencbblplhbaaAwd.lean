/- What is proved here: awake of layer 2's laws returns true. -/
import Derived.Test.YtboencbblplhbaaRto
import Derived.Test.YtboencbblplhbaaSam
namespace Go.Proofs.Ytboencbblplhbaa
open Go.RowKit
set_option linter.unusedVariables false

theorem fnv_97 : fnv [97] = 3826002220 := by decide +kernel
theorem intoF_70 : intoF 70 100 109 = 100 := by decide +kernel

theorem awake2_any (w : World) : Calls Try.prog 12 #[] w fun e w' => e = .returned (.bool true) ∧ Below w.heap.size w w' := by
  have hB : Below w.heap.size w (w.alloc (.cells ([(97 : UInt8)].map oct).toArray 5)) := (Below.refl _ _).alloc (Nat.le_refl _) _
  have h0 := Bs.fresh w [97] 5 (by unfold maxLen; simp)
  have h1 : Bs (w.alloc (.cells ([(97 : UInt8)].map oct).toArray 5)) (w.alloc (.cells ([(97 : UInt8)].map oct).toArray 5)).heap.size (.slice (some ⟨w.heap.size, 0, none⟩) 1 1) [97] := by simpa using h0
  have HC := Lib.hid (sum_any _ _ _ _ _ h1 (by simp))
  rw [fnv_97] at HC
  have HB := Lib.hid hB
  have HI := Lib.hid (fun w => into_any 70 100 109 w)
  rw [intoF_70] at HI
  clear h0 h1 hB
  go_enter Try.func12, Try.ntmps12
  go_wp2_with fail
  refine HC.out.mono ?_
  rintro e w1 ⟨rfl, rfl⟩
  go_wp2_with fail
  refine (HI.out _).mono ?_
  rintro e w2 ⟨rfl, hb⟩
  have HB2 := Lib.hid hb
  clear hb
  go_wp2
  go_ret
  exact ⟨rfl, HB.out.trans (HB2.out.mono HB.out.size)⟩
end Go.Proofs.Ytboencbblplhbaa
