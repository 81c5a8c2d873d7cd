/- What is proved here: awake of layer 3's laws returns true. -/
import Derived.Test.YtjiampelmiaflaaEnc
import Derived.Test.YtjiampelmiaflaaMsp
import Derived.Test.YtjiampelmiaflaaSam
namespace Go.Proofs.Ytjiampelmiaflaa
open Go.RowKit
set_option linter.unusedVariables false

theorem awake3_enc : encF ⟨1, 0, 0, 0, 0, 0, ⟨#[97]⟩⟩ = [1, 0, 0, 0, 0, 0, 1, 97] ∧ vf ⟨1, 0, 0, 0, 0, 0, ⟨#[97]⟩⟩ = 0 := by decide +kernel

set_option maxHeartbeats 1000000 in
theorem awake3_any (w : World) : Calls Try.prog 12 #[] w fun e w' => e = .returned (.bool true) ∧ Below w.heap.size w w' := by
  have HC := Lib.hid (encode_any ⟨1, 0, 0, 0, 0, 0, ⟨#[97]⟩⟩ w)
  rw [awake3_enc.1, awake3_enc.2] at HC
  go_enter Try.func12, Try.ntmps12
  go_wp2_with fail
  refine HC.out.mono ?_
  rintro e w1 ⟨v1, rfl, hb1, hw1⟩
  have HB1 := Lib.hid hb1
  have HW1 := Lib.hid hw1
  have h2 := Bs.fresh w1 [1, 0, 0, 0, 0, 0, 1, 97] 5 (by unfold maxLen; simp)
  have HS := Lib.hid (same_any _ _ _ _ _ ((hb1.alloc (Nat.le_refl _) (.cells ([(1 : UInt8), 0, 0, 0, 0, 0, 1, 97].map oct).toArray 5)).more (by simp)) (by simpa using h2))
  have HW2 := Lib.hid (hw1.alloc hw1.size (.cells ([(1 : UInt8), 0, 0, 0, 0, 0, 1, 97].map oct).toArray 5))
  clear hb1 hw1 h2
  go_wp2_with fail
  refine HS.out.mono ?_
  rintro e w3 ⟨rfl, rfl⟩
  go_wp2_with fail
  refine (spent_any ⟨0, 0, 0, 2, 0, 0, ByteArray.empty⟩ 2 _).mono ?_
  rintro e w4 ⟨rfl, hb⟩
  have HW4 := Lib.hid (HW2.out.trans (hb.mono HW2.out.size))
  clear hb
  go_wp2
  go_ret
  exact ⟨rfl, HW4.out⟩
end Go.Proofs.Ytjiampelmiaflaa
