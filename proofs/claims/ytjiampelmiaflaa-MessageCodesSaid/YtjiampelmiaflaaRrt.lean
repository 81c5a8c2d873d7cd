/- What is proved here: shardqueueref02.Route, by one contract for all arguments. -/
import Derived.Test.YtjiampelmiaflaaRsm
import Derived.Test.YtjiampelmiaflaaRpt
import Derived.Test.YtjiampelmiaflaaRtd
namespace Go.Proofs.Ytjiampelmiaflaa
open Go.RowKit
set_option linter.unusedVariables false

theorem rroute_no (id : Int) (w : World) (hb : id < 0 ∨ 1073741824 < id) :
    Calls Try.prog 41 #[.int .i64 id] w fun e w' => e = .returned (.int .i64 0) ∧ Below w.heap.size w w' := by
  by_cases b0 : id < 0
  · clear hb
    go_enter Try.func41, Try.ntmps41
    go_wp2
    go_ret
    exact ⟨rfl, Below.refl _ _⟩
  have b1 : 1073741824 < id := by omega
  clear hb
  go_enter Try.func41, Try.ntmps41
  go_wp2
  go_ret
  exact ⟨rfl, Below.refl _ _⟩

theorem rroute_yes (id : Int) (w : World) (h0 : 0 ≤ id) (h1 : id ≤ 1073741824) :
    Calls Try.prog 41 #[.int .i64 id] w fun e w' => e = .returned (.int .i64 (rtx (fnv (be 4 id.toNat)))) ∧ Below w.heap.size w w' := by
  have HC := Lib.hid (rput_all none 0 0 [] id 4 w Bs.nil (by simp))
  have HP := Lib.hid (pt4 id h0 h1)
  have HL := Lib.hid (be_length 4 id.toNat)
  go_enter Try.func41, Try.ntmps41
  go_wp2_with fail
  refine HC.out.mono ?_
  rintro e w1 ⟨v1, rfl, hv, hb⟩
  obtain ⟨e0, e1⟩ := HP.out
  rw [e1] at hv
  rw [e0]
  obtain ⟨A1, c1, rfl, _, _, _⟩ := (show _ from hv)
  have HV := Lib.hid hv
  have HB := Lib.hid hb
  clear hv hb e0 e1
  go_wp2_with fail
  refine (rsum_any _ _ _ _ _ HV.out (by rw [HL.out]; omega)).mono ?_
  rintro e w2 ⟨rfl, rfl⟩
  obtain ⟨h, hh⟩ : ∃ h, h = fnv (be 4 id.toNat) := ⟨_, rfl⟩
  have h32 : h < 4294967296 := by rw [hh]; exact fnv_lt _
  rw [← hh]
  have hx := rtx_bits h h32
  have ha := and_ffff (h : Int)
  have h32' : (h : Int) ≤ 4294967295 := by omega
  have HH := Lib.hid hh
  clear hh h32
  go_wp2
  go_ret
  exact ⟨by rw [← HH.out]; rfl, HB.out⟩

theorem rroute_any (id : Int) (w : World) : Calls Try.prog 41 #[.int .i64 id] w fun e w' => e = .returned (.int .i64 (rtF id)) ∧ Below w.heap.size w w' := by
  by_cases h : 0 ≤ id ∧ id ≤ 1073741824
  · rw [show rtF id = (rtx (fnv (be 4 id.toNat)) : Int) from if_pos h]; exact rroute_yes id w h.1 h.2
  · rw [show rtF id = 0 from if_neg h]; exact rroute_no id w (by omega)
end Go.Proofs.Ytjiampelmiaflaa
