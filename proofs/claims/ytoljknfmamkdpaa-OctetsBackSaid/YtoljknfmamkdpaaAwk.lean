/- What is proved here: the small helpers of layer 1's laws: awake returns true, Same tells whether two byte slices hold the same bytes, isSize and isLength test a range. -/
import Derived.Test.YtoljknfmamkdpaaRpv
namespace Go.Proofs.Ytoljknfmamkdpaa
open Go.RowKit
set_option linter.unusedVariables false

set_option maxHeartbeats 1000000 in
theorem awake_any (w : World) : Calls Try.prog 14 #[] w fun e w' => e = .returned (.bool true) ∧ Below w.heap.size w w' := by
  have HC := Lib.hid (putvar_ok none 0 0 [] 300 w Bs.nil (by simp) (by omega))
  go_enter Try.func14, Try.ntmps14
  go_wp2_with fail
  refine HC.out.mono ?_
  rintro e w1 ⟨v1, rfl, hown, hb⟩
  have hg : [] ++ groups 5 300 = [172, 2] := by decide
  rw [hg] at hown
  obtain ⟨A1, c1, rfl⟩ := own_form hown
  have hbs := Bs.of_own hown
  obtain ⟨b, o, rfl, hlt, _, h0⟩ := hbs.at_ (k := 0) (by simp)
  obtain ⟨b', o', he, _, _, h1⟩ := hbs.at_ (k := 1) (by simp)
  injection he with he
  injection he with e1 e2
  subst e1; subst e2
  simp at h0 h1
  have HB := Lib.hid hb
  clear hown hbs hg hb
  go_wp2
  go_ret
  exact ⟨rfl, HB.out⟩

theorem same_any (v0 v1 : Value) (b0 b1 : List UInt8) (w : World) (h0 : Bs w w.heap.size v0 b0) (h1 : Bs w w.heap.size v1 b1) :
    Calls Try.prog 13 #[v0, v1] w fun e w' => e = .returned (.bool (b0 == b1)) ∧ w = w' := by
  have c0 := run_convert_bs (P := Try.prog) w 22 5 9 Try.underlying22 Try.underlying5 Try.underlying9 h0
  have c1 := run_convert_bs (P := Try.prog) w 22 5 9 Try.underlying22 Try.underlying5 Try.underlying9 h1
  clear h0 h1
  go_enter Try.func13, Try.ntmps13
  go_wp2
  go_ret
  exact ⟨rfl, rfl⟩

theorem issize_yes (n : Int) (w : World) (h1 : 1 ≤ n) (h2 : n ≤ 6) : Calls Try.prog 23 #[.int .i64 n] w fun e w' => e = .returned (.bool true) ∧ w = w' := by
  go_enter Try.func23, Try.ntmps23
  go_wp2
  go_ret
  exact ⟨rfl, rfl⟩

theorem issize_no (n : Int) (w : World) (h : n < 1 ∨ 6 < n) : Calls Try.prog 23 #[.int .i64 n] w fun e w' => e = .returned (.bool false) ∧ w = w' := by
  by_cases h1 : 1 ≤ n
  · have h2 : ¬ n ≤ 6 := by omega
    clear h
    go_enter Try.func23, Try.ntmps23
    go_wp2
    go_ret
    exact ⟨rfl, rfl⟩
  · clear h
    go_enter Try.func23, Try.ntmps23
    go_wp2
    go_ret
    exact ⟨rfl, rfl⟩

theorem islength_yes (n : Int) (w : World) (h1 : 0 ≤ n) (h2 : n ≤ 255) : Calls Try.prog 25 #[.int .i64 n] w fun e w' => e = .returned (.bool true) ∧ w = w' := by
  go_enter Try.func25, Try.ntmps25
  go_wp2
  go_ret
  exact ⟨rfl, rfl⟩

theorem islength_no (n : Int) (w : World) (h : n < 0 ∨ 255 < n) : Calls Try.prog 25 #[.int .i64 n] w fun e w' => e = .returned (.bool false) ∧ w = w' := by
  by_cases h1 : 0 ≤ n
  · have h2 : ¬ n ≤ 255 := by omega
    clear h
    go_enter Try.func25, Try.ntmps25
    go_wp2
    go_ret
    exact ⟨rfl, rfl⟩
  · clear h
    go_enter Try.func25, Try.ntmps25
    go_wp2
    go_ret
    exact ⟨rfl, rfl⟩
end Go.Proofs.Ytoljknfmamkdpaa
