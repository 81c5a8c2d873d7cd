/- What is proved here: shardqueueref02.Into, by one contract for all arguments. -/
import Derived.Test.YtjiampelmiaflaaBas
import Derived.Test.YtjiampelmiaflaaRtd
namespace Go.Proofs.Ytjiampelmiaflaa
open Go.RowKit
set_option linter.unusedVariables false

theorem rinto_out (r l h : Int) (w : World) (hb : r < 0 ∨ 65535 < r ∨ l < 0 ∨ 65535 < h ∨ h < l) :
    Calls Try.prog 40 #[.int .i64 r, .int .i64 l, .int .i64 h] w fun e w' => e = .returned (.int .i64 0) ∧ w = w' := by
  by_cases b0 : r < 0
  · clear hb
    go_enter Try.func40, Try.ntmps40
    go_wp2
    go_ret
    exact ⟨rfl, rfl⟩
  by_cases b1 : 65535 < r
  · clear hb
    go_enter Try.func40, Try.ntmps40
    go_wp2
    go_ret
    exact ⟨rfl, rfl⟩
  by_cases b2 : l < 0
  · clear hb
    go_enter Try.func40, Try.ntmps40
    go_wp2
    go_ret
    exact ⟨rfl, rfl⟩
  by_cases b3 : 65535 < h
  · clear hb
    go_enter Try.func40, Try.ntmps40
    go_wp2
    go_ret
    exact ⟨rfl, rfl⟩
  have b4 : h < l := by omega
  clear hb
  go_enter Try.func40, Try.ntmps40
  go_wp2
  go_ret
  exact ⟨rfl, rfl⟩

set_option maxHeartbeats 1000000 in
theorem rinto_any (r l h : Int) (w : World) :
    Calls Try.prog 40 #[.int .i64 r, .int .i64 l, .int .i64 h] w fun e w' => e = .returned (.int .i64 (intoF r l h)) ∧ w = w' := by
  by_cases hb : r < 0 ∨ 65535 < r ∨ l < 0 ∨ 65535 < h ∨ h < l
  · rw [intoF_out r l h hb]; exact rinto_out r l h w hb
  · have r0 : 0 ≤ r := by omega
    have r1 : r ≤ 65535 := by omega
    have l0 : 0 ≤ l := by omega
    have h1 : h ≤ 65535 := by omega
    have lh : l ≤ h := by omega
    have hA : areB r l h = true := decide_eq_true ⟨⟨r0, r1⟩, ⟨l0, by omega⟩, ⟨by omega, h1⟩⟩
    clear hb
    by_cases hin : l ≤ r ∧ r ≤ h
    · have HF := Lib.hid (show intoF r l h = r by unfold intoF; rw [if_pos ⟨hA, by omega⟩, if_pos hin])
      obtain ⟨g0, g1⟩ := hin
      clear hA
      go_enter Try.func40, Try.ntmps40
      go_wp2
      go_ret
      exact ⟨by rw [HF.out]; rfl, rfl⟩
    · have HF := Lib.hid (show intoF r l h = l + r % (h - l + 1) by unfold intoF; rw [if_pos ⟨hA, by omega⟩, if_neg hin])
      clear hA
      have hm0 : 0 ≤ r % (h - l + 1) := Int.emod_nonneg _ (by omega)
      have hm1 : r % (h - l + 1) < h - l + 1 := Int.emod_lt_of_pos _ (by omega)
      by_cases hlr : l ≤ r
      · have hrh : ¬ r ≤ h := fun g => hin ⟨hlr, g⟩
        clear hin
        go_enter Try.func40, Try.ntmps40
        go_wp2
        go_ret
        exact ⟨by rw [HF.out]; rfl, rfl⟩
      · clear hin
        go_enter Try.func40, Try.ntmps40
        go_wp2
        go_ret
        exact ⟨by rw [HF.out]; rfl, rfl⟩
end Go.Proofs.Ytjiampelmiaflaa
