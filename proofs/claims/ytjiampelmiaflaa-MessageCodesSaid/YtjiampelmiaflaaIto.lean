/- What is proved here: digest.Into, by one contract for all arguments. -/
import Derived.Test.YtjiampelmiaflaaBas
import Derived.Test.YtjiampelmiaflaaRtd
namespace Go.Proofs.Ytjiampelmiaflaa
open Go.RowKit
set_option linter.unusedVariables false

theorem are_any (a b c : Int) (w : World) :
    Calls Try.prog 57 #[.agg #[.int .i64 a, .int .i64 b, .int .i64 c]] w fun e w' => e = .returned (.bool (areB a b c)) ∧ Below w.heap.size w w' := by
  have HB := Lib.hid ((Below.refl w.heap.size w).alloc (Nat.le_refl _) (.cells #[.int .i64 a, .int .i64 b, .int .i64 c] 75))
  have i0 : ∀ W, (Instr.index 75 (.agg #[.int .i64 a, .int .i64 b, .int .i64 c]) (.int .i64 (0 : Nat))).run Try.prog W = .ok (.int .i64 a) W := fun _ => by kernel_rfl
  have i1 : ∀ W, (Instr.index 75 (.agg #[.int .i64 a, .int .i64 b, .int .i64 c]) (.int .i64 (1 : Nat))).run Try.prog W = .ok (.int .i64 b) W := fun _ => by kernel_rfl
  have i2 : ∀ W, (Instr.index 75 (.agg #[.int .i64 a, .int .i64 b, .int .i64 c]) (.int .i64 (2 : Nat))).run Try.prog W = .ok (.int .i64 c) W := fun _ => by kernel_rfl
  have hix : ∀ k : Nat, k < 3 → ∀ W, (Instr.index 75 (.agg #[.int .i64 a, .int .i64 b, .int .i64 c]) (.int .i64 k)).run Try.prog W = .ok (.int .i64 (nth3 a b c k)) W := by
    intro k hk W
    match k, hk with
    | 0, _ => exact i0 W
    | 1, _ => exact i1 W
    | 2, _ => exact i2 W
  have HX := Lib.hid hix
  clear i0 i1 i2 hix
  go_enter Try.func57, Try.ntmps57
  go_wp2
  go_loop [4, 6] (fun _ i => ∃ k : Nat, k ≤ 3 ∧ i = .int .i64 k ∧ ∀ j, j < k → 0 ≤ nth3 a b c j ∧ nth3 a b c j ≤ 65535) (fun _ i => 3 - (intOf i).toNat)
  case atStart => exact ⟨0, by omega, rfl, by omega⟩
  case round =>
    obtain ⟨k, hk, rfl, hall⟩ := hrel
    by_cases hlt : k < 3
    · have hi := HX.out k hlt
      have HN := Lib.hid (show nth3 a b c 0 = a ∧ nth3 a b c 1 = b ∧ nth3 a b c 2 = c from ⟨rfl, rfl, rfl⟩)
      obtain ⟨x, hx⟩ : ∃ x, x = nth3 a b c k := ⟨_, rfl⟩
      rw [← hx] at hi
      have HE := Lib.hid hx
      have HA := Lib.hid hall
      clear hx hall
      by_cases h0 : x < 0
      · have HF := Lib.hid (show areB a b c = false by
          obtain ⟨e0, e1, e2⟩ := HN.out
          have := HE.out
          obtain rfl | rfl | rfl : k = 0 ∨ k = 1 ∨ k = 2 := by omega
          all_goals exact decide_eq_false (by omega))
        go_wp2
        go_ret
        exact ⟨by rw [HF.out]; rfl, HB.out⟩
      · by_cases h1 : 65536 ≤ x
        · have HF := Lib.hid (show areB a b c = false by
            obtain ⟨e0, e1, e2⟩ := HN.out
            have := HE.out
            obtain rfl | rfl | rfl : k = 0 ∨ k = 1 ∨ k = 2 := by omega
            all_goals exact decide_eq_false (by omega))
          go_wp2
          go_ret
          exact ⟨by rw [HF.out]; rfl, HB.out⟩
        · go_wp2
          go_round
          case rel =>
            refine ⟨k + 1, by omega, by go_num, fun j hj => ?_⟩
            rcases Nat.lt_or_ge j k with hjk | hjk
            · exact HA.out j hjk
            · obtain rfl : j = k := by omega
              rw [← HE.out]; omega
          case measure => simp [intOf]; omega
    · obtain rfl : k = 3 := by omega
      have HT := Lib.hid (show areB a b c = true from decide_eq_true ⟨hall 0 (by omega), hall 1 (by omega), hall 2 (by omega)⟩)
      clear hall
      go_wp2
      go_ret
      exact ⟨by rw [HT.out]; rfl, HB.out⟩

set_option maxHeartbeats 1000000 in
theorem into_any (r l h : Int) (w : World) :
    Calls Try.prog 42 #[.int .i64 r, .int .i64 l, .int .i64 h] w fun e w' => e = .returned (.int .i64 (intoF r l h)) ∧ Below w.heap.size w w' := by
  have HC := Lib.hid (are_any r l h w)
  cases hA : areB r l h with
  | false =>
    have HF := Lib.hid (show intoF r l h = 0 by unfold intoF; rw [hA]; simp)
    rw [hA] at HC
    clear hA
    go_enter Try.func42, Try.ntmps42
    go_wp2_with fail
    refine HC.out.mono ?_
    rintro e w1 ⟨rfl, hb⟩
    have HB := Lib.hid hb
    clear hb
    go_wp2
    go_ret
    exact ⟨by rw [HF.out]; rfl, HB.out⟩
  | true =>
    obtain ⟨⟨r0, r1⟩, ⟨l0, l1⟩, ⟨h0, h1⟩⟩ := of_decide_eq_true hA
    by_cases hlh : h < l
    · have HF := Lib.hid (show intoF r l h = 0 by unfold intoF; rw [if_neg (by omega)])
      rw [hA] at HC
      clear hA
      go_enter Try.func42, Try.ntmps42
      go_wp2_with fail
      refine HC.out.mono ?_
      rintro e w1 ⟨rfl, hb⟩
      have HB := Lib.hid hb
      clear hb
      go_wp2
      go_ret
      exact ⟨by rw [HF.out]; rfl, HB.out⟩
    · by_cases hin : l ≤ r ∧ r ≤ h
      · have HF := Lib.hid (show intoF r l h = r by unfold intoF; rw [if_pos ⟨hA, by omega⟩, if_pos hin])
        rw [hA] at HC
        obtain ⟨g0, g1⟩ := hin
        clear hA
        go_enter Try.func42, Try.ntmps42
        go_wp2_with fail
        refine HC.out.mono ?_
        rintro e w1 ⟨rfl, hb⟩
        have HB := Lib.hid hb
        clear hb
        go_wp2
        go_ret
        exact ⟨by rw [HF.out]; rfl, HB.out⟩
      · have HF := Lib.hid (show intoF r l h = l + r % (h - l + 1) by unfold intoF; rw [if_pos ⟨hA, by omega⟩, if_neg hin])
        rw [hA] at HC
        clear hA
        have hm0 : 0 ≤ r % (h - l + 1) := Int.emod_nonneg _ (by omega)
        have hm1 : r % (h - l + 1) < h - l + 1 := Int.emod_lt_of_pos _ (by omega)
        by_cases hlr : l ≤ r
        · have hrh : ¬ r ≤ h := fun g => hin ⟨hlr, g⟩
          clear hin
          go_enter Try.func42, Try.ntmps42
          go_wp2_with fail
          refine HC.out.mono ?_
          rintro e w1 ⟨rfl, hb⟩
          have HB := Lib.hid hb
          clear hb
          go_wp2
          go_ret
          exact ⟨by rw [HF.out]; rfl, HB.out⟩
        · clear hin
          go_enter Try.func42, Try.ntmps42
          go_wp2_with fail
          refine HC.out.mono ?_
          rintro e w1 ⟨rfl, hb⟩
          have HB := Lib.hid hb
          clear hb
          go_wp2
          go_ret
          exact ⟨by rw [HF.out]; rfl, HB.out⟩
end Go.Proofs.Ytjiampelmiaflaa
