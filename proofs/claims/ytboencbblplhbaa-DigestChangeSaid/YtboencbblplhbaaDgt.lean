/- What is proved here: digest.Route and digest.Into and their references, by one contract each for all arguments. -/
import Derived.Test.YtboencbblplhbaaSum
import Derived.Test.YtboencbblplhbaaRpt
namespace Go.Proofs.Ytboencbblplhbaa
open Go.RowKit
set_option linter.unusedVariables false

theorem check_any (A : Option Addr) (l c : Nat) (bs : List UInt8) (w : World) (hv : Bs w w.heap.size (.slice A l c) bs) (hl : bs.length ≤ 1099511627000) :
    Calls Try.prog 10 #[.slice A l c] w fun e w' => e = .returned (.int .i64 (fnv (90 :: bs))) ∧ Below w.heap.size w w' := by
  obtain ⟨rfl, hlc, hm⟩ := hv.len
  have hB : Below w.heap.size w (w.alloc (.cells ([(90 : UInt8)].map oct).toArray 5)) := (Below.refl _ _).alloc (Nat.le_refl _) _
  have h0 := Bs.fresh w [90] 5 (by unfold maxLen; simp)
  have h1 := (hv.below hB).more hB.size
  have HC := Lib.hid (concat2 (w.heap.size + 1) 2 _ _ [90] bs (w.alloc (.cells ([(90 : UInt8)].map oct).toArray 5)) (by simp) (by simpa using h0) h1 (by simp; omega))
  have HB := Lib.hid hB
  have HL := Lib.hid hl
  clear hv hlc hm hB h0 h1 hl
  go_enter Try.func10, Try.ntmps10
  go_wp2_with fail
  refine HC.out.mono ?_
  rintro e w1 ⟨v1, rfl, ho, hb⟩
  obtain ⟨A1, c1, rfl⟩ := own_form ho
  have HO := Lib.hid (Bs.of_own ho)
  have HB1 := Lib.hid hb
  clear ho hb
  go_wp2_with fail
  refine (sum_any _ _ _ _ _ HO.out (by have := HL.out; simp; omega)).mono ?_
  rintro e w2 ⟨rfl, rfl⟩
  go_wp2
  go_ret
  exact ⟨rfl, HB.out.trans (HB1.out.mono HB.out.size)⟩

theorem rcheck_any (A : Option Addr) (l c : Nat) (bs : List UInt8) (w : World) (hv : Bs w w.heap.size (.slice A l c) bs) (hl : bs.length ≤ 1099511627000) :
    Calls Try.prog 11 #[.slice A l c] w fun e w' => e = .returned (.int .i64 (fnv (90 :: bs))) ∧ Below w.heap.size w w' := by
  obtain ⟨i0, hi0, hz0, hz1, hz2⟩ := info_parts info_u8
  obtain ⟨rfl, hlc, hm⟩ := hv.len
  have hown : (w.alloc (.cells #[.int .u8 90] 5)).ownsRow w.heap.size 5 1 (.slice (some ⟨w.heap.size, 0, none⟩) 1 1) 1 ([(90 : UInt8)].map oct) := World.ownsRow_lit w #[.int .u8 90] 1 (Nat.le_refl _) (by unfold maxLen; omega) rfl
  have HO := Lib.hid hown
  have HR := Lib.hid (hv.alloc (Nat.le_refl _) (.cells #[.int .u8 90] 5)).rd
  have HL := Lib.hid hl
  have HB := Lib.hid ((Below.refl w.heap.size w).alloc (Nat.le_refl _) (.cells #[.int .u8 90] 5))
  clear hv hlc hm hl hown
  go_enter Try.func11, Try.ntmps11
  go_wp2_with (at_builtin; refine wpList_append_rd _ rfl _ _ 22 rfl w.heap.size 5 i0 _ 1 1 Try.underlying22 hi0 hz0 hz1 hz2 rfl (by omega) _ _ _ rfl HO.out w.heap.size A _ _ _ rfl HR.out (oct_one _) (by have := HL.out; unfold maxLen; omega) (by have := HL.out; omega) (by simp) ?_; intro v2 w2 hown2 hg2 _)
  have HO2 := Lib.hid (Bs.of_own (bs := 90 :: bs) (v := v2) (w := w2) (by simpa using hown2))
  have HB2 := Lib.hid (HB.out.grown hg2 (by simp) (fun g hg => (World.ownsRow.lt HO.out g hg).1))
  obtain ⟨A2, c2, rfl⟩ := own_form hown2
  clear hown2 hg2
  go_wp2_with fail
  refine (rsum_any _ _ _ _ _ HO2.out (by have := HL.out; simp; omega)).mono ?_
  rintro e w3 ⟨rfl, rfl⟩
  go_wp2
  go_ret
  exact ⟨rfl, HB2.out⟩

/-- Three numbers are routes. -/
def areB (a b c : Int) : Bool := decide ((0 ≤ a ∧ a ≤ 65535) ∧ (0 ≤ b ∧ b ≤ 65535) ∧ (0 ≤ c ∧ c ≤ 65535))

def nth3 (a b c : Int) : Nat → Int
  | 0 => a
  | 1 => b
  | _ => c

theorem are_any (a b c : Int) (w : World) :
    Calls Try.prog 21 #[.agg #[.int .i64 a, .int .i64 b, .int .i64 c]] w fun e w' => e = .returned (.bool (areB a b c)) ∧ Below w.heap.size w w' := by
  have HB := Lib.hid ((Below.refl w.heap.size w).alloc (Nat.le_refl _) (.cells #[.int .i64 a, .int .i64 b, .int .i64 c] 40))
  have i0 : ∀ W, (Instr.index 40 (.agg #[.int .i64 a, .int .i64 b, .int .i64 c]) (.int .i64 (0 : Nat))).run Try.prog W = .ok (.int .i64 a) W := fun _ => by kernel_rfl
  have i1 : ∀ W, (Instr.index 40 (.agg #[.int .i64 a, .int .i64 b, .int .i64 c]) (.int .i64 (1 : Nat))).run Try.prog W = .ok (.int .i64 b) W := fun _ => by kernel_rfl
  have i2 : ∀ W, (Instr.index 40 (.agg #[.int .i64 a, .int .i64 b, .int .i64 c]) (.int .i64 (2 : Nat))).run Try.prog W = .ok (.int .i64 c) W := fun _ => by kernel_rfl
  have hix : ∀ k : Nat, k < 3 → ∀ W, (Instr.index 40 (.agg #[.int .i64 a, .int .i64 b, .int .i64 c]) (.int .i64 k)).run Try.prog W = .ok (.int .i64 (nth3 a b c k)) W := by
    intro k hk W
    match k, hk with
    | 0, _ => exact i0 W
    | 1, _ => exact i1 W
    | 2, _ => exact i2 W
  have HX := Lib.hid hix
  clear i0 i1 i2 hix
  go_enter Try.func21, Try.ntmps21
  go_wp2
  go_loop [4, 6] (fun _ i => ∃ k : Nat, k ≤ 3 ∧ i = .int .i64 k ∧ ∀ j, j < k → 0 ≤ nth3 a b c j ∧ nth3 a b c j ≤ 65535) (fun _ i => 3 - (intOf i).toNat)
  case atStart => exact ⟨0, by omega, rfl, by omega⟩
  case round =>
    obtain ⟨k, hk, rfl, hall⟩ := hrel
    by_cases hlt : k < 3
    · have hi := HX.out k hlt
      have HN := Lib.hid (show nth3 a b c 0 = a ∧ nth3 a b c 1 = b ∧ nth3 a b c 2 = c from ⟨rfl, rfl, rfl⟩)
      obtain ⟨x, hx⟩ : ∃ x, x = nth3 a b c k := ⟨_, rfl⟩
      rw [← hx] at hi
      have HE := Lib.hid hx
      have HA := Lib.hid hall
      clear hx hall
      by_cases h0 : x < 0
      · have HF := Lib.hid (show areB a b c = false by
          obtain ⟨e0, e1, e2⟩ := HN.out
          have := HE.out
          obtain rfl | rfl | rfl : k = 0 ∨ k = 1 ∨ k = 2 := by omega
          all_goals exact decide_eq_false (by omega))
        go_wp2
        go_ret
        exact ⟨by rw [HF.out]; rfl, HB.out⟩
      · by_cases h1 : 65536 ≤ x
        · have HF := Lib.hid (show areB a b c = false by
            obtain ⟨e0, e1, e2⟩ := HN.out
            have := HE.out
            obtain rfl | rfl | rfl : k = 0 ∨ k = 1 ∨ k = 2 := by omega
            all_goals exact decide_eq_false (by omega))
          go_wp2
          go_ret
          exact ⟨by rw [HF.out]; rfl, HB.out⟩
        · go_wp2
          go_round
          case rel =>
            refine ⟨k + 1, by omega, by go_num, fun j hj => ?_⟩
            rcases Nat.lt_or_ge j k with hjk | hjk
            · exact HA.out j hjk
            · obtain rfl : j = k := by omega
              rw [← HE.out]; omega
          case measure => simp [intOf]; omega
    · obtain rfl : k = 3 := by omega
      have HT := Lib.hid (show areB a b c = true from decide_eq_true ⟨hall 0 (by omega), hall 1 (by omega), hall 2 (by omega)⟩)
      clear hall
      go_wp2
      go_ret
      exact ⟨by rw [HT.out]; rfl, HB.out⟩

/-- What Into returns. -/
def intoF (r l h : Int) : Int := if areB r l h = true ∧ l ≤ h then (if l ≤ r ∧ r ≤ h then r else l + r % (h - l + 1)) else 0

set_option maxHeartbeats 1000000 in
theorem into_any (r l h : Int) (w : World) :
    Calls Try.prog 15 #[.int .i64 r, .int .i64 l, .int .i64 h] w fun e w' => e = .returned (.int .i64 (intoF r l h)) ∧ Below w.heap.size w w' := by
  have HC := Lib.hid (are_any r l h w)
  cases hA : areB r l h with
  | false =>
    have HF := Lib.hid (show intoF r l h = 0 by unfold intoF; rw [hA]; simp)
    rw [hA] at HC
    clear hA
    go_enter Try.func15, Try.ntmps15
    go_wp2_with fail
    refine HC.out.mono ?_
    rintro e w1 ⟨rfl, hb⟩
    have HB := Lib.hid hb
    clear hb
    go_wp2
    go_ret
    exact ⟨by rw [HF.out]; rfl, HB.out⟩
  | true =>
    obtain ⟨⟨r0, r1⟩, ⟨l0, l1⟩, ⟨h0, h1⟩⟩ := of_decide_eq_true hA
    by_cases hlh : h < l
    · have HF := Lib.hid (show intoF r l h = 0 by unfold intoF; rw [if_neg (by omega)])
      rw [hA] at HC
      clear hA
      go_enter Try.func15, Try.ntmps15
      go_wp2_with fail
      refine HC.out.mono ?_
      rintro e w1 ⟨rfl, hb⟩
      have HB := Lib.hid hb
      clear hb
      go_wp2
      go_ret
      exact ⟨by rw [HF.out]; rfl, HB.out⟩
    · by_cases hin : l ≤ r ∧ r ≤ h
      · have HF := Lib.hid (show intoF r l h = r by unfold intoF; rw [if_pos ⟨hA, by omega⟩, if_pos hin])
        rw [hA] at HC
        obtain ⟨g0, g1⟩ := hin
        clear hA
        go_enter Try.func15, Try.ntmps15
        go_wp2_with fail
        refine HC.out.mono ?_
        rintro e w1 ⟨rfl, hb⟩
        have HB := Lib.hid hb
        clear hb
        go_wp2
        go_ret
        exact ⟨by rw [HF.out]; rfl, HB.out⟩
      · have HF := Lib.hid (show intoF r l h = l + r % (h - l + 1) by unfold intoF; rw [if_pos ⟨hA, by omega⟩, if_neg hin])
        rw [hA] at HC
        clear hA
        have hm0 : 0 ≤ r % (h - l + 1) := Int.emod_nonneg _ (by omega)
        have hm1 : r % (h - l + 1) < h - l + 1 := Int.emod_lt_of_pos _ (by omega)
        by_cases hlr : l ≤ r
        · have hrh : ¬ r ≤ h := fun g => hin ⟨hlr, g⟩
          clear hin
          go_enter Try.func15, Try.ntmps15
          go_wp2_with fail
          refine HC.out.mono ?_
          rintro e w1 ⟨rfl, hb⟩
          have HB := Lib.hid hb
          clear hb
          go_wp2
          go_ret
          exact ⟨by rw [HF.out]; rfl, HB.out⟩
        · clear hin
          go_enter Try.func15, Try.ntmps15
          go_wp2_with fail
          refine HC.out.mono ?_
          rintro e w1 ⟨rfl, hb⟩
          have HB := Lib.hid hb
          clear hb
          go_wp2
          go_ret
          exact ⟨by rw [HF.out]; rfl, HB.out⟩
end Go.Proofs.Ytboencbblplhbaa
