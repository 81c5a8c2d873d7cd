/- What is proved here: message.Validate and its reference return the first error of a message, both by one plain function; the same for checked, New. -/
import Derived.Test.YtjiampelmiaflaaBas
import Derived.Lib.Hide
namespace Go.Proofs.Ytjiampelmiaflaa
open Go.RowKit
set_option linter.unusedVariables false

/-- A message: the numbers and the body. -/
structure Msg where
  id : Int
  rt : Int
  ep : Int
  ct : Int
  gn : Int
  st : Int
  bd : ByteArray

/-- The message as a value. -/
abbrev Msg.v (M : Msg) : Value := .agg #[.int .i64 M.id, .int .i64 M.rt, .int .i64 M.ep, .int .i64 M.ct, .int .i64 M.gn, .int .i64 M.st, .string M.bd]
abbrev Msg.cs (M : Msg) : Array Value := #[.int .i64 M.id, .int .i64 M.rt, .int .i64 M.ep, .int .i64 M.ct, .int .i64 M.gn, .int .i64 M.st, .string M.bd]

/-- A number is from lo to hi. -/
def wi (n lo hi : Int) : Bool := decide (lo ≤ n ∧ n ≤ hi)
theorem wi_true {n lo hi : Int} (h1 : lo ≤ n) (h2 : n ≤ hi) : wi n lo hi = true := decide_eq_true ⟨h1, h2⟩
theorem wi_low {n lo hi : Int} (h1 : n < lo) : wi n lo hi = false := decide_eq_false (by omega)
theorem wi_high {n lo hi : Int} (h1 : hi < n) : wi n lo hi = false := decide_eq_false (by omega)
theorem wi_of {n lo hi : Int} (h : wi n lo hi = true) : lo ≤ n ∧ n ≤ hi := of_decide_eq_true h

theorem within_any (n lo hi : Int) (w : World) : Calls Try.prog 54 #[.int .i64 n, .int .i64 lo, .int .i64 hi] w fun e w' => e = .returned (.bool (wi n lo hi)) ∧ w = w' := by
  by_cases h1 : lo ≤ n
  · by_cases h2 : n ≤ hi
    · have H := Lib.hid (wi_true h1 h2)
      go_enter Try.func54, Try.ntmps54
      go_wp2
      go_ret
      exact ⟨by rw [H.out]; rfl, rfl⟩
    · have H := Lib.hid (wi_high (lo := lo) (show hi < n by omega))
      go_enter Try.func54, Try.ntmps54
      go_wp2
      go_ret
      exact ⟨by rw [H.out]; rfl, rfl⟩
  · have H := Lib.hid (wi_low (hi := hi) (show n < lo by omega))
    go_enter Try.func54, Try.ntmps54
    go_wp2
    go_ret
    exact ⟨by rw [H.out]; rfl, rfl⟩

/-- The numbers of a message are in their ranges. -/
def hv (M : Msg) : Bool := wi M.id 1 1073741824 && (wi M.rt 0 65535 && (wi M.ep 0 65536 && (wi M.ct 0 8 && (wi M.gn M.ct 65536 && wi M.st 0 1073741824))))

set_option maxHeartbeats 2000000 in
theorem hasnums_any (M : Msg) (w : World) : Calls Try.prog 36 #[M.v] w fun e w' => e = .returned (.bool (hv M)) ∧ Below w.heap.size w w' := by
  obtain ⟨i, r, p, c, g, s, b⟩ := M
  have HB := Lib.hid ((Below.refl w.heap.size w).alloc (Nat.le_refl _) (.cells #[.int .i64 i, .int .i64 r, .int .i64 p, .int .i64 c, .int .i64 g, .int .i64 s, .string b] 23))
  have hcs : ∀ (x lo hi : Int) (k : Bool), wi x lo hi = k → Hid (∀ w, Calls Try.prog 54 #[.int .i64 x, .int .i64 lo, .int .i64 hi] w fun e w' => e = .returned (.bool k) ∧ w = w') := fun x lo hi k h => Lib.hid (fun w => by rw [← h]; exact within_any x lo hi w)
  show Calls _ _ #[.agg #[.int .i64 i, .int .i64 r, .int .i64 p, .int .i64 c, .int .i64 g, .int .i64 s, .string b]] _ _
  have hf : ∀ k, hv ⟨i, r, p, c, g, s, b⟩ = k → ∀ e : Ending, e = .returned (.bool k) → e = .returned (.bool (hv ⟨i, r, p, c, g, s, b⟩)) := fun k h e he => by rw [h]; exact he
  cases h0 : wi i 1 1073741824 with
  | false =>
    have H0 := hcs _ _ _ _ h0
    have HF := Lib.hid (hf false (by simp [hv, h0]))
    clear hcs hf h0
    go_enter Try.func36, Try.ntmps36
    go_wp2_with fail
    refine (H0.out _).mono ?_
    rintro e w1 ⟨rfl, rfl⟩
    go_wp2
    go_ret
    exact ⟨HF.out _ rfl, HB.out⟩
  | true =>
    have H0 := hcs _ _ _ _ h0
    cases h1 : wi r 0 65535 with
    | false =>
      have H1 := hcs _ _ _ _ h1
      have HF := Lib.hid (hf false (by simp [hv, h0, h1]))
      clear hcs hf h0 h1
      go_enter Try.func36, Try.ntmps36
      go_wp2_with fail
      refine (H0.out _).mono ?_
      rintro e w1 ⟨rfl, rfl⟩
      go_wp2_with fail
      refine (H1.out _).mono ?_
      rintro e w1 ⟨rfl, rfl⟩
      go_wp2
      go_ret
      exact ⟨HF.out _ rfl, HB.out⟩
    | true =>
      have H1 := hcs _ _ _ _ h1
      cases h2 : wi p 0 65536 with
      | false =>
        have H2 := hcs _ _ _ _ h2
        have HF := Lib.hid (hf false (by simp [hv, h0, h1, h2]))
        clear hcs hf h0 h1 h2
        go_enter Try.func36, Try.ntmps36
        go_wp2_with fail
        refine (H0.out _).mono ?_
        rintro e w1 ⟨rfl, rfl⟩
        go_wp2_with fail
        refine (H1.out _).mono ?_
        rintro e w1 ⟨rfl, rfl⟩
        go_wp2_with fail
        refine (H2.out _).mono ?_
        rintro e w1 ⟨rfl, rfl⟩
        go_wp2
        go_ret
        exact ⟨HF.out _ rfl, HB.out⟩
      | true =>
        have H2 := hcs _ _ _ _ h2
        cases h3 : wi c 0 8 with
        | false =>
          have H3 := hcs _ _ _ _ h3
          have HF := Lib.hid (hf false (by simp [hv, h0, h1, h2, h3]))
          clear hcs hf h0 h1 h2 h3
          go_enter Try.func36, Try.ntmps36
          go_wp2_with fail
          refine (H0.out _).mono ?_
          rintro e w1 ⟨rfl, rfl⟩
          go_wp2_with fail
          refine (H1.out _).mono ?_
          rintro e w1 ⟨rfl, rfl⟩
          go_wp2_with fail
          refine (H2.out _).mono ?_
          rintro e w1 ⟨rfl, rfl⟩
          go_wp2_with fail
          refine (H3.out _).mono ?_
          rintro e w1 ⟨rfl, rfl⟩
          go_wp2
          go_ret
          exact ⟨HF.out _ rfl, HB.out⟩
        | true =>
          have H3 := hcs _ _ _ _ h3
          cases h4 : wi g c 65536 with
          | false =>
            have H4 := hcs _ _ _ _ h4
            have HF := Lib.hid (hf false (by simp [hv, h0, h1, h2, h3, h4]))
            clear hcs hf h0 h1 h2 h3 h4
            go_enter Try.func36, Try.ntmps36
            go_wp2_with fail
            refine (H0.out _).mono ?_
            rintro e w1 ⟨rfl, rfl⟩
            go_wp2_with fail
            refine (H1.out _).mono ?_
            rintro e w1 ⟨rfl, rfl⟩
            go_wp2_with fail
            refine (H2.out _).mono ?_
            rintro e w1 ⟨rfl, rfl⟩
            go_wp2_with fail
            refine (H3.out _).mono ?_
            rintro e w1 ⟨rfl, rfl⟩
            go_wp2_with fail
            refine (H4.out _).mono ?_
            rintro e w1 ⟨rfl, rfl⟩
            go_wp2
            go_ret
            exact ⟨HF.out _ rfl, HB.out⟩
          | true =>
            have H4 := hcs _ _ _ _ h4
            cases h5 : wi s 0 1073741824 with
            | false =>
              have H5 := hcs _ _ _ _ h5
              have HF := Lib.hid (hf false (by simp [hv, h0, h1, h2, h3, h4, h5]))
              clear hcs hf h0 h1 h2 h3 h4 h5
              go_enter Try.func36, Try.ntmps36
              go_wp2_with fail
              refine (H0.out _).mono ?_
              rintro e w1 ⟨rfl, rfl⟩
              go_wp2_with fail
              refine (H1.out _).mono ?_
              rintro e w1 ⟨rfl, rfl⟩
              go_wp2_with fail
              refine (H2.out _).mono ?_
              rintro e w1 ⟨rfl, rfl⟩
              go_wp2_with fail
              refine (H3.out _).mono ?_
              rintro e w1 ⟨rfl, rfl⟩
              go_wp2_with fail
              refine (H4.out _).mono ?_
              rintro e w1 ⟨rfl, rfl⟩
              go_wp2_with fail
              refine (H5.out _).mono ?_
              rintro e w1 ⟨rfl, rfl⟩
              go_wp2
              go_ret
              exact ⟨HF.out _ rfl, HB.out⟩
            | true =>
              have H5 := hcs _ _ _ _ h5
              have HF := Lib.hid (hf true (by simp [hv, h0, h1, h2, h3, h4, h5]))
              clear hcs hf h0 h1 h2 h3 h4 h5
              go_enter Try.func36, Try.ntmps36
              go_wp2_with fail
              refine (H0.out _).mono ?_
              rintro e w1 ⟨rfl, rfl⟩
              go_wp2_with fail
              refine (H1.out _).mono ?_
              rintro e w1 ⟨rfl, rfl⟩
              go_wp2_with fail
              refine (H2.out _).mono ?_
              rintro e w1 ⟨rfl, rfl⟩
              go_wp2_with fail
              refine (H3.out _).mono ?_
              rintro e w1 ⟨rfl, rfl⟩
              go_wp2_with fail
              refine (H4.out _).mono ?_
              rintro e w1 ⟨rfl, rfl⟩
              go_wp2_with fail
              refine (H5.out _).mono ?_
              rintro e w1 ⟨rfl, rfl⟩
              go_wp2
              go_ret
              exact ⟨HF.out _ rfl, HB.out⟩

/-- The first error of a message. -/
def vf (M : Msg) : Int := if hv M = true then (if (16 : Int) < (M.bd.size : Int) then 2 else 0) else 1

theorem validate_any (M : Msg) (w : World) : Calls Try.prog 10 #[M.v] w fun e w' => e = .returned (.int .i64 (vf M)) ∧ Below w.heap.size w w' := by
  have HC := Lib.hid (fun w => hasnums_any M w)
  have HB := Lib.hid ((Below.refl w.heap.size w).alloc (Nat.le_refl _) (.cells M.cs 23))
  have hf : ∀ k, vf M = k → ∀ e : Ending, e = .returned (.int .i64 k) → e = .returned (.int .i64 (vf M)) := fun k h e he => by rw [h]; exact he
  cases h : hv M with
  | false =>
    rw [h] at HC
    have HF := Lib.hid (hf 1 (by simp [vf, h]))
    clear h hf
    go_enter Try.func10, Try.ntmps10
    go_wp2_with fail
    refine (HC.out _).mono ?_
    rintro e w1 ⟨rfl, hb⟩
    have HB1 := Lib.hid (HB.out.trans (hb.mono HB.out.size))
    clear hb
    go_wp2
    go_ret
    exact ⟨HF.out _ rfl, HB1.out⟩
  | true =>
    rw [h] at HC
    by_cases h6 : (16 : Int) < (M.bd.size : Int)
    · have HF := Lib.hid (hf 2 (by simp [vf, h]; omega))
      clear h hf
      go_enter Try.func10, Try.ntmps10
      go_wp2_with fail
      refine (HC.out _).mono ?_
      rintro e w1 ⟨rfl, hb⟩
      have hc := hb.cell (p := ⟨w.heap.size, 6, none⟩) (by simp)
      have HB1 := Lib.hid (HB.out.trans (hb.mono HB.out.size))
      clear hb
      go_wp2
      go_ret
      exact ⟨HF.out _ rfl, HB1.out⟩
    · have HF := Lib.hid (hf 0 (by simp [vf, h]; omega))
      clear h hf
      go_enter Try.func10, Try.ntmps10
      go_wp2_with fail
      refine (HC.out _).mono ?_
      rintro e w1 ⟨rfl, hb⟩
      have hc := hb.cell (p := ⟨w.heap.size, 6, none⟩) (by simp)
      have HB1 := Lib.hid (HB.out.trans (hb.mono HB.out.size))
      clear hb
      go_wp2
      go_ret
      exact ⟨HF.out _ rfl, HB1.out⟩

theorem rin_any (n lo hi : Int) (w : World) : Calls Try.prog 37 #[.int .i64 n, .int .i64 lo, .int .i64 hi] w fun e w' => e = .returned (.bool (wi n lo hi)) ∧ w = w' := by
  by_cases h1 : lo ≤ n
  · by_cases h2 : n ≤ hi
    · have H := Lib.hid (wi_true h1 h2)
      go_enter Try.func37, Try.ntmps37
      go_wp2
      go_ret
      exact ⟨by rw [H.out]; rfl, rfl⟩
    · have H := Lib.hid (wi_high (lo := lo) (show hi < n by omega))
      go_enter Try.func37, Try.ntmps37
      go_wp2
      go_ret
      exact ⟨by rw [H.out]; rfl, rfl⟩
  · have H := Lib.hid (wi_low (hi := hi) (show n < lo by omega))
    go_enter Try.func37, Try.ntmps37
    go_wp2
    go_ret
    exact ⟨by rw [H.out]; rfl, rfl⟩

set_option maxHeartbeats 2000000 in
theorem rvalidate_any (M : Msg) (w : World) : Calls Try.prog 11 #[M.v] w fun e w' => e = .returned (.int .i64 (vf M)) ∧ Below w.heap.size w w' := by
  obtain ⟨i, r, p, c, g, s, b⟩ := M
  have HB := Lib.hid ((Below.refl w.heap.size w).alloc (Nat.le_refl _) (.cells #[.int .i64 i, .int .i64 r, .int .i64 p, .int .i64 c, .int .i64 g, .int .i64 s, .string b] 23))
  have hcs : ∀ (x lo hi : Int) (k : Bool), wi x lo hi = k → Hid (∀ w, Calls Try.prog 37 #[.int .i64 x, .int .i64 lo, .int .i64 hi] w fun e w' => e = .returned (.bool k) ∧ w = w') := fun x lo hi k h => Lib.hid (fun w => by rw [← h]; exact rin_any x lo hi w)
  show Calls _ _ #[.agg #[.int .i64 i, .int .i64 r, .int .i64 p, .int .i64 c, .int .i64 g, .int .i64 s, .string b]] _ _
  have hf : ∀ k, vf ⟨i, r, p, c, g, s, b⟩ = k → ∀ e : Ending, e = .returned (.int .i64 k) → e = .returned (.int .i64 (vf ⟨i, r, p, c, g, s, b⟩)) := fun k h e he => by rw [h]; exact he
  cases h0 : wi i 1 1073741824 with
  | false =>
    have H0 := hcs _ _ _ _ h0
    have HF := Lib.hid (hf 1 (by simp [vf, hv, h0]))
    clear hcs hf h0
    go_enter Try.func11, Try.ntmps11
    go_wp2_with fail
    refine (H0.out _).mono ?_
    rintro e w1 ⟨rfl, rfl⟩
    go_wp2
    go_ret
    exact ⟨HF.out _ rfl, HB.out⟩
  | true =>
    have H0 := hcs _ _ _ _ h0
    cases h1 : wi r 0 65535 with
    | false =>
      have H1 := hcs _ _ _ _ h1
      have HF := Lib.hid (hf 1 (by simp [vf, hv, h0, h1]))
      clear hcs hf h0 h1
      go_enter Try.func11, Try.ntmps11
      go_wp2_with fail
      refine (H0.out _).mono ?_
      rintro e w1 ⟨rfl, rfl⟩
      go_wp2_with fail
      refine (H1.out _).mono ?_
      rintro e w1 ⟨rfl, rfl⟩
      go_wp2
      go_ret
      exact ⟨HF.out _ rfl, HB.out⟩
    | true =>
      have H1 := hcs _ _ _ _ h1
      cases h2 : wi p 0 65536 with
      | false =>
        have H2 := hcs _ _ _ _ h2
        have HF := Lib.hid (hf 1 (by simp [vf, hv, h0, h1, h2]))
        clear hcs hf h0 h1 h2
        go_enter Try.func11, Try.ntmps11
        go_wp2_with fail
        refine (H0.out _).mono ?_
        rintro e w1 ⟨rfl, rfl⟩
        go_wp2_with fail
        refine (H1.out _).mono ?_
        rintro e w1 ⟨rfl, rfl⟩
        go_wp2_with fail
        refine (H2.out _).mono ?_
        rintro e w1 ⟨rfl, rfl⟩
        go_wp2
        go_ret
        exact ⟨HF.out _ rfl, HB.out⟩
      | true =>
        have H2 := hcs _ _ _ _ h2
        cases h3 : wi c 0 8 with
        | false =>
          have H3 := hcs _ _ _ _ h3
          have HF := Lib.hid (hf 1 (by simp [vf, hv, h0, h1, h2, h3]))
          clear hcs hf h0 h1 h2 h3
          go_enter Try.func11, Try.ntmps11
          go_wp2_with fail
          refine (H0.out _).mono ?_
          rintro e w1 ⟨rfl, rfl⟩
          go_wp2_with fail
          refine (H1.out _).mono ?_
          rintro e w1 ⟨rfl, rfl⟩
          go_wp2_with fail
          refine (H2.out _).mono ?_
          rintro e w1 ⟨rfl, rfl⟩
          go_wp2_with fail
          refine (H3.out _).mono ?_
          rintro e w1 ⟨rfl, rfl⟩
          go_wp2
          go_ret
          exact ⟨HF.out _ rfl, HB.out⟩
        | true =>
          have H3 := hcs _ _ _ _ h3
          cases h4 : wi g c 65536 with
          | false =>
            have H4 := hcs _ _ _ _ h4
            have HF := Lib.hid (hf 1 (by simp [vf, hv, h0, h1, h2, h3, h4]))
            clear hcs hf h0 h1 h2 h3 h4
            go_enter Try.func11, Try.ntmps11
            go_wp2_with fail
            refine (H0.out _).mono ?_
            rintro e w1 ⟨rfl, rfl⟩
            go_wp2_with fail
            refine (H1.out _).mono ?_
            rintro e w1 ⟨rfl, rfl⟩
            go_wp2_with fail
            refine (H2.out _).mono ?_
            rintro e w1 ⟨rfl, rfl⟩
            go_wp2_with fail
            refine (H3.out _).mono ?_
            rintro e w1 ⟨rfl, rfl⟩
            go_wp2_with fail
            refine (H4.out _).mono ?_
            rintro e w1 ⟨rfl, rfl⟩
            go_wp2
            go_ret
            exact ⟨HF.out _ rfl, HB.out⟩
          | true =>
            have H4 := hcs _ _ _ _ h4
            cases h5 : wi s 0 1073741824 with
            | false =>
              have H5 := hcs _ _ _ _ h5
              have HF := Lib.hid (hf 1 (by simp [vf, hv, h0, h1, h2, h3, h4, h5]))
              clear hcs hf h0 h1 h2 h3 h4 h5
              go_enter Try.func11, Try.ntmps11
              go_wp2_with fail
              refine (H0.out _).mono ?_
              rintro e w1 ⟨rfl, rfl⟩
              go_wp2_with fail
              refine (H1.out _).mono ?_
              rintro e w1 ⟨rfl, rfl⟩
              go_wp2_with fail
              refine (H2.out _).mono ?_
              rintro e w1 ⟨rfl, rfl⟩
              go_wp2_with fail
              refine (H3.out _).mono ?_
              rintro e w1 ⟨rfl, rfl⟩
              go_wp2_with fail
              refine (H4.out _).mono ?_
              rintro e w1 ⟨rfl, rfl⟩
              go_wp2_with fail
              refine (H5.out _).mono ?_
              rintro e w1 ⟨rfl, rfl⟩
              go_wp2
              go_ret
              exact ⟨HF.out _ rfl, HB.out⟩
            | true =>
              have H5 := hcs _ _ _ _ h5
              by_cases h6 : (16 : Int) < (b.size : Int)
              · have HL := Lib.hid h6
                have HF := Lib.hid (hf 2 (by simp only [vf, hv, h0, h1, h2, h3, h4, h5, Bool.and_true]; rw [if_pos trivial, if_pos HL.out]))
                clear HL
                clear hcs hf h0 h1 h2 h3 h4 h5
                go_enter Try.func11, Try.ntmps11
                go_wp2_with fail
                refine (H0.out _).mono ?_
                rintro e w1 ⟨rfl, rfl⟩
                go_wp2_with fail
                refine (H1.out _).mono ?_
                rintro e w1 ⟨rfl, rfl⟩
                go_wp2_with fail
                refine (H2.out _).mono ?_
                rintro e w1 ⟨rfl, rfl⟩
                go_wp2_with fail
                refine (H3.out _).mono ?_
                rintro e w1 ⟨rfl, rfl⟩
                go_wp2_with fail
                refine (H4.out _).mono ?_
                rintro e w1 ⟨rfl, rfl⟩
                go_wp2_with fail
                refine (H5.out _).mono ?_
                rintro e w1 ⟨rfl, rfl⟩
                go_wp2
                go_ret
                exact ⟨HF.out _ rfl, HB.out⟩
              · have HL := Lib.hid h6
                have HF := Lib.hid (hf 0 (by simp only [vf, hv, h0, h1, h2, h3, h4, h5, Bool.and_true]; rw [if_pos trivial, if_neg HL.out]))
                clear HL
                clear hcs hf h0 h1 h2 h3 h4 h5
                go_enter Try.func11, Try.ntmps11
                go_wp2_with fail
                refine (H0.out _).mono ?_
                rintro e w1 ⟨rfl, rfl⟩
                go_wp2_with fail
                refine (H1.out _).mono ?_
                rintro e w1 ⟨rfl, rfl⟩
                go_wp2_with fail
                refine (H2.out _).mono ?_
                rintro e w1 ⟨rfl, rfl⟩
                go_wp2_with fail
                refine (H3.out _).mono ?_
                rintro e w1 ⟨rfl, rfl⟩
                go_wp2_with fail
                refine (H4.out _).mono ?_
                rintro e w1 ⟨rfl, rfl⟩
                go_wp2_with fail
                refine (H5.out _).mono ?_
                rintro e w1 ⟨rfl, rfl⟩
                go_wp2
                go_ret
                exact ⟨HF.out _ rfl, HB.out⟩
end Go.Proofs.Ytjiampelmiaflaa
