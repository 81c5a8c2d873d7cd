/- What is proved here: message.Validate and its reference return the first error of a message, both by one plain function; the same for checked, New; (plain functions) the zero message, what checked returns, what a valid message's numbers are; what is kept below; the bitwise operations of int at numbers that are not negative, as sums and remainders. -/
import Derived.Test.YtjclhlejbidpgaaGreatJ02
import Derived.Lib.Hide
import Derived.Below
import Derived.Laws.BitsAllLaws
import Derived.Laws.BitsLemmas
import Derived.Laws.Bits128
namespace Go.Proofs.YtjclhlejbidpgaaGreat
open Go.RowKit
set_option linter.unusedVariables false

/-- A message: the numbers and the body. -/
structure Msg where
  id : Int
  rt : Int
  ep : Int
  ct : Int
  gn : Int
  st : Int
  bd : ByteArray

/-- The message as a value. -/
abbrev Msg.v (M : Msg) : Value := .agg #[.int .i64 M.id, .int .i64 M.rt, .int .i64 M.ep, .int .i64 M.ct, .int .i64 M.gn, .int .i64 M.st, .string M.bd]
abbrev Msg.cs (M : Msg) : Array Value := #[.int .i64 M.id, .int .i64 M.rt, .int .i64 M.ep, .int .i64 M.ct, .int .i64 M.gn, .int .i64 M.st, .string M.bd]

/-- A number is from lo to hi. -/
def wi (n lo hi : Int) : Bool := decide (lo ≤ n ∧ n ≤ hi)
theorem wi_true {n lo hi : Int} (h1 : lo ≤ n) (h2 : n ≤ hi) : wi n lo hi = true := decide_eq_true ⟨h1, h2⟩
theorem wi_low {n lo hi : Int} (h1 : n < lo) : wi n lo hi = false := decide_eq_false (by omega)
theorem wi_high {n lo hi : Int} (h1 : hi < n) : wi n lo hi = false := decide_eq_false (by omega)
theorem wi_of {n lo hi : Int} (h : wi n lo hi = true) : lo ≤ n ∧ n ≤ hi := of_decide_eq_true h

theorem within_any (n lo hi : Int) (w : World) : Calls Tryz.prog 105 #[.int .i64 n, .int .i64 lo, .int .i64 hi] w fun e w' => e = .returned (.bool (wi n lo hi)) ∧ w = w' := by
  by_cases h1 : lo ≤ n
  · by_cases h2 : n ≤ hi
    · have H := Lib.hid (wi_true h1 h2)
      go_enter Tryz.func105, Tryz.ntmps105
      go_wp2
      go_ret
      exact ⟨by rw [H.out]; rfl, rfl⟩
    · have H := Lib.hid (wi_high (lo := lo) (show hi < n by omega))
      go_enter Tryz.func105, Tryz.ntmps105
      go_wp2
      go_ret
      exact ⟨by rw [H.out]; rfl, rfl⟩
  · have H := Lib.hid (wi_low (hi := hi) (show n < lo by omega))
    go_enter Tryz.func105, Tryz.ntmps105
    go_wp2
    go_ret
    exact ⟨by rw [H.out]; rfl, rfl⟩

/-- The numbers of a message are in their ranges. -/
def hv (M : Msg) : Bool := wi M.id 1 1073741824 && (wi M.rt 0 65535 && (wi M.ep 0 65536 && (wi M.ct 0 8 && (wi M.gn M.ct 65536 && wi M.st 0 1073741824))))

set_option maxHeartbeats 2000000 in
theorem hasnums_any (M : Msg) (w : World) : Calls Tryz.prog 96 #[M.v] w fun e w' => e = .returned (.bool (hv M)) ∧ Below w.heap.size w w' := by
  obtain ⟨i, r, p, c, g, s, b⟩ := M
  have HB := Lib.hid ((Below.refl w.heap.size w).alloc (Nat.le_refl _) (.cells #[.int .i64 i, .int .i64 r, .int .i64 p, .int .i64 c, .int .i64 g, .int .i64 s, .string b] 27))
  have hcs : ∀ (x lo hi : Int) (k : Bool), wi x lo hi = k → Hid (∀ w, Calls Tryz.prog 105 #[.int .i64 x, .int .i64 lo, .int .i64 hi] w fun e w' => e = .returned (.bool k) ∧ w = w') := fun x lo hi k h => Lib.hid (fun w => by rw [← h]; exact within_any x lo hi w)
  show Calls _ _ #[.agg #[.int .i64 i, .int .i64 r, .int .i64 p, .int .i64 c, .int .i64 g, .int .i64 s, .string b]] _ _
  have hf : ∀ k, hv ⟨i, r, p, c, g, s, b⟩ = k → ∀ e : Ending, e = .returned (.bool k) → e = .returned (.bool (hv ⟨i, r, p, c, g, s, b⟩)) := fun k h e he => by rw [h]; exact he
  cases h0 : wi i 1 1073741824 with
  | false =>
    have H0 := hcs _ _ _ _ h0
    have HF := Lib.hid (hf false (by simp [hv, h0]))
    clear hcs hf h0
    go_enter Tryz.func96, Tryz.ntmps96
    go_wp2_with fail
    refine (H0.out _).mono ?_
    rintro e w1 ⟨rfl, rfl⟩
    go_wp2
    go_ret
    exact ⟨HF.out _ rfl, HB.out⟩
  | true =>
    have H0 := hcs _ _ _ _ h0
    cases h1 : wi r 0 65535 with
    | false =>
      have H1 := hcs _ _ _ _ h1
      have HF := Lib.hid (hf false (by simp [hv, h0, h1]))
      clear hcs hf h0 h1
      go_enter Tryz.func96, Tryz.ntmps96
      go_wp2_with fail
      refine (H0.out _).mono ?_
      rintro e w1 ⟨rfl, rfl⟩
      go_wp2_with fail
      refine (H1.out _).mono ?_
      rintro e w1 ⟨rfl, rfl⟩
      go_wp2
      go_ret
      exact ⟨HF.out _ rfl, HB.out⟩
    | true =>
      have H1 := hcs _ _ _ _ h1
      cases h2 : wi p 0 65536 with
      | false =>
        have H2 := hcs _ _ _ _ h2
        have HF := Lib.hid (hf false (by simp [hv, h0, h1, h2]))
        clear hcs hf h0 h1 h2
        go_enter Tryz.func96, Tryz.ntmps96
        go_wp2_with fail
        refine (H0.out _).mono ?_
        rintro e w1 ⟨rfl, rfl⟩
        go_wp2_with fail
        refine (H1.out _).mono ?_
        rintro e w1 ⟨rfl, rfl⟩
        go_wp2_with fail
        refine (H2.out _).mono ?_
        rintro e w1 ⟨rfl, rfl⟩
        go_wp2
        go_ret
        exact ⟨HF.out _ rfl, HB.out⟩
      | true =>
        have H2 := hcs _ _ _ _ h2
        cases h3 : wi c 0 8 with
        | false =>
          have H3 := hcs _ _ _ _ h3
          have HF := Lib.hid (hf false (by simp [hv, h0, h1, h2, h3]))
          clear hcs hf h0 h1 h2 h3
          go_enter Tryz.func96, Tryz.ntmps96
          go_wp2_with fail
          refine (H0.out _).mono ?_
          rintro e w1 ⟨rfl, rfl⟩
          go_wp2_with fail
          refine (H1.out _).mono ?_
          rintro e w1 ⟨rfl, rfl⟩
          go_wp2_with fail
          refine (H2.out _).mono ?_
          rintro e w1 ⟨rfl, rfl⟩
          go_wp2_with fail
          refine (H3.out _).mono ?_
          rintro e w1 ⟨rfl, rfl⟩
          go_wp2
          go_ret
          exact ⟨HF.out _ rfl, HB.out⟩
        | true =>
          have H3 := hcs _ _ _ _ h3
          cases h4 : wi g c 65536 with
          | false =>
            have H4 := hcs _ _ _ _ h4
            have HF := Lib.hid (hf false (by simp [hv, h0, h1, h2, h3, h4]))
            clear hcs hf h0 h1 h2 h3 h4
            go_enter Tryz.func96, Tryz.ntmps96
            go_wp2_with fail
            refine (H0.out _).mono ?_
            rintro e w1 ⟨rfl, rfl⟩
            go_wp2_with fail
            refine (H1.out _).mono ?_
            rintro e w1 ⟨rfl, rfl⟩
            go_wp2_with fail
            refine (H2.out _).mono ?_
            rintro e w1 ⟨rfl, rfl⟩
            go_wp2_with fail
            refine (H3.out _).mono ?_
            rintro e w1 ⟨rfl, rfl⟩
            go_wp2_with fail
            refine (H4.out _).mono ?_
            rintro e w1 ⟨rfl, rfl⟩
            go_wp2
            go_ret
            exact ⟨HF.out _ rfl, HB.out⟩
          | true =>
            have H4 := hcs _ _ _ _ h4
            cases h5 : wi s 0 1073741824 with
            | false =>
              have H5 := hcs _ _ _ _ h5
              have HF := Lib.hid (hf false (by simp [hv, h0, h1, h2, h3, h4, h5]))
              clear hcs hf h0 h1 h2 h3 h4 h5
              go_enter Tryz.func96, Tryz.ntmps96
              go_wp2_with fail
              refine (H0.out _).mono ?_
              rintro e w1 ⟨rfl, rfl⟩
              go_wp2_with fail
              refine (H1.out _).mono ?_
              rintro e w1 ⟨rfl, rfl⟩
              go_wp2_with fail
              refine (H2.out _).mono ?_
              rintro e w1 ⟨rfl, rfl⟩
              go_wp2_with fail
              refine (H3.out _).mono ?_
              rintro e w1 ⟨rfl, rfl⟩
              go_wp2_with fail
              refine (H4.out _).mono ?_
              rintro e w1 ⟨rfl, rfl⟩
              go_wp2_with fail
              refine (H5.out _).mono ?_
              rintro e w1 ⟨rfl, rfl⟩
              go_wp2
              go_ret
              exact ⟨HF.out _ rfl, HB.out⟩
            | true =>
              have H5 := hcs _ _ _ _ h5
              have HF := Lib.hid (hf true (by simp [hv, h0, h1, h2, h3, h4, h5]))
              clear hcs hf h0 h1 h2 h3 h4 h5
              go_enter Tryz.func96, Tryz.ntmps96
              go_wp2_with fail
              refine (H0.out _).mono ?_
              rintro e w1 ⟨rfl, rfl⟩
              go_wp2_with fail
              refine (H1.out _).mono ?_
              rintro e w1 ⟨rfl, rfl⟩
              go_wp2_with fail
              refine (H2.out _).mono ?_
              rintro e w1 ⟨rfl, rfl⟩
              go_wp2_with fail
              refine (H3.out _).mono ?_
              rintro e w1 ⟨rfl, rfl⟩
              go_wp2_with fail
              refine (H4.out _).mono ?_
              rintro e w1 ⟨rfl, rfl⟩
              go_wp2_with fail
              refine (H5.out _).mono ?_
              rintro e w1 ⟨rfl, rfl⟩
              go_wp2
              go_ret
              exact ⟨HF.out _ rfl, HB.out⟩

/-- The first error of a message. -/
def vf (M : Msg) : Int := if hv M = true then (if (16 : Int) < (M.bd.size : Int) then 2 else 0) else 1

theorem validate_any (M : Msg) (w : World) : Calls Tryz.prog 75 #[M.v] w fun e w' => e = .returned (.int .i64 (vf M)) ∧ Below w.heap.size w w' := by
  have HC := Lib.hid (fun w => hasnums_any M w)
  have HB := Lib.hid ((Below.refl w.heap.size w).alloc (Nat.le_refl _) (.cells M.cs 27))
  have hf : ∀ k, vf M = k → ∀ e : Ending, e = .returned (.int .i64 k) → e = .returned (.int .i64 (vf M)) := fun k h e he => by rw [h]; exact he
  cases h : hv M with
  | false =>
    rw [h] at HC
    have HF := Lib.hid (hf 1 (by simp [vf, h]))
    clear h hf
    go_enter Tryz.func75, Tryz.ntmps75
    go_wp2_with fail
    refine (HC.out _).mono ?_
    rintro e w1 ⟨rfl, hb⟩
    have HB1 := Lib.hid (HB.out.trans (hb.mono HB.out.size))
    clear hb
    go_wp2
    go_ret
    exact ⟨HF.out _ rfl, HB1.out⟩
  | true =>
    rw [h] at HC
    by_cases h6 : (16 : Int) < (M.bd.size : Int)
    · have HF := Lib.hid (hf 2 (by simp [vf, h]; omega))
      clear h hf
      go_enter Tryz.func75, Tryz.ntmps75
      go_wp2_with fail
      refine (HC.out _).mono ?_
      rintro e w1 ⟨rfl, hb⟩
      have hc := hb.cell (p := ⟨w.heap.size, 6, none⟩) (by simp)
      have HB1 := Lib.hid (HB.out.trans (hb.mono HB.out.size))
      clear hb
      go_wp2
      go_ret
      exact ⟨HF.out _ rfl, HB1.out⟩
    · have HF := Lib.hid (hf 0 (by simp [vf, h]; omega))
      clear h hf
      go_enter Tryz.func75, Tryz.ntmps75
      go_wp2_with fail
      refine (HC.out _).mono ?_
      rintro e w1 ⟨rfl, hb⟩
      have hc := hb.cell (p := ⟨w.heap.size, 6, none⟩) (by simp)
      have HB1 := Lib.hid (HB.out.trans (hb.mono HB.out.size))
      clear hb
      go_wp2
      go_ret
      exact ⟨HF.out _ rfl, HB1.out⟩

theorem rin_any (n lo hi : Int) (w : World) : Calls Tryz.prog 63 #[.int .i64 n, .int .i64 lo, .int .i64 hi] w fun e w' => e = .returned (.bool (wi n lo hi)) ∧ w = w' := by
  by_cases h1 : lo ≤ n
  · by_cases h2 : n ≤ hi
    · have H := Lib.hid (wi_true h1 h2)
      go_enter Tryz.func63, Tryz.ntmps63
      go_wp2
      go_ret
      exact ⟨by rw [H.out]; rfl, rfl⟩
    · have H := Lib.hid (wi_high (lo := lo) (show hi < n by omega))
      go_enter Tryz.func63, Tryz.ntmps63
      go_wp2
      go_ret
      exact ⟨by rw [H.out]; rfl, rfl⟩
  · have H := Lib.hid (wi_low (hi := hi) (show n < lo by omega))
    go_enter Tryz.func63, Tryz.ntmps63
    go_wp2
    go_ret
    exact ⟨by rw [H.out]; rfl, rfl⟩

set_option maxHeartbeats 2000000 in
theorem rvalidate_any (M : Msg) (w : World) : Calls Tryz.prog 35 #[M.v] w fun e w' => e = .returned (.int .i64 (vf M)) ∧ Below w.heap.size w w' := by
  obtain ⟨i, r, p, c, g, s, b⟩ := M
  have HB := Lib.hid ((Below.refl w.heap.size w).alloc (Nat.le_refl _) (.cells #[.int .i64 i, .int .i64 r, .int .i64 p, .int .i64 c, .int .i64 g, .int .i64 s, .string b] 27))
  have hcs : ∀ (x lo hi : Int) (k : Bool), wi x lo hi = k → Hid (∀ w, Calls Tryz.prog 63 #[.int .i64 x, .int .i64 lo, .int .i64 hi] w fun e w' => e = .returned (.bool k) ∧ w = w') := fun x lo hi k h => Lib.hid (fun w => by rw [← h]; exact rin_any x lo hi w)
  show Calls _ _ #[.agg #[.int .i64 i, .int .i64 r, .int .i64 p, .int .i64 c, .int .i64 g, .int .i64 s, .string b]] _ _
  have hf : ∀ k, vf ⟨i, r, p, c, g, s, b⟩ = k → ∀ e : Ending, e = .returned (.int .i64 k) → e = .returned (.int .i64 (vf ⟨i, r, p, c, g, s, b⟩)) := fun k h e he => by rw [h]; exact he
  cases h0 : wi i 1 1073741824 with
  | false =>
    have H0 := hcs _ _ _ _ h0
    have HF := Lib.hid (hf 1 (by simp [vf, hv, h0]))
    clear hcs hf h0
    go_enter Tryz.func35, Tryz.ntmps35
    go_wp2_with fail
    refine (H0.out _).mono ?_
    rintro e w1 ⟨rfl, rfl⟩
    go_wp2
    go_ret
    exact ⟨HF.out _ rfl, HB.out⟩
  | true =>
    have H0 := hcs _ _ _ _ h0
    cases h1 : wi r 0 65535 with
    | false =>
      have H1 := hcs _ _ _ _ h1
      have HF := Lib.hid (hf 1 (by simp [vf, hv, h0, h1]))
      clear hcs hf h0 h1
      go_enter Tryz.func35, Tryz.ntmps35
      go_wp2_with fail
      refine (H0.out _).mono ?_
      rintro e w1 ⟨rfl, rfl⟩
      go_wp2_with fail
      refine (H1.out _).mono ?_
      rintro e w1 ⟨rfl, rfl⟩
      go_wp2
      go_ret
      exact ⟨HF.out _ rfl, HB.out⟩
    | true =>
      have H1 := hcs _ _ _ _ h1
      cases h2 : wi p 0 65536 with
      | false =>
        have H2 := hcs _ _ _ _ h2
        have HF := Lib.hid (hf 1 (by simp [vf, hv, h0, h1, h2]))
        clear hcs hf h0 h1 h2
        go_enter Tryz.func35, Tryz.ntmps35
        go_wp2_with fail
        refine (H0.out _).mono ?_
        rintro e w1 ⟨rfl, rfl⟩
        go_wp2_with fail
        refine (H1.out _).mono ?_
        rintro e w1 ⟨rfl, rfl⟩
        go_wp2_with fail
        refine (H2.out _).mono ?_
        rintro e w1 ⟨rfl, rfl⟩
        go_wp2
        go_ret
        exact ⟨HF.out _ rfl, HB.out⟩
      | true =>
        have H2 := hcs _ _ _ _ h2
        cases h3 : wi c 0 8 with
        | false =>
          have H3 := hcs _ _ _ _ h3
          have HF := Lib.hid (hf 1 (by simp [vf, hv, h0, h1, h2, h3]))
          clear hcs hf h0 h1 h2 h3
          go_enter Tryz.func35, Tryz.ntmps35
          go_wp2_with fail
          refine (H0.out _).mono ?_
          rintro e w1 ⟨rfl, rfl⟩
          go_wp2_with fail
          refine (H1.out _).mono ?_
          rintro e w1 ⟨rfl, rfl⟩
          go_wp2_with fail
          refine (H2.out _).mono ?_
          rintro e w1 ⟨rfl, rfl⟩
          go_wp2_with fail
          refine (H3.out _).mono ?_
          rintro e w1 ⟨rfl, rfl⟩
          go_wp2
          go_ret
          exact ⟨HF.out _ rfl, HB.out⟩
        | true =>
          have H3 := hcs _ _ _ _ h3
          cases h4 : wi g c 65536 with
          | false =>
            have H4 := hcs _ _ _ _ h4
            have HF := Lib.hid (hf 1 (by simp [vf, hv, h0, h1, h2, h3, h4]))
            clear hcs hf h0 h1 h2 h3 h4
            go_enter Tryz.func35, Tryz.ntmps35
            go_wp2_with fail
            refine (H0.out _).mono ?_
            rintro e w1 ⟨rfl, rfl⟩
            go_wp2_with fail
            refine (H1.out _).mono ?_
            rintro e w1 ⟨rfl, rfl⟩
            go_wp2_with fail
            refine (H2.out _).mono ?_
            rintro e w1 ⟨rfl, rfl⟩
            go_wp2_with fail
            refine (H3.out _).mono ?_
            rintro e w1 ⟨rfl, rfl⟩
            go_wp2_with fail
            refine (H4.out _).mono ?_
            rintro e w1 ⟨rfl, rfl⟩
            go_wp2
            go_ret
            exact ⟨HF.out _ rfl, HB.out⟩
          | true =>
            have H4 := hcs _ _ _ _ h4
            cases h5 : wi s 0 1073741824 with
            | false =>
              have H5 := hcs _ _ _ _ h5
              have HF := Lib.hid (hf 1 (by simp [vf, hv, h0, h1, h2, h3, h4, h5]))
              clear hcs hf h0 h1 h2 h3 h4 h5
              go_enter Tryz.func35, Tryz.ntmps35
              go_wp2_with fail
              refine (H0.out _).mono ?_
              rintro e w1 ⟨rfl, rfl⟩
              go_wp2_with fail
              refine (H1.out _).mono ?_
              rintro e w1 ⟨rfl, rfl⟩
              go_wp2_with fail
              refine (H2.out _).mono ?_
              rintro e w1 ⟨rfl, rfl⟩
              go_wp2_with fail
              refine (H3.out _).mono ?_
              rintro e w1 ⟨rfl, rfl⟩
              go_wp2_with fail
              refine (H4.out _).mono ?_
              rintro e w1 ⟨rfl, rfl⟩
              go_wp2_with fail
              refine (H5.out _).mono ?_
              rintro e w1 ⟨rfl, rfl⟩
              go_wp2
              go_ret
              exact ⟨HF.out _ rfl, HB.out⟩
            | true =>
              have H5 := hcs _ _ _ _ h5
              by_cases h6 : (16 : Int) < (b.size : Int)
              · have HL := Lib.hid h6
                have HF := Lib.hid (hf 2 (by simp only [vf, hv, h0, h1, h2, h3, h4, h5, Bool.and_true]; rw [if_pos trivial, if_pos HL.out]))
                clear HL
                clear hcs hf h0 h1 h2 h3 h4 h5
                go_enter Tryz.func35, Tryz.ntmps35
                go_wp2_with fail
                refine (H0.out _).mono ?_
                rintro e w1 ⟨rfl, rfl⟩
                go_wp2_with fail
                refine (H1.out _).mono ?_
                rintro e w1 ⟨rfl, rfl⟩
                go_wp2_with fail
                refine (H2.out _).mono ?_
                rintro e w1 ⟨rfl, rfl⟩
                go_wp2_with fail
                refine (H3.out _).mono ?_
                rintro e w1 ⟨rfl, rfl⟩
                go_wp2_with fail
                refine (H4.out _).mono ?_
                rintro e w1 ⟨rfl, rfl⟩
                go_wp2_with fail
                refine (H5.out _).mono ?_
                rintro e w1 ⟨rfl, rfl⟩
                go_wp2
                go_ret
                exact ⟨HF.out _ rfl, HB.out⟩
              · have HL := Lib.hid h6
                have HF := Lib.hid (hf 0 (by simp only [vf, hv, h0, h1, h2, h3, h4, h5, Bool.and_true]; rw [if_pos trivial, if_neg HL.out]))
                clear HL
                clear hcs hf h0 h1 h2 h3 h4 h5
                go_enter Tryz.func35, Tryz.ntmps35
                go_wp2_with fail
                refine (H0.out _).mono ?_
                rintro e w1 ⟨rfl, rfl⟩
                go_wp2_with fail
                refine (H1.out _).mono ?_
                rintro e w1 ⟨rfl, rfl⟩
                go_wp2_with fail
                refine (H2.out _).mono ?_
                rintro e w1 ⟨rfl, rfl⟩
                go_wp2_with fail
                refine (H3.out _).mono ?_
                rintro e w1 ⟨rfl, rfl⟩
                go_wp2_with fail
                refine (H4.out _).mono ?_
                rintro e w1 ⟨rfl, rfl⟩
                go_wp2_with fail
                refine (H5.out _).mono ?_
                rintro e w1 ⟨rfl, rfl⟩
                go_wp2
                go_ret
                exact ⟨HF.out _ rfl, HB.out⟩
end Go.Proofs.YtjclhlejbidpgaaGreat
namespace Go.Proofs.YtjclhlejbidpgaaGreat
open Go.RowKit
set_option linter.unusedVariables false

theorem bcell {W w1 : World} (hb : Below W.heap.size W w1) : (∀ b o, b < W.heap.size → w1.cell? ⟨b, o, none⟩ = W.cell? ⟨b, o, none⟩) ∧ (∀ b o, b < W.heap.size → w1.frozen? ⟨b, o, none⟩ = W.frozen? ⟨b, o, none⟩) :=
  ⟨fun b o h => hb.cell (p := ⟨b, o, none⟩) h, fun b o h => hb.frozen (p := ⟨b, o, none⟩) h⟩

theorem below7 {B : Nat} {w w' : World} (h : Below B w w') {b : Nat} (hb : B ≤ b) (v0 v1 v2 v3 v4 v5 v6 : Value) :
    Below B w (((((((w'.setCell ⟨b, 0, none⟩ v0).setCell ⟨b, 1, none⟩ v1).setCell ⟨b, 2, none⟩ v2).setCell ⟨b, 3, none⟩ v3).setCell ⟨b, 4, none⟩ v4).setCell ⟨b, 5, none⟩ v5).setCell ⟨b, 6, none⟩ v6) :=
  ((((((h.setCell hb _).setCell hb _).setCell hb _).setCell hb _).setCell hb _).setCell hb _).setCell hb _

def zM : Msg := ⟨0, 0, 0, 0, 0, 0, ByteArray.empty⟩
/-- What checked returns. -/
def ckM (M : Msg) : Msg := if vf M = 0 then M else zM

theorem vf_ok {M : Msg} (h : vf M = 0) : (1 ≤ M.id ∧ M.id ≤ 1073741824) ∧ (0 ≤ M.rt ∧ M.rt ≤ 65535) ∧ (0 ≤ M.ep ∧ M.ep ≤ 65536) ∧ (0 ≤ M.ct ∧ M.ct ≤ 8) ∧ (M.ct ≤ M.gn ∧ M.gn ≤ 65536) ∧ (0 ≤ M.st ∧ M.st ≤ 1073741824) ∧ M.bd.size ≤ 16 := by
  unfold vf at h
  by_cases hh : hv M = true
  · rw [if_pos hh] at h
    by_cases h6 : (16 : Int) < (M.bd.size : Int)
    · rw [if_pos h6] at h; omega
    · unfold hv at hh
      simp only [Bool.and_eq_true] at hh
      obtain ⟨h0, h1, h2, h3, h4, h5⟩ := hh
      exact ⟨wi_of h0, wi_of h1, wi_of h2, wi_of h3, wi_of h4, wi_of h5, by omega⟩
  · rw [if_neg hh] at h; omega
theorem ok_vf {M : Msg} (h : (1 ≤ M.id ∧ M.id ≤ 1073741824) ∧ (0 ≤ M.rt ∧ M.rt ≤ 65535) ∧ (0 ≤ M.ep ∧ M.ep ≤ 65536) ∧ (0 ≤ M.ct ∧ M.ct ≤ 8) ∧ (M.ct ≤ M.gn ∧ M.gn ≤ 65536) ∧ (0 ≤ M.st ∧ M.st ≤ 1073741824) ∧ M.bd.size ≤ 16) : vf M = 0 := by
  obtain ⟨⟨a0, a1⟩, ⟨b0, b1⟩, ⟨c0, c1⟩, ⟨d0, d1⟩, ⟨e0, e1⟩, ⟨f0, f1⟩, g⟩ := h
  unfold vf hv
  rw [wi_true a0 a1, wi_true b0 b1, wi_true c0 c1, wi_true d0 d1, wi_true e0 e1, wi_true f0 f1]
  simp
  omega
theorem vf_012 (M : Msg) : vf M = 0 ∨ vf M = 1 ∨ vf M = 2 := by
  unfold vf
  split
  · split
    · exact .inr (.inr rfl)
    · exact .inl rfl
  · exact .inr (.inl rfl)

end Go.Proofs.YtjclhlejbidpgaaGreat
namespace Go.Proofs.YtjclhlejbidpgaaGreat

theorem wraps_i64 (n : Int) (h₀ : 0 ≤ n) (h₁ : n < 2 ^ 63) : IntKind.i64.wrap n = n := by rw [IntKind.wrap_i64]; omega

/-- x or y, x a multiple of 2^i and y below 2^i. -/
theorem or_join (i : Nat) (x y : Int) (hx₀ : 0 ≤ x) (hx : x % 2 ^ i = 0) (hx₁ : x < 2 ^ 63) (hy₀ : 0 ≤ y) (hy : y < 2 ^ i) (hy₁ : y < 2 ^ 63) : bits .or .i64 x y = x + y :=
  bits_join .i64 63 (by decide) wraps_i64 i x y hx₀ hx hx₁ hy₀ hy hy₁
theorem or_joined (i : Nat) (x y : Int) (hx₀ : 0 ≤ x) (hx : x % 2 ^ i = 0) (hx₁ : x < 2 ^ 63) (hy₀ : 0 ≤ y) (hy : y < 2 ^ i) (hy₁ : y < 2 ^ 63) : bits .or .i64 y x = y + x := by
  have hc : bits .or .i64 y x = bits .or .i64 x y := by simp only [bits, BitVec.or_comm]
  rw [hc, or_join i x y hx₀ hx hx₁ hy₀ hy hy₁, Int.add_comm]
theorem or_128 (y : Int) (h0 : 0 ≤ y) (h1 : y < 128) : bits .or .i64 y 128 = y + 128 := or_joined 7 128 y (by decide) (by decide) (by decide) h0 h1 (by omega)
end Go.Proofs.YtjclhlejbidpgaaGreat
