/- What is proved here: Deliver, Revive, Reroute of message and their references, each by one contract for all arguments. -/
import Derived.Test.YtjiampelmiaflaaMst
namespace Go.Proofs.Ytjiampelmiaflaa
open Go.RowKit
set_option linter.unusedVariables false

/-- What Deliver returns. -/
def dlE (M : Msg) : Int := if vf M = 0 then (if M.gn = 65536 then 6 else if M.ct = 8 then 7 else 0) else vf M
def dlM (M : Msg) : Msg := if dlE M = 0 then ⟨M.id, M.rt, M.ep, M.ct + 1, M.gn + 1, M.st, M.bd⟩ else zM
def rvM (M : Msg) : Msg := ⟨M.id, M.rt, M.ep, 0, M.gn, M.st, M.bd⟩
def roM (M : Msg) (l h : Int) : Msg := ⟨M.id, intoF M.rt l h, M.ep, M.ct, M.gn, M.st, M.bd⟩

theorem dl_not (M : Msg) (e : Int) (h : dlE M = e) (h0 : e ≠ 0) : dlM M = zM := by unfold dlM; rw [if_neg (by omega)]


set_option maxHeartbeats 2000000 in
theorem deliver_any (M : Msg) (w : World) : Calls Try.prog 22 #[M.v] w fun e w' => e = .returned (.tuple #[(dlM M).v, .int .i64 (dlE M)]) ∧ Below w.heap.size w w' := by
  have HC := Lib.hid (fun w => validate_any M w)
  by_cases h : vf M = 0
  · rw [h] at HC
    by_cases hg : M.gn = 65536
    · have he : dlE M = 6 := by unfold dlE; rw [if_pos h, if_pos hg]
      have HF := Lib.hid (dl_not M 6 he (by omega))
      have HE := Lib.hid he
      have hg' : (M.gn == 65536) = true := beq_iff_eq.2 hg
      clear h he hg
      go_enter Try.func22, Try.ntmps22
      go_wp2_with fail
      refine (HC.out _).mono ?_
      rintro e w1 ⟨rfl, hb⟩
      obtain ⟨hc, hf⟩ := bcell hb
      have hz := hb.size
      simp at hz
      have hlt : w.heap.size < w.heap.size + 1 + 1 := by omega
      have hz0 : w.heap.size < w1.heap.size := by omega
      have HB1 := Lib.hid ((((Below.refl w.heap.size w).alloc (Nat.le_refl _) _).alloc (by simp) _).trans (hb.mono (by simp <;> omega)))
      clear hb
      go_wp2
      exact bodyPost_ret (v := .tuple #[.agg #[.int .i64 0, .int .i64 0, .int .i64 0, .int .i64 0, .int .i64 0, .int .i64 0, .string ByteArray.empty], .int .i64 6]) (by simp only [results, Try.results22]; go_simp <;> rfl) rfl ⟨by rw [HF.out, HE.out] <;> rfl, below7 HB1.out (by simp) _ _ _ _ _ _ _⟩
    · have hg' : (M.gn == 65536) = false := beq_eq_false_iff_ne.2 hg
      by_cases hq : M.ct = 8
      · have he : dlE M = 7 := by unfold dlE; rw [if_pos h, if_neg hg, if_pos hq]
        have HF := Lib.hid (dl_not M 7 he (by omega))
        have HE := Lib.hid he
        have hq' : (M.ct == 8) = true := beq_iff_eq.2 hq
        clear h he hg hq
        go_enter Try.func22, Try.ntmps22
        go_wp2_with fail
        refine (HC.out _).mono ?_
        rintro e w1 ⟨rfl, hb⟩
        obtain ⟨hc, hf⟩ := bcell hb
        have hz := hb.size
        simp at hz
        have hlt : w.heap.size < w.heap.size + 1 + 1 := by omega
        have hz0 : w.heap.size < w1.heap.size := by omega
        have HB1 := Lib.hid ((((Below.refl w.heap.size w).alloc (Nat.le_refl _) _).alloc (by simp) _).trans (hb.mono (by simp <;> omega)))
        clear hb
        go_wp2
        exact bodyPost_ret (v := .tuple #[.agg #[.int .i64 0, .int .i64 0, .int .i64 0, .int .i64 0, .int .i64 0, .int .i64 0, .string ByteArray.empty], .int .i64 7]) (by simp only [results, Try.results22]; go_simp <;> rfl) rfl ⟨by rw [HF.out, HE.out] <;> rfl, below7 HB1.out (by simp) _ _ _ _ _ _ _⟩
      · have he : dlE M = 0 := by unfold dlE; rw [if_pos h, if_neg hg, if_neg hq]
        have HF := Lib.hid (show dlM M = ⟨M.id, M.rt, M.ep, M.ct + 1, M.gn + 1, M.st, M.bd⟩ from if_pos he)
        have HE := Lib.hid he
        have hq' : (M.ct == 8) = false := beq_eq_false_iff_ne.2 hq
        obtain ⟨_, _, _, ⟨q0, q1⟩, ⟨g0, g1⟩, _, _⟩ := vf_ok h
        clear h he hg hq
        go_enter Try.func22, Try.ntmps22
        go_wp2_with fail
        refine (HC.out _).mono ?_
        rintro e w1 ⟨rfl, hb⟩
        obtain ⟨hc, hf⟩ := bcell hb
        have hz := hb.size
        simp at hz
        have hlt : w.heap.size < w.heap.size + 1 + 1 := by omega
        have hz0 : w.heap.size < w1.heap.size := by omega
        have HB1 := Lib.hid ((((Below.refl w.heap.size w).alloc (Nat.le_refl _) _).alloc (by simp) _).trans (hb.mono (by simp <;> omega)))
        clear hb
        go_wp2
        exact bodyPost_ret (v := .tuple #[Msg.v ⟨M.id, M.rt, M.ep, M.ct + 1, M.gn + 1, M.st, M.bd⟩, .int .i64 0]) (by simp only [results, Try.results22]; go_simp <;> rfl) rfl ⟨by rw [HF.out, HE.out] <;> rfl, below7 ((HB1.out.setCell (by simp) _).setCell (by simp) _) (by simp) _ _ _ _ _ _ _⟩
  · have he : dlE M = vf M := if_neg h
    have HF := Lib.hid (dl_not M _ he h)
    have HE := Lib.hid he
    have hne : (vf M != 0) = true := bne_iff_ne.2 h
    generalize vf M = k at *
    clear h he
    go_enter Try.func22, Try.ntmps22
    go_wp2_with fail
    refine (HC.out _).mono ?_
    rintro e w1 ⟨rfl, hb⟩
    obtain ⟨hc, hf⟩ := bcell hb
    have hz := hb.size
    simp at hz
    have hlt : w.heap.size < w.heap.size + 1 + 1 := by omega
    have hz0 : w.heap.size < w1.heap.size := by omega
    have HB1 := Lib.hid ((((Below.refl w.heap.size w).alloc (Nat.le_refl _) _).alloc (by simp) _).trans (hb.mono (by simp <;> omega)))
    clear hb
    go_wp2
    exact bodyPost_ret (v := .tuple #[.agg #[.int .i64 0, .int .i64 0, .int .i64 0, .int .i64 0, .int .i64 0, .int .i64 0, .string ByteArray.empty], .int .i64 k]) (by simp only [results, Try.results22]; go_simp <;> rfl) rfl ⟨by rw [HF.out, HE.out] <;> rfl, below7 HB1.out (by simp) _ _ _ _ _ _ _⟩

set_option maxHeartbeats 2000000 in
theorem revive_any (M : Msg) (w : World) : Calls Try.prog 24 #[M.v] w fun e w' => e = .returned (rvM M).v ∧ Below w.heap.size w w' := by
  have HB := Lib.hid (((Below.refl w.heap.size w).alloc (Nat.le_refl _) (.cells #[.int .i64 M.id, .int .i64 M.rt, .int .i64 M.ep, .int .i64 0, .int .i64 M.gn, .int .i64 M.st, .string M.bd] 23)).alloc (o := .cells #[.int .i64 M.id, .int .i64 M.rt, .int .i64 M.ep, .int .i64 0, .int .i64 M.gn, .int .i64 M.st, .string M.bd] 23) (by simp))
  go_enter Try.func24, Try.ntmps24
  go_wp2
  exact bodyPost_ret (v := Msg.v ⟨M.id, M.rt, M.ep, 0, M.gn, M.st, M.bd⟩) (by simp only [results, Try.results24]; go_simp <;> rfl) rfl ⟨rfl, by first | exact HB.out | exact below7 HB.out (by simp) _ _ _ _ _ _ _⟩

set_option maxHeartbeats 2000000 in
theorem reroute_any (M : Msg) (l h : Int) (w : World) : Calls Try.prog 26 #[M.v, .int .i64 l, .int .i64 h] w fun e w' => e = .returned (roM M l h).v ∧ Below w.heap.size w w' := by
  have HC := Lib.hid (fun w => into_any M.rt l h w)
  have HF := Lib.hid (show roM M l h = ⟨M.id, intoF M.rt l h, M.ep, M.ct, M.gn, M.st, M.bd⟩ from rfl)
  generalize intoF M.rt l h = x at *
  go_enter Try.func26, Try.ntmps26
  go_wp2_with fail
  refine (HC.out _).mono ?_
  rintro e w1 ⟨rfl, hb⟩
  obtain ⟨hc, hf⟩ := bcell hb
  have hz := hb.size
  simp at hz
  have hlt : w.heap.size < w.heap.size + 1 + 1 := by omega
  have hz0 : w.heap.size < w1.heap.size := by omega
  have HB1 := Lib.hid ((((Below.refl w.heap.size w).alloc (Nat.le_refl _) _).alloc (by simp) _).trans (hb.mono (by simp <;> omega)))
  clear hb
  go_wp2
  exact bodyPost_ret (v := Msg.v ⟨M.id, x, M.ep, M.ct, M.gn, M.st, M.bd⟩) (by simp only [results, Try.results26]; go_simp <;> rfl) rfl ⟨by rw [HF.out], below7 (HB1.out.setCell (by simp) _) (by simp) _ _ _ _ _ _ _⟩

set_option maxHeartbeats 2000000 in
theorem rdeliver_any (M : Msg) (w : World) : Calls Try.prog 23 #[M.v] w fun e w' => e = .returned (.tuple #[(dlM M).v, .int .i64 (dlE M)]) ∧ Below w.heap.size w w' := by
  have HC := Lib.hid (fun w => rvalidate_any M w)
  by_cases h : vf M = 0
  · rw [h] at HC
    by_cases hg : M.gn = 65536
    · have he : dlE M = 6 := by unfold dlE; rw [if_pos h, if_pos hg]
      have HF := Lib.hid (dl_not M 6 he (by omega))
      have HE := Lib.hid he
      have hg' : (M.gn == 65536) = true := beq_iff_eq.2 hg
      clear h he hg
      go_enter Try.func23, Try.ntmps23
      go_wp2_with fail
      refine (HC.out _).mono ?_
      rintro e w1 ⟨rfl, hb⟩
      obtain ⟨hc, hf⟩ := bcell hb
      have hz := hb.size
      simp at hz
      have hlt : w.heap.size < w.heap.size + 1 + 1 := by omega
      have hz0 : w.heap.size < w1.heap.size := by omega
      have HB1 := Lib.hid ((((Below.refl w.heap.size w).alloc (Nat.le_refl _) _).alloc (by simp) _).trans (hb.mono (by simp <;> omega)))
      clear hb
      go_wp2
      exact bodyPost_ret (v := .tuple #[.agg #[.int .i64 0, .int .i64 0, .int .i64 0, .int .i64 0, .int .i64 0, .int .i64 0, .string ByteArray.empty], .int .i64 6]) (by simp only [results, Try.results23]; go_simp <;> rfl) rfl ⟨by rw [HF.out, HE.out] <;> rfl, below7 HB1.out (by simp) _ _ _ _ _ _ _⟩
    · have hg' : (M.gn == 65536) = false := beq_eq_false_iff_ne.2 hg
      by_cases hq : M.ct = 8
      · have he : dlE M = 7 := by unfold dlE; rw [if_pos h, if_neg hg, if_pos hq]
        have HF := Lib.hid (dl_not M 7 he (by omega))
        have HE := Lib.hid he
        have hq' : (M.ct == 8) = true := beq_iff_eq.2 hq
        clear h he hg hq
        go_enter Try.func23, Try.ntmps23
        go_wp2_with fail
        refine (HC.out _).mono ?_
        rintro e w1 ⟨rfl, hb⟩
        obtain ⟨hc, hf⟩ := bcell hb
        have hz := hb.size
        simp at hz
        have hlt : w.heap.size < w.heap.size + 1 + 1 := by omega
        have hz0 : w.heap.size < w1.heap.size := by omega
        have HB1 := Lib.hid ((((Below.refl w.heap.size w).alloc (Nat.le_refl _) _).alloc (by simp) _).trans (hb.mono (by simp <;> omega)))
        clear hb
        go_wp2
        exact bodyPost_ret (v := .tuple #[.agg #[.int .i64 0, .int .i64 0, .int .i64 0, .int .i64 0, .int .i64 0, .int .i64 0, .string ByteArray.empty], .int .i64 7]) (by simp only [results, Try.results23]; go_simp <;> rfl) rfl ⟨by rw [HF.out, HE.out] <;> rfl, below7 HB1.out (by simp) _ _ _ _ _ _ _⟩
      · have he : dlE M = 0 := by unfold dlE; rw [if_pos h, if_neg hg, if_neg hq]
        have HF := Lib.hid (show dlM M = ⟨M.id, M.rt, M.ep, M.ct + 1, M.gn + 1, M.st, M.bd⟩ from if_pos he)
        have HE := Lib.hid he
        have hq' : (M.ct == 8) = false := beq_eq_false_iff_ne.2 hq
        obtain ⟨_, _, _, ⟨q0, q1⟩, ⟨g0, g1⟩, _, _⟩ := vf_ok h
        clear h he hg hq
        go_enter Try.func23, Try.ntmps23
        go_wp2_with fail
        refine (HC.out _).mono ?_
        rintro e w1 ⟨rfl, hb⟩
        obtain ⟨hc, hf⟩ := bcell hb
        have hz := hb.size
        simp at hz
        have hlt : w.heap.size < w.heap.size + 1 + 1 := by omega
        have hz0 : w.heap.size < w1.heap.size := by omega
        have HB1 := Lib.hid ((((Below.refl w.heap.size w).alloc (Nat.le_refl _) _).alloc (by simp) _).trans (hb.mono (by simp <;> omega)))
        clear hb
        go_wp2
        exact bodyPost_ret (v := .tuple #[Msg.v ⟨M.id, M.rt, M.ep, M.ct + 1, M.gn + 1, M.st, M.bd⟩, .int .i64 0]) (by simp only [results, Try.results23]; go_simp <;> rfl) rfl ⟨by rw [HF.out, HE.out] <;> rfl, below7 ((HB1.out.setCell (by simp) _).setCell (by simp) _) (by simp) _ _ _ _ _ _ _⟩
  · have he : dlE M = vf M := if_neg h
    have HF := Lib.hid (dl_not M _ he h)
    have HE := Lib.hid he
    have hne : (vf M != 0) = true := bne_iff_ne.2 h
    generalize vf M = k at *
    clear h he
    go_enter Try.func23, Try.ntmps23
    go_wp2_with fail
    refine (HC.out _).mono ?_
    rintro e w1 ⟨rfl, hb⟩
    obtain ⟨hc, hf⟩ := bcell hb
    have hz := hb.size
    simp at hz
    have hlt : w.heap.size < w.heap.size + 1 + 1 := by omega
    have hz0 : w.heap.size < w1.heap.size := by omega
    have HB1 := Lib.hid ((((Below.refl w.heap.size w).alloc (Nat.le_refl _) _).alloc (by simp) _).trans (hb.mono (by simp <;> omega)))
    clear hb
    go_wp2
    exact bodyPost_ret (v := .tuple #[.agg #[.int .i64 0, .int .i64 0, .int .i64 0, .int .i64 0, .int .i64 0, .int .i64 0, .string ByteArray.empty], .int .i64 k]) (by simp only [results, Try.results23]; go_simp <;> rfl) rfl ⟨by rw [HF.out, HE.out] <;> rfl, below7 HB1.out (by simp) _ _ _ _ _ _ _⟩

set_option maxHeartbeats 2000000 in
theorem rrevive_any (M : Msg) (w : World) : Calls Try.prog 25 #[M.v] w fun e w' => e = .returned (rvM M).v ∧ Below w.heap.size w w' := by
  have HB := Lib.hid (((Below.refl w.heap.size w).alloc (Nat.le_refl _) (.cells #[.int .i64 M.id, .int .i64 M.rt, .int .i64 M.ep, .int .i64 0, .int .i64 M.gn, .int .i64 M.st, .string M.bd] 23)).alloc (o := .cells #[.int .i64 M.id, .int .i64 M.rt, .int .i64 M.ep, .int .i64 0, .int .i64 M.gn, .int .i64 M.st, .string M.bd] 23) (by simp))
  go_enter Try.func25, Try.ntmps25
  go_wp2
  exact bodyPost_ret (v := Msg.v ⟨M.id, M.rt, M.ep, 0, M.gn, M.st, M.bd⟩) (by simp only [results, Try.results25]; go_simp <;> rfl) rfl ⟨rfl, by first | exact HB.out | exact below7 HB.out (by simp) _ _ _ _ _ _ _⟩

set_option maxHeartbeats 2000000 in
theorem rreroute_any (M : Msg) (l h : Int) (w : World) : Calls Try.prog 27 #[M.v, .int .i64 l, .int .i64 h] w fun e w' => e = .returned (roM M l h).v ∧ Below w.heap.size w w' := by
  have HC := Lib.hid (fun w => rinto_any M.rt l h w)
  have HF := Lib.hid (show roM M l h = ⟨M.id, intoF M.rt l h, M.ep, M.ct, M.gn, M.st, M.bd⟩ from rfl)
  generalize intoF M.rt l h = x at *
  go_enter Try.func27, Try.ntmps27
  go_wp2_with fail
  refine (HC.out _).mono ?_
  rintro e w1 ⟨rfl, rfl⟩
  have HB1 := Lib.hid (((Below.refl w.heap.size w).alloc (Nat.le_refl _) (.cells #[.int .i64 M.id, .int .i64 x, .int .i64 M.ep, .int .i64 M.ct, .int .i64 M.gn, .int .i64 M.st, .string M.bd] 23)).alloc (o := .cells #[.int .i64 M.id, .int .i64 x, .int .i64 M.ep, .int .i64 M.ct, .int .i64 M.gn, .int .i64 M.st, .string M.bd] 23) (by simp))
  go_wp2
  exact bodyPost_ret (v := Msg.v ⟨M.id, x, M.ep, M.ct, M.gn, M.st, M.bd⟩) (by simp only [results, Try.results27]; go_simp <;> rfl) rfl ⟨by rw [HF.out], by first | exact HB1.out | exact below7 HB1.out (by simp) _ _ _ _ _ _ _⟩
end Go.Proofs.Ytjiampelmiaflaa
