/- What is proved here: checked, New, Purged, Spent, Receivable, Deliver, Revive, Reroute of message and their references, each by one contract for all arguments. -/
import Derived.Test.YtjiampelmiaflaaMsg
import Derived.Test.YtjiampelmiaflaaIto
import Derived.Test.YtjiampelmiaflaaRin
namespace Go.Proofs.Ytjiampelmiaflaa
open Go.RowKit
set_option linter.unusedVariables false

theorem bcell {W w1 : World} (hb : Below W.heap.size W w1) : (∀ b o, b < W.heap.size → w1.cell? ⟨b, o, none⟩ = W.cell? ⟨b, o, none⟩) ∧ (∀ b o, b < W.heap.size → w1.frozen? ⟨b, o, none⟩ = W.frozen? ⟨b, o, none⟩) :=
  ⟨fun b o h => hb.cell (p := ⟨b, o, none⟩) h, fun b o h => hb.frozen (p := ⟨b, o, none⟩) h⟩

theorem below7 {B : Nat} {w w' : World} (h : Below B w w') {b : Nat} (hb : B ≤ b) (v0 v1 v2 v3 v4 v5 v6 : Value) :
    Below B w (((((((w'.setCell ⟨b, 0, none⟩ v0).setCell ⟨b, 1, none⟩ v1).setCell ⟨b, 2, none⟩ v2).setCell ⟨b, 3, none⟩ v3).setCell ⟨b, 4, none⟩ v4).setCell ⟨b, 5, none⟩ v5).setCell ⟨b, 6, none⟩ v6) :=
  ((((((h.setCell hb _).setCell hb _).setCell hb _).setCell hb _).setCell hb _).setCell hb _).setCell hb _

def zM : Msg := ⟨0, 0, 0, 0, 0, 0, ByteArray.empty⟩
/-- What checked returns. -/
def ckM (M : Msg) : Msg := if vf M = 0 then M else zM

theorem vf_ok {M : Msg} (h : vf M = 0) : (1 ≤ M.id ∧ M.id ≤ 1073741824) ∧ (0 ≤ M.rt ∧ M.rt ≤ 65535) ∧ (0 ≤ M.ep ∧ M.ep ≤ 65536) ∧ (0 ≤ M.ct ∧ M.ct ≤ 8) ∧ (M.ct ≤ M.gn ∧ M.gn ≤ 65536) ∧ (0 ≤ M.st ∧ M.st ≤ 1073741824) ∧ M.bd.size ≤ 16 := by
  unfold vf at h
  by_cases hh : hv M = true
  · rw [if_pos hh] at h
    by_cases h6 : (16 : Int) < (M.bd.size : Int)
    · rw [if_pos h6] at h; omega
    · unfold hv at hh
      simp only [Bool.and_eq_true] at hh
      obtain ⟨h0, h1, h2, h3, h4, h5⟩ := hh
      exact ⟨wi_of h0, wi_of h1, wi_of h2, wi_of h3, wi_of h4, wi_of h5, by omega⟩
  · rw [if_neg hh] at h; omega
theorem ok_vf {M : Msg} (h : (1 ≤ M.id ∧ M.id ≤ 1073741824) ∧ (0 ≤ M.rt ∧ M.rt ≤ 65535) ∧ (0 ≤ M.ep ∧ M.ep ≤ 65536) ∧ (0 ≤ M.ct ∧ M.ct ≤ 8) ∧ (M.ct ≤ M.gn ∧ M.gn ≤ 65536) ∧ (0 ≤ M.st ∧ M.st ≤ 1073741824) ∧ M.bd.size ≤ 16) : vf M = 0 := by
  obtain ⟨⟨a0, a1⟩, ⟨b0, b1⟩, ⟨c0, c1⟩, ⟨d0, d1⟩, ⟨e0, e1⟩, ⟨f0, f1⟩, g⟩ := h
  unfold vf hv
  rw [wi_true a0 a1, wi_true b0 b1, wi_true c0 c1, wi_true d0 d1, wi_true e0 e1, wi_true f0 f1]
  simp
  omega
theorem vf_012 (M : Msg) : vf M = 0 ∨ vf M = 1 ∨ vf M = 2 := by
  unfold vf
  split
  · split
    · exact .inr (.inr rfl)
    · exact .inl rfl
  · exact .inr (.inl rfl)

set_option maxHeartbeats 1000000 in
theorem checked_any (M : Msg) (w : World) : Calls Try.prog 35 #[M.v] w fun e w' => e = .returned (.tuple #[(ckM M).v, .int .i64 (vf M)]) ∧ Below w.heap.size w w' := by
  have HC := Lib.hid (fun w => validate_any M w)
  by_cases h : vf M = 0
  · have HF := Lib.hid (show ckM M = M from if_pos h)
    rw [h] at HC ⊢
    clear h
    go_enter Try.func35, Try.ntmps35
    go_wp2_with fail
    refine (HC.out _).mono ?_
    rintro e w1 ⟨rfl, hb⟩
    obtain ⟨hc, hf⟩ := bcell hb
    have hz := hb.size
    simp at hz
    have hlt : w.heap.size < w.heap.size + 1 + 1 := by omega
    have hz0 : w.heap.size < w1.heap.size := by omega
    have HB1 := Lib.hid ((((Below.refl w.heap.size w).alloc (Nat.le_refl _) _).alloc (by simp) _).trans (hb.mono (by simp <;> omega)))
    clear hb
    go_wp2
    exact bodyPost_ret (v := .tuple #[M.v, .int .i64 0]) (by simp only [results, Try.results35]; go_simp <;> rfl) rfl ⟨by rw [HF.out], below7 HB1.out (by simp) _ _ _ _ _ _ _⟩
  · have HF := Lib.hid (show ckM M = zM from if_neg h)
    have hne : (vf M != 0) = true := bne_iff_ne.2 h
    generalize vf M = k at *
    clear h
    go_enter Try.func35, Try.ntmps35
    go_wp2_with fail
    refine (HC.out _).mono ?_
    rintro e w1 ⟨rfl, hb⟩
    obtain ⟨hc, hf⟩ := bcell hb
    have hz := hb.size
    simp at hz
    have hlt : w.heap.size < w.heap.size + 1 + 1 := by omega
    have hz0 : w.heap.size < w1.heap.size := by omega
    have HB1 := Lib.hid ((((Below.refl w.heap.size w).alloc (Nat.le_refl _) _).alloc (by simp) _).trans (hb.mono (by simp <;> omega)))
    clear hb
    go_wp2
    exact bodyPost_ret (v := .tuple #[.agg #[.int .i64 0, .int .i64 0, .int .i64 0, .int .i64 0, .int .i64 0, .int .i64 0, .string ByteArray.empty], .int .i64 k]) (by simp only [results, Try.results35]; go_simp <;> rfl) rfl ⟨by rw [HF.out]; rfl, below7 HB1.out (by simp) _ _ _ _ _ _ _⟩

set_option maxHeartbeats 1000000 in
theorem new_any (i r p s : Int) (b : ByteArray) (w : World) : Calls Try.prog 8 #[.int .i64 i, .int .i64 r, .int .i64 p, .int .i64 s, .string b] w fun e w' => e = .returned (.tuple #[(ckM ⟨i, r, p, 0, 0, s, b⟩).v, .int .i64 (vf ⟨i, r, p, 0, 0, s, b⟩)]) ∧ Below w.heap.size w w' := by
    have HC := Lib.hid (fun w => checked_any ⟨i, r, p, 0, 0, s, b⟩ w)
    generalize ckM ⟨i, r, p, 0, 0, s, b⟩ = M at *
    generalize vf ⟨i, r, p, 0, 0, s, b⟩ = k at *
    go_enter Try.func8, Try.ntmps8
    go_wp2_with fail
    refine (HC.out _).mono ?_
    rintro e w1 ⟨rfl, hb⟩
    obtain ⟨hc, hf⟩ := bcell hb
    have hz := hb.size
    simp at hz
    have hlt : w.heap.size < w.heap.size + 1 + 1 := by omega
    have hz0 : w.heap.size < w1.heap.size := by omega
    have HB1 := Lib.hid (((Below.refl w.heap.size w).alloc (Nat.le_refl _) _).trans (hb.mono (by simp <;> omega)))
    clear hb
    go_wp2
    exact bodyPost_ret (v := .tuple #[M.v, .int .i64 k]) (by simp only [results, Try.results8]; go_simp <;> rfl) rfl ⟨rfl, below7 HB1.out (by simp) _ _ _ _ _ _ _⟩

set_option maxHeartbeats 1000000 in
theorem rnew_any (i r p s : Int) (b : ByteArray) (w : World) : Calls Try.prog 9 #[.int .i64 i, .int .i64 r, .int .i64 p, .int .i64 s, .string b] w fun e w' => e = .returned (.tuple #[(ckM ⟨i, r, p, 0, 0, s, b⟩).v, .int .i64 (vf ⟨i, r, p, 0, 0, s, b⟩)]) ∧ Below w.heap.size w w' := by
  have HC := Lib.hid (fun w => rvalidate_any ⟨i, r, p, 0, 0, s, b⟩ w)
  by_cases h : vf ⟨i, r, p, 0, 0, s, b⟩ = 0
  · have HF := Lib.hid (show ckM ⟨i, r, p, 0, 0, s, b⟩ = ⟨i, r, p, 0, 0, s, b⟩ from if_pos h)
    rw [h] at HC ⊢
    clear h
    go_enter Try.func9, Try.ntmps9
    go_wp2_with fail
    refine (HC.out _).mono ?_
    rintro e w1 ⟨rfl, hb⟩
    obtain ⟨hc, hf⟩ := bcell hb
    have hz := hb.size
    simp at hz
    have hlt : w.heap.size < w.heap.size + 1 + 1 := by omega
    have hz0 : w.heap.size < w1.heap.size := by omega
    have HB1 := Lib.hid ((((Below.refl w.heap.size w).alloc (Nat.le_refl _) _).alloc (by simp) _).trans (hb.mono (by simp <;> omega)))
    clear hb
    go_wp2
    exact bodyPost_ret (v := .tuple #[Msg.v ⟨i, r, p, 0, 0, s, b⟩, .int .i64 0]) (by simp only [results, Try.results9]; go_simp <;> rfl) rfl ⟨by rw [HF.out], below7 HB1.out (by simp) _ _ _ _ _ _ _⟩
  · have HF := Lib.hid (show ckM ⟨i, r, p, 0, 0, s, b⟩ = zM from if_neg h)
    have hne : (vf ⟨i, r, p, 0, 0, s, b⟩ != 0) = true := bne_iff_ne.2 h
    generalize vf ⟨i, r, p, 0, 0, s, b⟩ = k at *
    clear h
    go_enter Try.func9, Try.ntmps9
    go_wp2_with fail
    refine (HC.out _).mono ?_
    rintro e w1 ⟨rfl, hb⟩
    obtain ⟨hc, hf⟩ := bcell hb
    have hz := hb.size
    simp at hz
    have hlt : w.heap.size < w.heap.size + 1 + 1 := by omega
    have hz0 : w.heap.size < w1.heap.size := by omega
    have HB1 := Lib.hid ((((Below.refl w.heap.size w).alloc (Nat.le_refl _) _).alloc (by simp) _).trans (hb.mono (by simp <;> omega)))
    clear hb
    go_wp2
    exact bodyPost_ret (v := .tuple #[.agg #[.int .i64 0, .int .i64 0, .int .i64 0, .int .i64 0, .int .i64 0, .int .i64 0, .string ByteArray.empty], .int .i64 k]) (by simp only [results, Try.results9]; go_simp <;> rfl) rfl ⟨by rw [HF.out]; rfl, below7 HB1.out (by simp) _ _ _ _ _ _ _⟩

end Go.Proofs.Ytjiampelmiaflaa
