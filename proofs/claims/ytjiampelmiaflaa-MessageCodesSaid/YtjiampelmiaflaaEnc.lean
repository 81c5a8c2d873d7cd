/- What is proved here: message.Encode, by one contract for all arguments. -/
import Derived.Test.YtjiampelmiaflaaMed
import Derived.Test.YtjiampelmiaflaaOpv
import Derived.Test.YtjiampelmiaflaaTxt
namespace Go.Proofs.Ytjiampelmiaflaa
open Go.RowKit
set_option linter.unusedVariables false

set_option maxHeartbeats 1000000 in
theorem fields_any (M : Msg) (w : World) : Calls Try.prog 43 #[M.v] w fun e w' => e = .returned (.agg #[.int .i64 M.id, .int .i64 M.rt, .int .i64 M.ep, .int .i64 M.ct, .int .i64 M.gn, .int .i64 M.st]) ∧ Below w.heap.size w w' := by
  have HB := Lib.hid (((Below.refl w.heap.size w).alloc (Nat.le_refl _) (.cells M.cs 23)).alloc (o := .cells #[.int .i64 M.id, .int .i64 M.rt, .int .i64 M.ep, .int .i64 M.ct, .int .i64 M.gn, .int .i64 M.st] 58) (by simp))
  go_enter Try.func43, Try.ntmps43
  go_wp2
  exact bodyPost_ret (v := .agg #[.int .i64 M.id, .int .i64 M.rt, .int .i64 M.ep, .int .i64 M.ct, .int .i64 M.gn, .int .i64 M.st]) (by simp only [results, Try.results43]; go_simp <;> rfl) rfl ⟨rfl, HB.out⟩

theorem nth_index (M : Msg) : ∀ k : Nat, k < 6 → ∀ W, (Instr.index 58 (.agg #[.int .i64 M.id, .int .i64 M.rt, .int .i64 M.ep, .int .i64 M.ct, .int .i64 M.gn, .int .i64 M.st]) (.int .i64 k)).run Try.prog W = .ok (.int .i64 (M.nth k)) W := by
  obtain ⟨i, r, p, c, g, s, b⟩ := M
  intro k hk W
  match k, hk with
  | 0, _ => show (Instr.index 58 _ (.int .i64 (0 : Nat))).run Try.prog W = _; kernel_rfl
  | 1, _ => show (Instr.index 58 _ (.int .i64 (1 : Nat))).run Try.prog W = _; kernel_rfl
  | 2, _ => show (Instr.index 58 _ (.int .i64 (2 : Nat))).run Try.prog W = _; kernel_rfl
  | 3, _ => show (Instr.index 58 _ (.int .i64 (3 : Nat))).run Try.prog W = _; kernel_rfl
  | 4, _ => show (Instr.index 58 _ (.int .i64 (4 : Nat))).run Try.prog W = _; kernel_rfl
  | 5, _ => show (Instr.index 58 _ (.int .i64 (5 : Nat))).run Try.prog W = _; kernel_rfl

theorem encode_bad (M : Msg) (k : Int) (w : World) (h : vf M = k) (hk : k ≠ 0) : Calls Try.prog 29 #[M.v] w fun e w' => e = .returned (.tuple #[.slice none 0 0, .int .i64 k]) ∧ Below w.heap.size w w' := by
  have HC := Lib.hid (fun w => validate_any M w)
  rw [h] at HC
  have hne : (k != 0) = true := bne_iff_ne.2 hk
  have HB := Lib.hid ((Below.refl w.heap.size w).alloc (Nat.le_refl _) (.cells M.cs 23))
  clear h hk
  go_enter Try.func29, Try.ntmps29
  go_wp2_with fail
  refine (HC.out _).mono ?_
  rintro e w1 ⟨rfl, hb⟩
  have HB1 := Lib.hid (HB.out.trans (hb.mono HB.out.size))
  clear hb
  go_wp2
  go_ret2
  exact ⟨rfl, HB1.out⟩

set_option maxHeartbeats 4000000 in
theorem encode_ok (M : Msg) (w : World) (h : vf M = 0) : Calls Try.prog 29 #[M.v] w (Put2 w (encB M) 0) := by
  have HC := Lib.hid (fun w => validate_any M w)
  have HP := Lib.hid (fun k => pv_eb h k)
  have HQ := Lib.hid (fun k => nth_ok h k)
  have HX := Lib.hid (px_enc h)
  have HI := Lib.hid (nth_index M)
  rw [h] at HC
  have HB := Lib.hid ((Below.refl w.heap.size w).alloc (Nat.le_refl _) (.cells M.cs 23))
  clear h
  go_enter Try.func29, Try.ntmps29
  go_wp2_with fail
  refine (HC.out _).mono ?_
  rintro e w1 ⟨rfl, hb⟩
  obtain ⟨hc, hf⟩ := bcell hb
  have HB1 := Lib.hid (HB.out.trans (hb.mono HB.out.size))
  have hz := hb.size
  simp at hz
  have hz0 : w.heap.size < w1.heap.size := by omega
  clear hb
  go_wp2_with fail
  refine (fields_any M _).mono ?_
  rintro e w2 ⟨rfl, hb⟩
  have HB2 := Lib.hid (HB1.out.trans (hb.mono HB1.out.size))
  have hz2 := hb.size
  have hz3 : w.heap.size < w2.heap.size := by omega
  have h6 : w2.cell? ⟨w.heap.size, 6, none⟩ = some (.string M.bd) := by
    rw [hb.cell (p := ⟨w.heap.size, 6, none⟩) hz0, hc _ _ (by simp)]; simp [go_sem]
  have H6 := Lib.hid h6
  clear hb hc hf hz hz2 hz0 h6
  go_wp2
  go_loopw [5, 15] (fun b i wr => ∃ (k : Nat) (A : Option Addr) (c : Nat), k ≤ 6 ∧ i = .int .i64 k ∧ b = .slice A (eb M k).length c ∧ Bs wr wr.heap.size (.slice A (eb M k).length c) (eb M k) ∧ Below w.heap.size w wr ∧ w.heap.size < wr.heap.size ∧ wr.cell? ⟨w.heap.size, 6, none⟩ = some (.string M.bd)) (fun _ i _ => 6 - (intOf i).toNat)
  case atStart => exact ⟨0, none, 0, by omega, rfl, rfl, Bs.nil, HB2.out, hz3, H6.out⟩
  case round =>
    obtain ⟨k, A, c, hk, rfl, rfl, hbs, hbel, hsz, hcell⟩ := hrel
    have HS := Lib.hid hbs
    have HW := Lib.hid hbel
    have HG := Lib.hid hcell
    have HL := Lib.hid (eb_length M k)
    clear hbs hbel hcell
    by_cases hlt : k < 6
    · have hi := HI.out k hlt
      have HPK := Lib.hid (HP.out k)
      have HQK := Lib.hid (HQ.out k)
      generalize M.nth k = x at *
      have HV := Lib.hid (putvar_all A _ c (eb M k) x wr HS.out (by have := HL.out; omega))
      have HE := Lib.hid (show pvE x = 0 from if_pos (by have := HQK.out; omega))
      rw [HPK.out, HE.out] at HV
      go_wp2_with fail
      refine HV.out.mono ?_
      rintro e w3 ⟨v3, rfl, hb3, hw3⟩
      obtain ⟨A3, c3, rfl, _, _, _⟩ := (show _ from hb3)
      have HB3 := Lib.hid hb3
      have HW3 := Lib.hid (HW.out.trans (hw3.mono HW.out.size))
      have hsz3 : w.heap.size < w3.heap.size := by have := hw3.size; omega
      have HC3 := Lib.hid ((hw3.cell (p := ⟨w.heap.size, 6, none⟩) hsz).trans HG.out)
      clear hb3 hw3
      go_wp2
      go_roundw
      case rel => exact ⟨k + 1, A3, c3, by omega, by go_num, rfl, HB3.out, HW3.out, hsz3, HC3.out⟩
      case measure => simp [intOf]; omega
    · obtain rfl : k = 6 := by omega
      have HV := Lib.hid (puttext_all A _ c (eb M 6) M.bd 16 wr HS.out (by have := HL.out; omega))
      obtain ⟨e1, e2⟩ := HX.out
      rw [e1, e2] at HV
      have hcell := HG.out
      clear e1 e2
      go_wp2_with fail
      refine HV.out.mono ?_
      rintro e w3 ⟨v3, rfl, hb3, hw3⟩
      have HB3 := Lib.hid hb3
      have HW3 := Lib.hid (HW.out.trans (hw3.mono HW.out.size))
      clear hb3 hw3
      go_wp2
      go_ret2
      exact ⟨v3, rfl, HB3.out, HW3.out⟩

/-- Encode of any message. -/
theorem encode_any (M : Msg) (w : World) : Calls Try.prog 29 #[M.v] w (Put2 w (encF M) (vf M)) := by
  by_cases h : vf M = 0
  · rw [show encF M = encB M from if_pos h, h]; exact encode_ok M w h
  · refine (encode_bad M _ w rfl h).mono fun e w' ⟨he, hb⟩ => ⟨_, he, ?_, hb⟩
    rw [show encF M = [] from if_neg h]; exact Bs.nil
end Go.Proofs.Ytjiampelmiaflaa
