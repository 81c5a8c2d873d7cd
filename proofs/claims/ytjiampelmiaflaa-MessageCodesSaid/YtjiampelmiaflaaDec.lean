/- What is proved here: message.Decode, by one contract for all arguments. -/
import Derived.Test.YtjiampelmiaflaaMdd
import Derived.Test.YtjiampelmiaflaaPlc
import Derived.Test.YtjiampelmiaflaaGvr
import Derived.Test.YtjiampelmiaflaaGtx
namespace Go.Proofs.Ytjiampelmiaflaa
open Go.RowKit
set_option linter.unusedVariables false

def plv (g : Nat) : Value := .agg #[.pointer (some ⟨g, 0, none⟩), .pointer (some ⟨g, 1, none⟩), .pointer (some ⟨g, 2, none⟩), .pointer (some ⟨g, 3, none⟩), .pointer (some ⟨g, 4, none⟩), .pointer (some ⟨g, 5, none⟩)]
theorem plv_index (g : Nat) : ∀ k : Nat, k < 6 → ∀ W, (Instr.index 64 (plv g) (.int .i64 k)).run Try.prog W = .ok (.pointer (some ⟨g, k, none⟩)) W := by
  intro k hk W
  match k, hk with
  | 0, _ => show (Instr.index 64 (plv g) (.int .i64 (0 : Nat))).run Try.prog W = _; kernel_rfl
  | 1, _ => show (Instr.index 64 (plv g) (.int .i64 (1 : Nat))).run Try.prog W = _; kernel_rfl
  | 2, _ => show (Instr.index 64 (plv g) (.int .i64 (2 : Nat))).run Try.prog W = _; kernel_rfl
  | 3, _ => show (Instr.index 64 (plv g) (.int .i64 (3 : Nat))).run Try.prog W = _; kernel_rfl
  | 4, _ => show (Instr.index 64 (plv g) (.int .i64 (4 : Nat))).run Try.prog W = _; kernel_rfl
  | 5, _ => show (Instr.index 64 (plv g) (.int .i64 (5 : Nat))).run Try.prog W = _; kernel_rfl

theorem places_all (g : Nat) (w : World) (hg : g < w.heap.size) : Calls Try.prog 49 #[.pointer (some ⟨g, 0, none⟩)] w fun e w' => e = .returned (plv g) ∧ Below w.heap.size w w' := places_any g w hg

set_option maxHeartbeats 8000000 in
set_option maxRecDepth 20000 in
theorem decode_any (A : Option Addr) (l c : Nat) (bs : List UInt8) (w : World) (hv : Bs w w.heap.size (.slice A l c) bs) (hl : l ≤ 1099511627776) :
    Calls Try.prog 33 #[.slice A l c] w (DcEnd w bs) := by
  obtain ⟨rfl, _, _⟩ := hv.len
  have hL : (bs.length : Int) ≤ 1099511627776 := by omega
  obtain ⟨g, hg⟩ : ∃ g, g = w.heap.size := ⟨_, rfl⟩
  have hm2 := (MAt.fresh (f := fun _ => 0) w 0 0 0 0 0 0 ByteArray.empty 23 rfl rfl rfl rfl rfl rfl).alloc (.cells #[.int .i64 0, .int .i64 0, .int .i64 0, .int .i64 0, .int .i64 0, .int .i64 0, .string ByteArray.empty] 23)
  have hm4 := MAt.fresh (f := fun _ => 0) (w.alloc (.cells #[.int .i64 0, .int .i64 0, .int .i64 0, .int .i64 0, .int .i64 0, .int .i64 0, .string ByteArray.empty] 23)) 0 0 0 0 0 0 ByteArray.empty 23 rfl rfl rfl rfl rfl rfl
  have hB2 := ((Below.refl w.heap.size w).alloc (Nat.le_refl _) (.cells #[.int .i64 0, .int .i64 0, .int .i64 0, .int .i64 0, .int .i64 0, .int .i64 0, .string ByteArray.empty] 23)).alloc (o := .cells #[.int .i64 0, .int .i64 0, .int .i64 0, .int .i64 0, .int .i64 0, .int .i64 0, .string ByteArray.empty] 23) (by simp)
  rw [show (w.alloc (.cells #[.int .i64 0, .int .i64 0, .int .i64 0, .int .i64 0, .int .i64 0, .int .i64 0, .string ByteArray.empty] 23)).heap.size = w.heap.size + 1 by simp] at hm4
  have HP := Lib.hid (places_all (w.heap.size + 1) ((w.alloc (.cells #[.int .i64 0, .int .i64 0, .int .i64 0, .int .i64 0, .int .i64 0, .int .i64 0, .string ByteArray.empty] 23)).alloc (.cells #[.int .i64 0, .int .i64 0, .int .i64 0, .int .i64 0, .int .i64 0, .int .i64 0, .string ByteArray.empty] 23)) (by simp))
  have HM2 := Lib.hid hm2
  have HM4 := Lib.hid hm4
  have HB2 := Lib.hid hB2
  have HV := Lib.hid hv
  have HI := Lib.hid (plv_index (w.heap.size + 1))
  have HG := Lib.hid hg
  generalize hpv : plv (w.heap.size + 1) = pv at *
  clear hv hl hm2 hm4 hB2 hpv hg
  go_enter Try.func33, Try.ntmps33
  go_wp2_with fail
  refine HP.out.mono ?_
  rintro e w3 ⟨rfl, hb⟩
  have HM2 := Lib.hid (HM2.out.below hb (by simp <;> omega))
  have HM4 := Lib.hid (HM4.out.below hb (by simp))
  have HB3 := Lib.hid (HB2.out.trans (hb.mono HB2.out.size))
  clear hb
  go_wp2
  rw [← HG.out]
  rw [← HG.out] at HM2 HM4 HI
  go_loopw [5, 15] (fun a i wr => ∃ (k : Nat) (f : Nat → Int) (at_ : Int), k ≤ 6 ∧ i = .int .i64 k ∧ a = .int .i64 at_ ∧ rdN bs k = some (f, at_) ∧ MAt wr g (fun _ => 0) ByteArray.empty ∧ MAt wr (g + 1) f ByteArray.empty ∧ Below g w wr) (fun _ i _ => 6 - (intOf i).toNat)
  case atStart => exact ⟨0, _, _, by omega, rfl, rfl, rfl, HM2.out, HM4.out, by rw [HG.out]; exact HB3.out⟩
  case round =>
    obtain ⟨k, f, at_, hk, rfl, rfl, hr, hm2, hm4, hbel⟩ := hrel
    have HR := Lib.hid hr
    have HN2 := Lib.hid hm2
    have HN4 := Lib.hid hm4
    have HW := Lib.hid hbel
    have HS := Lib.hid ((HV.out.below (HG.out ▸ hbel)).more (HG.out ▸ hbel).size)
    have hpos := rd_pos bs k f at_ hr
    obtain ⟨hp0, hp1⟩ := hpos
    obtain ⟨⟨a0, a1, a2, a3, a4, a5, a6⟩, b0, b1, b2, b3, b4, b5, b6⟩ := hm2.facts
    clear hr hbel
    by_cases hlt : k < 6
    · have hi := HI.out k hlt
      have hck := hm4.2.1 k hlt
      have hfk := hm4.2.2.2 k (by omega)
      have HC := Lib.hid (getvar_all A _ c bs at_ wr HS.out (by omega) (by omega))
      have HS1 := Lib.hid (fun h => rd_succ bs k f at_ HR.out h)
      have HS2 := Lib.hid (fun h => rd_stop bs k f at_ HR.out h)
      clear hm2 hm4
      obtain ⟨n, hn⟩ : ∃ n, n = (gvR at_ bs).1 := ⟨_, rfl⟩
      obtain ⟨x, hx⟩ : ∃ x, x = (gvR at_ bs).2.1 := ⟨_, rfl⟩
      obtain ⟨e0, he⟩ : ∃ e0, e0 = (gvR at_ bs).2.2 := ⟨_, rfl⟩
      rw [← hn, ← hx] at HS1
      rw [← he] at HS1 HS2
      rw [← hn, ← hx, ← he] at HC
      clear hn hx he
      by_cases h0 : e0 = 0
      · subst h0
        have HS3 := Lib.hid (HS1.out rfl)
        clear HS2 HS1
        go_wp2_with fail
        refine HC.out.mono ?_
        rintro e w4 ⟨rfl, rfl⟩
        go_wp2
        go_roundw
        case rel => exact ⟨k + 1, _, x, by omega, by go_num, rfl, HS3.out, HN2.out.other (by simp) _, HN4.out.put k hlt n, HW.out.setCell (by simp) _⟩
        case measure => simp [intOf]; omega
      · have hne : (e0 != 0) = true := bne_iff_ne.2 h0
        have HS2 := Lib.hid (dec_none bs k hlt (HS2.out h0))
        clear HS1 h0
        go_wp2_with fail
        refine HC.out.mono ?_
        rintro e w4 ⟨rfl, rfl⟩
        go_wp2
        exact bodyPost_ret (v := .tuple #[.agg #[.int .i64 0, .int .i64 0, .int .i64 0, .int .i64 0, .int .i64 0, .int .i64 0, .string ByteArray.empty], .int .i64 8]) (by simp only [results, Try.results33]; go_simp <;> rfl) rfl (dc_bad HS2.out (below7 (HG.out ▸ HW.out) (by rw [HG.out]; exact Nat.le_refl _) _ _ _ _ _ _ _))
    · obtain rfl : k = 6 := by omega
      have HC := Lib.hid (gettext_all A _ c bs at_ 16 wr HS.out (by omega))
      have HS1 := Lib.hid (fun h => dec_all bs f at_ HR.out h)
      have HS2 := Lib.hid (fun h => dec_text bs f at_ HR.out h)
      obtain ⟨⟨c0, c1, c2, c3, c4, c5, c6⟩, d0, d1, d2, d3, d4, d5, d6⟩ := hm4.facts
      have HNB := Lib.hid (fun s => hm4.body s)
      clear hm2 hm4
      obtain ⟨s, hs⟩ : ∃ s, s = (gxS at_ 16 bs).1 := ⟨_, rfl⟩
      obtain ⟨x, hx⟩ : ∃ x, x = (gxS at_ 16 bs).2.1 := ⟨_, rfl⟩
      obtain ⟨e0, he⟩ : ∃ e0, e0 = (gxS at_ 16 bs).2.2 := ⟨_, rfl⟩
      rw [← hs, ← hx, ← he] at HS1
      rw [← hx, ← he] at HS2
      rw [← hs, ← hx, ← he] at HC
      clear hs hx he
      by_cases h0 : e0 = 0
      · by_cases h1 : x = (bs.length : Int)
        · have HS3 := Lib.hid (HS1.out ⟨h0, h1⟩)
          clear HS1 HS2
          subst h0
          have h1' : (x != (bs.length : Int)) = false := by rw [h1]; simp
          have HK := Lib.hid (fun w => checked_any ⟨f 0, f 1, f 2, f 3, f 4, f 5, s⟩ w)
          generalize ckM ⟨f 0, f 1, f 2, f 3, f 4, f 5, s⟩ = M at *
          generalize vf ⟨f 0, f 1, f 2, f 3, f 4, f 5, s⟩ = r at *
          have hgs : g < (wr.setCell ⟨g + 1, 6, none⟩ (.string s)).heap.size := (HN2.out.other (p := ⟨g + 1, 6, none⟩) (by simp) (.string s)).1
          have HGS := Lib.hid hgs
          have HW6 := Lib.hid ((HG.out ▸ HW.out : Below w.heap.size w wr).setCell (p := ⟨g + 1, 6, none⟩) (by rw [HG.out]; simp) (.string s))
          clear h1 hgs
          go_wp2_with fail
          refine HC.out.mono ?_
          rintro e w4 ⟨rfl, rfl⟩
          go_wp2_with fail
          refine (HK.out _).mono ?_
          rintro e w5 ⟨rfl, hb⟩
          have HM5 := Lib.hid (((HN2.out.other (p := ⟨g + 1, 6, none⟩) (by simp) (.string s)).below hb HGS.out))
          obtain ⟨⟨p0, p1, p2, p3, p4, p5, p6⟩, q0, q1, q2, q3, q4, q5, q6⟩ := HM5.out.facts
          have HW5 := Lib.hid (HW6.out.trans (hb.mono HW6.out.size))
          clear hb a0 a1 a2 a3 a4 a5 a6 b0 b1 b2 b3 b4 b5 b6
          go_wp2
          exact bodyPost_ret (v := .tuple #[M.v, .int .i64 r]) (by simp only [results, Try.results33]; go_simp <;> rfl) rfl (dc_ok M r HS3.out (below7 HW5.out (by rw [HG.out]; exact Nat.le_refl _) _ _ _ _ _ _ _))
        · have HS4 := Lib.hid (HS2.out (fun h => h1 h.2))
          subst h0
          have h1' : (x != (bs.length : Int)) = true := bne_iff_ne.2 h1
          clear h1 HS1 HS2
          go_wp2_with fail
          refine HC.out.mono ?_
          rintro e w4 ⟨rfl, rfl⟩
          go_wp2
          exact bodyPost_ret (v := .tuple #[.agg #[.int .i64 0, .int .i64 0, .int .i64 0, .int .i64 0, .int .i64 0, .int .i64 0, .string ByteArray.empty], .int .i64 8]) (by simp only [results, Try.results33]; go_simp <;> rfl) rfl (dc_bad HS4.out (below7 (HG.out ▸ HW.out) (by rw [HG.out]; exact Nat.le_refl _) _ _ _ _ _ _ _))
      · have HS2 := Lib.hid (HS2.out (fun h => h0 h.1))
        have h0' : (e0 != 0) = true := bne_iff_ne.2 h0
        clear h0 HS1
        go_wp2_with fail
        refine HC.out.mono ?_
        rintro e w4 ⟨rfl, rfl⟩
        go_wp2
        exact bodyPost_ret (v := .tuple #[.agg #[.int .i64 0, .int .i64 0, .int .i64 0, .int .i64 0, .int .i64 0, .int .i64 0, .string ByteArray.empty], .int .i64 8]) (by simp only [results, Try.results33]; go_simp <;> rfl) rfl (dc_bad HS2.out (below7 (HG.out ▸ HW.out) (by rw [HG.out]; exact Nat.le_refl _) _ _ _ _ _ _ _))
end Go.Proofs.Ytjiampelmiaflaa
