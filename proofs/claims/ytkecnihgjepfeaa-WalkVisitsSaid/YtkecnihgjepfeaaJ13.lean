/- What is proved here: ref10.Apply by a contract. -/
import Derived.Test.YtkecnihgjepfeaaJ09
import Derived.Deep.QuietTactic
import Derived.BigQuiet
import Derived.Test.YtkecnihgjepfeaaJ10
import Derived.Test.YtkecnihgjepfeaaJ11
import Derived.Test.YtkecnihgjepfeaaJ12
namespace Go.Proofs.Ytkecnihgjepfeaa
open Go.RowKit
set_option linter.unusedVariables false

set_option maxHeartbeats 16000000 in
set_option maxRecDepth 20000 in
theorem rapply10_any (d : Dd) (X : Dx) (e : Ed) (w : World) (hd : DR w w.heap.size d X) (hl : d.l.length ≤ 90) :
    Calls Try.prog 22 #[dv d X, e.v] w (DE w.heap.size w (apD d e) (apE d e)) := by
  have H0 := Lib.hid (Ab.start d X e hd)
  have HVA := Lib.hid (fun p q r W (k : Ab w p q r d X e W) => rvalid10_any d X W k.da.dr)
  have HHL := Lib.hid hl
  have HDR := Lib.hid hd
  obtain ⟨p, hp⟩ : ∃ p, p = w.heap.size := ⟨_, rfl⟩
  obtain ⟨q, hq⟩ : ∃ q, q = w.heap.size + 1 := ⟨_, rfl⟩
  obtain ⟨r, hr⟩ : ∃ r, r = w.heap.size + 1 + 1 := ⟨_, rfl⟩
  have HPP := Lib.hid (show (p = w.heap.size ∧ q = w.heap.size + 1 ∧ r = w.heap.size + 1 + 1) ∧ (¬ p = q ∧ ¬ q = p ∧ ¬ p = r ∧ ¬ r = p ∧ ¬ q = r ∧ ¬ r = q) by omega)
  obtain ⟨R, hR⟩ : ∃ R, R = apD d e := ⟨_, rfl⟩
  obtain ⟨x, hx⟩ : ∃ x, x = apE d e := ⟨_, rfl⟩
  rw [← hR, ← hx]
  have HRX := Lib.hid (And.intro hR hx)
  clear hR hx hp hq hr hd hl
  by_cases hv : vaD d = 0
  · rw [hv] at HVA
    by_cases h6 : d.vn = 1099511627776
    · have HRE := Lib.hid (show x = 6 ∧ R = zD10 from by
        have h7 : apE d e = 6 := by rw [apE_N (by rw [apN_6 hv h6]; decide), apN_6 hv h6]
        exact ⟨HRX.out.2.trans h7, by rw [HRX.out.1, apD_no (by rw [h7]; decide)]⟩)
      have h6' : (d.vn == 1099511627776) = true := by simpa using h6
      clear hv h6
      go_enter Try.func22, Try.ntmps22
      go_wp2_with fail
      have H0 := Lib.hid (show Ab w p q r d X e (((w.alloc (.cells #[.int .i64 d.vn, .slice X.A d.l.length X.c, .slice X.A2 d.F.length X.c2] 40)).alloc (.cells #[.int .i64 e.kd, .int .i64 e.fr, .int .i64 e.to, .int .i64 e.md] 55)).alloc (.cells #[.int .i64 0, .slice none 0 0, .slice none 0 0] 40)) from by rw [HPP.out.1.1, HPP.out.1.2.1, HPP.out.1.2.2]; exact H0.out)
      rw [← HPP.out.1.2.2, ← HPP.out.1.2.1, ← HPP.out.1.1]
      generalize ((w.alloc (.cells #[.int .i64 d.vn, .slice X.A d.l.length X.c, .slice X.A2 d.F.length X.c2] 40)).alloc (.cells #[.int .i64 e.kd, .int .i64 e.fr, .int .i64 e.to, .int .i64 e.md] 55)).alloc (.cells #[.int .i64 0, .slice none 0 0, .slice none 0 0] 40) = w0 at *
      refine (HVA.out _ _ _ _ H0.out).mono ?_
      rintro e1 w1 ⟨rfl, hb⟩
      have H1 := Lib.hid (H0.out.below hb)
      clear hb H0 HVA
      obtain ⟨x0, x1, x2, -, xl⟩ := H1.out.da.db
      obtain ⟨y0, y1, y2, y3, yl⟩ := H1.out.eb
      obtain ⟨⟨r0, r1, r2, rl⟩, g0, g1, g2⟩ := H1.out.rb.all
      have HO := Lib.hid (H1.out.out0 6)
      go_wp2
      exact bodyPost_ret (v := .tuple #[.agg #[.int .i64 0, .slice none 0 0, .slice none 0 0], .int .i64 6]) (by simp only [results, Try.results22]; go_simp <;> rfl) rfl (by rw [HRE.out.1, HRE.out.2]; exact HO.out)
    · have h6' : (d.vn == 1099511627776) = false := by simpa using h6
      by_cases hk : e.kd = 1 ∨ e.kd = 2
      · have hkk : (e.kd != 1) = false ∨ ((e.kd != 1) = true ∧ (e.kd != 2) = false) := by
          rcases hk with h | h
          · left; simpa using h
          · right; rw [h]; decide
        by_cases hs : slotP d.F.length e.fr ∧ slotP d.F.length e.to
        · rw [HRX.out.1, HRX.out.2]
          rcases hk with hk | hk
          · exact rap_split d X e w HDR.out HHL.out hv h6 hk hs
          · by_cases hcs : ixS d.l e.fr - ixS d.l e.to = 1
            · exact rap_me1 d X e w HDR.out HHL.out hv h6 hk hs hcs
            · exact rap_me2 d X e w HDR.out HHL.out hv h6 hk hs hcs
        · have HRE := Lib.hid (show x = 4 ∧ R = zD10 from by
            have h7 : apE d e = 4 := by
              have h8 : apN d e = 4 := apN_4 hv h6 hk (by
                by_cases h : slotP d.F.length e.fr
                · exact .inr (fun g => hs ⟨h, g⟩)
                · exact .inl h)
              rw [apE_N (by rw [h8]; decide), h8]
            exact ⟨HRX.out.2.trans h7, by rw [HRX.out.1, apD_no (by rw [h7]; decide)]⟩)
          have hw : e.fr < 0 ∨ (0 ≤ e.fr ∧ (d.F.length : Int) ≤ e.fr) ∨ (0 ≤ e.fr ∧ e.fr < (d.F.length : Int) ∧ e.to < 0) ∨ (0 ≤ e.fr ∧ e.fr < (d.F.length : Int) ∧ 0 ≤ e.to ∧ (d.F.length : Int) ≤ e.to) := by
            unfold slotP at hs
            omega
          clear hv h6 hk hs
          rcases hkk with k1 | ⟨k1, k2⟩
          all_goals
            rcases hw with s1 | ⟨s1, s2⟩ | ⟨s1, s2, s3⟩ | ⟨s1, s2, s3, s4⟩
            all_goals
              go_enter Try.func22, Try.ntmps22
              go_wp2_with fail
              have H0 := Lib.hid (show Ab w p q r d X e (((w.alloc (.cells #[.int .i64 d.vn, .slice X.A d.l.length X.c, .slice X.A2 d.F.length X.c2] 40)).alloc (.cells #[.int .i64 e.kd, .int .i64 e.fr, .int .i64 e.to, .int .i64 e.md] 55)).alloc (.cells #[.int .i64 0, .slice none 0 0, .slice none 0 0] 40)) from by rw [HPP.out.1.1, HPP.out.1.2.1, HPP.out.1.2.2]; exact H0.out)
              rw [← HPP.out.1.2.2, ← HPP.out.1.2.1, ← HPP.out.1.1]
              generalize ((w.alloc (.cells #[.int .i64 d.vn, .slice X.A d.l.length X.c, .slice X.A2 d.F.length X.c2] 40)).alloc (.cells #[.int .i64 e.kd, .int .i64 e.fr, .int .i64 e.to, .int .i64 e.md] 55)).alloc (.cells #[.int .i64 0, .slice none 0 0, .slice none 0 0] 40) = w0 at *
              refine (HVA.out _ _ _ _ H0.out).mono ?_
              rintro e1 w1 ⟨rfl, hb⟩
              have H1 := Lib.hid (H0.out.below hb)
              clear hb H0 HVA
              obtain ⟨x0, x1, x2, -, xl⟩ := H1.out.da.db
              obtain ⟨y0, y1, y2, y3, yl⟩ := H1.out.eb
              obtain ⟨⟨r0, r1, r2, rl⟩, g0, g1, g2⟩ := H1.out.rb.all
              have HO := Lib.hid (H1.out.out0 4)
              go_wp2
              exact bodyPost_ret (v := .tuple #[.agg #[.int .i64 0, .slice none 0 0, .slice none 0 0], .int .i64 4]) (by simp only [results, Try.results22]; go_simp <;> rfl) rfl (by rw [HRE.out.1, HRE.out.2]; exact HO.out)
      · have HRE := Lib.hid (show x = 9 ∧ R = zD10 from by
          have h7 : apE d e = 9 := by rw [apE_N (by rw [apN_9 hv h6 (by omega)]; decide), apN_9 hv h6 (by omega)]
          exact ⟨HRX.out.2.trans h7, by rw [HRX.out.1, apD_no (by rw [h7]; decide)]⟩)
        have k1 : (e.kd != 1) = true := bne_iff_ne.2 (fun h => hk (.inl h))
        have k2 : (e.kd != 2) = true := bne_iff_ne.2 (fun h => hk (.inr h))
        clear hv h6 hk
        go_enter Try.func22, Try.ntmps22
        go_wp2_with fail
        have H0 := Lib.hid (show Ab w p q r d X e (((w.alloc (.cells #[.int .i64 d.vn, .slice X.A d.l.length X.c, .slice X.A2 d.F.length X.c2] 40)).alloc (.cells #[.int .i64 e.kd, .int .i64 e.fr, .int .i64 e.to, .int .i64 e.md] 55)).alloc (.cells #[.int .i64 0, .slice none 0 0, .slice none 0 0] 40)) from by rw [HPP.out.1.1, HPP.out.1.2.1, HPP.out.1.2.2]; exact H0.out)
        rw [← HPP.out.1.2.2, ← HPP.out.1.2.1, ← HPP.out.1.1]
        generalize ((w.alloc (.cells #[.int .i64 d.vn, .slice X.A d.l.length X.c, .slice X.A2 d.F.length X.c2] 40)).alloc (.cells #[.int .i64 e.kd, .int .i64 e.fr, .int .i64 e.to, .int .i64 e.md] 55)).alloc (.cells #[.int .i64 0, .slice none 0 0, .slice none 0 0] 40) = w0 at *
        refine (HVA.out _ _ _ _ H0.out).mono ?_
        rintro e1 w1 ⟨rfl, hb⟩
        have H1 := Lib.hid (H0.out.below hb)
        clear hb H0 HVA
        obtain ⟨x0, x1, x2, -, xl⟩ := H1.out.da.db
        obtain ⟨y0, y1, y2, y3, yl⟩ := H1.out.eb
        obtain ⟨⟨r0, r1, r2, rl⟩, g0, g1, g2⟩ := H1.out.rb.all
        have HO := Lib.hid (H1.out.out0 9)
        go_wp2
        exact bodyPost_ret (v := .tuple #[.agg #[.int .i64 0, .slice none 0 0, .slice none 0 0], .int .i64 9]) (by simp only [results, Try.results22]; go_simp <;> rfl) rfl (by rw [HRE.out.1, HRE.out.2]; exact HO.out)
  · have HRE := Lib.hid (show x = vaD d ∧ R = zD10 from by
      have h7 : apE d e = vaD d := by rw [apE_N (by rw [apN_va hv]; exact hv), apN_va hv]
      exact ⟨HRX.out.2.trans h7, by rw [HRX.out.1, apD_no (by rw [h7]; exact hv)]⟩)
    have hne : (vaD d != 0) = true := bne_iff_ne.2 hv
    clear hv
    generalize vaD d = v at *
    go_enter Try.func22, Try.ntmps22
    go_wp2_with fail
    have H0 := Lib.hid (show Ab w p q r d X e (((w.alloc (.cells #[.int .i64 d.vn, .slice X.A d.l.length X.c, .slice X.A2 d.F.length X.c2] 40)).alloc (.cells #[.int .i64 e.kd, .int .i64 e.fr, .int .i64 e.to, .int .i64 e.md] 55)).alloc (.cells #[.int .i64 0, .slice none 0 0, .slice none 0 0] 40)) from by rw [HPP.out.1.1, HPP.out.1.2.1, HPP.out.1.2.2]; exact H0.out)
    rw [← HPP.out.1.2.2, ← HPP.out.1.2.1, ← HPP.out.1.1]
    generalize ((w.alloc (.cells #[.int .i64 d.vn, .slice X.A d.l.length X.c, .slice X.A2 d.F.length X.c2] 40)).alloc (.cells #[.int .i64 e.kd, .int .i64 e.fr, .int .i64 e.to, .int .i64 e.md] 55)).alloc (.cells #[.int .i64 0, .slice none 0 0, .slice none 0 0] 40) = w0 at *
    refine (HVA.out _ _ _ _ H0.out).mono ?_
    rintro e1 w1 ⟨rfl, hb⟩
    have H1 := Lib.hid (H0.out.below hb)
    clear hb H0 HVA
    obtain ⟨x0, x1, x2, -, xl⟩ := H1.out.da.db
    obtain ⟨y0, y1, y2, y3, yl⟩ := H1.out.eb
    obtain ⟨⟨r0, r1, r2, rl⟩, g0, g1, g2⟩ := H1.out.rb.all
    have HO := Lib.hid (H1.out.out0 v)
    go_wp2
    exact bodyPost_ret (v := .tuple #[.agg #[.int .i64 0, .slice none 0 0, .slice none 0 0], .int .i64 v]) (by simp only [results, Try.results22]; go_simp <;> rfl) rfl (by rw [HRE.out.1, HRE.out.2]; exact HO.out)
end Go.Proofs.Ytkecnihgjepfeaa
