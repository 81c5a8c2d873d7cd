/- What is proved here: Odd of the statements' base returns some message with a short body; More of the statements' base; cuts of a list of messages: what the walk gets, and how it reads. -/
import Derived.Test.YtbeafcjbldnkhaaJ17
import Derived.Test.YtbeafcjbldnkhaaJ18
import Derived.Test.YtbeafcjbldnkhaaJ14
import Derived.Test.YtbeafcjbldnkhaaJ03
import Derived.Test.YtbeafcjbldnkhaaJ01
import Derived.Laws.Slices
namespace Go.Proofs.Ytbeafcjbldnkhaa
open Go.RowKit
set_option linter.unusedVariables false

/-- Some message, made by a source. -/
def SrOdd (B g : Nat) (w : World) (e : Ending) (w' : World) : Prop := ∃ M : Msg, e = .returned M.v ∧ M.bd.size ≤ 18 ∧ SrcAt w' B g ∧ w.grownBy w' (some g)

theorem row_cells (w : World) (zs : List Int) (t : TypeId) : ∀ j (hj : j < zs.length), (w.alloc (.cells (zs.map i64v).toArray t)).cell? ⟨w.heap.size, j, none⟩ = some (.int .i64 zs[j]) := by
  intro j hj
  rw [World.cell?_alloc_new]
  simp [hj, i64v]

set_option maxHeartbeats 16000000 in
set_option maxRecDepth 20000 in
theorem odd_any (B g : Nat) (w : World) (h : SrcAt w B g) (id lo hi : Int) : Calls Try.prog 15 #[.pointer (some ⟨g, 0, none⟩), .int .i64 id, .int .i64 lo, .int .i64 hi] w (SrOdd B g w) := by
  have H := Lib.hid h
  have hr := MAt.fresh (f := fun _ => 0) w 0 0 0 0 0 0 ByteArray.empty 37 rfl rfl rfl rfl rfl rfl
  obtain ⟨r, hrr⟩ : ∃ r, r = w.heap.size := ⟨_, rfl⟩
  rw [← hrr] at hr
  have HR := Lib.hid hr
  have HRR := Lib.hid hrr
  have HBR := Lib.hid (show B ≤ r by have := h.1; have := h.2.1; omega)
  have HNR := Lib.hid (show r ≠ g by have := h.2.1; omega)
  have HC := Lib.hid (message_any B g (w.alloc (.cells #[.int .i64 0, .int .i64 0, .int .i64 0, .int .i64 0, .int .i64 0, .int .i64 0, .string ByteArray.empty] 37)) (h.alloc _) id lo hi)
  clear h hr hrr
  go_enter Try.func15, Try.ntmps15
  go_wp2_with fail
  refine HC.out.mono ?_
  rintro e w1 ⟨M, rfl, m0, m1, _, ⟨m2, m3⟩, _, _, m6, hs, hg⟩
  clear m0 m1
  have HR1 := Lib.hid ((HR.out.grown hg HNR.out).alloc (.cells M.cs 37))
  have HG1 := Lib.hid (only_alloc ((only_alloc (World.grownBy.refl w (some g)) _).trans hg) (.cells M.cs 37))
  have HS1 := Lib.hid (hs.alloc (.cells M.cs 37))
  have HK1 := Lib.hid (MAt.fresh (f := M.nth) w1 M.id M.rt M.ep M.ct M.gn M.st M.bd 37 rfl rfl rfl rfl rfl rfl)
  obtain ⟨k, hkk⟩ : ∃ k, k = w1.heap.size := ⟨_, rfl⟩
  have HKK := Lib.hid hkk
  have HNK := Lib.hid (show k ≠ g by have := hs.2.1; omega)
  have HBK := Lib.hid (show B ≤ k by have := hs.1; have := hs.2.1; omega)
  have HRK := Lib.hid (show r ≠ k by have := (HR.out.grown hg HNR.out).1; omega)
  have HWK := Lib.hid (show w.heap.size ≤ k by have := ((only_alloc (World.grownBy.refl w (some g)) (.cells #[.int .i64 0, .int .i64 0, .int .i64 0, .int .i64 0, .int .i64 0, .int .i64 0, .string ByteArray.empty] 37)).trans hg).size; omega)
  have HM6 := Lib.hid m6
  clear hs hg hkk m6
  go_wp2_with fail
  rw [← HKK.out, ← HRR.out]
  rw [← HKK.out] at HK1
  refine (n_any B g _ HS1.out 12 (by omega) (by omega)).mono ?_
  rintro e w3 ⟨y, rfl, y1, y2, hs, hg⟩
  have HS3 := Lib.hid hs
  have HG3 := Lib.hid (HG1.out.trans hg)
  have HK3 := Lib.hid (HK1.out.grown hg HNK.out)
  have HR3 := Lib.hid (HR1.out.grown hg HNR.out)
  clear hs hg y1 y2
  by_cases hy0 : y = 0
  · subst hy0
    have HKR := Lib.hid (HK3.out.alloc (.cells ([0, 1073741824, 1073741825, -1].map i64v).toArray 3))
    have HRR3 := Lib.hid (HR3.out.alloc (.cells ([0, 1073741824, 1073741825, -1].map i64v).toArray 3))
    have HGR := Lib.hid (only_alloc HG3.out (.cells ([0, 1073741824, 1073741825, -1].map i64v).toArray 3))
    go_wp2_with fail
    refine (pick_any B g (w3.alloc (.cells ([0, 1073741824, 1073741825, -1].map i64v).toArray 3)) (HS3.out.alloc _) w3.heap.size 4 [0, 1073741824, 1073741825, -1] rfl (by simp) (by have := HS3.out.2.1; omega) (by omega) (by omega) (row_cells w3 _ _)).mono ?_
    rintro e w5 ⟨x, rfl, _, hs, hg⟩
    have HS5 := Lib.hid hs
    have HG5 := Lib.hid (HGR.out.trans hg)
    have HK5 := Lib.hid (HKR.out.grown hg HNK.out)
    have HR5 := Lib.hid (HRR3.out.grown hg HNR.out)
    obtain ⟨⟨a0, a1, a2, a3, a4, a5, a6⟩, b0, b1, b2, b3, b4, b5, b6⟩ := HK5.out.facts
    obtain ⟨⟨c0, c1, c2, c3, c4, c5, c6⟩, d0, d1, d2, d3, d4, d5, d6⟩ := HR5.out.facts
    simp only [Msg.nth] at a0 a1 a2 a3 a4 a5
    have hrk := HRK.out
    have hkr : k ≠ r := fun e => hrk e.symm
    clear hs hg
    go_wp2
    exact bodyPost_ret (v := Msg.v ⟨x, M.rt, M.ep, M.ct, M.gn, M.st, M.bd⟩) (by simp only [results, Try.results15]; go_simp <;> rfl) rfl ⟨_, rfl, (by have := HM6.out; show M.bd.size ≤ 18; omega), src7 (HS5.out.other (p := ⟨k, 0, none⟩) HNK.out HBK.out _) HNR.out HBR.out _ _ _ _ _ _ _, only7 (only_set HG5.out (p := ⟨k, 0, none⟩) (.inr HWK.out) _) (by rw [HRR.out]; exact Nat.le_refl _) _ _ _ _ _ _ _⟩
  by_cases hy1 : y = 1
  · subst hy1
    have HKR := Lib.hid (HK3.out.alloc (.cells ([-1, 65535, 65536].map i64v).toArray 3))
    have HRR3 := Lib.hid (HR3.out.alloc (.cells ([-1, 65535, 65536].map i64v).toArray 3))
    have HGR := Lib.hid (only_alloc HG3.out (.cells ([-1, 65535, 65536].map i64v).toArray 3))
    go_wp2_with fail
    refine (pick_any B g (w3.alloc (.cells ([-1, 65535, 65536].map i64v).toArray 3)) (HS3.out.alloc _) w3.heap.size 3 [-1, 65535, 65536] rfl (by simp) (by have := HS3.out.2.1; omega) (by omega) (by omega) (row_cells w3 _ _)).mono ?_
    rintro e w5 ⟨x, rfl, _, hs, hg⟩
    have HS5 := Lib.hid hs
    have HG5 := Lib.hid (HGR.out.trans hg)
    have HK5 := Lib.hid (HKR.out.grown hg HNK.out)
    have HR5 := Lib.hid (HRR3.out.grown hg HNR.out)
    obtain ⟨⟨a0, a1, a2, a3, a4, a5, a6⟩, b0, b1, b2, b3, b4, b5, b6⟩ := HK5.out.facts
    obtain ⟨⟨c0, c1, c2, c3, c4, c5, c6⟩, d0, d1, d2, d3, d4, d5, d6⟩ := HR5.out.facts
    simp only [Msg.nth] at a0 a1 a2 a3 a4 a5
    have hrk := HRK.out
    have hkr : k ≠ r := fun e => hrk e.symm
    clear hs hg
    go_wp2
    exact bodyPost_ret (v := Msg.v ⟨M.id, x, M.ep, M.ct, M.gn, M.st, M.bd⟩) (by simp only [results, Try.results15]; go_simp <;> rfl) rfl ⟨_, rfl, (by have := HM6.out; show M.bd.size ≤ 18; omega), src7 (HS5.out.other (p := ⟨k, 1, none⟩) HNK.out HBK.out _) HNR.out HBR.out _ _ _ _ _ _ _, only7 (only_set HG5.out (p := ⟨k, 1, none⟩) (.inr HWK.out) _) (by rw [HRR.out]; exact Nat.le_refl _) _ _ _ _ _ _ _⟩
  by_cases hy2 : y = 2
  · subst hy2
    have HKR := Lib.hid (HK3.out.alloc (.cells ([M.ct, M.ct - 1, 65536, 65537].map i64v).toArray 3))
    have HRR3 := Lib.hid (HR3.out.alloc (.cells ([M.ct, M.ct - 1, 65536, 65537].map i64v).toArray 3))
    have HGR := Lib.hid (only_alloc HG3.out (.cells ([M.ct, M.ct - 1, 65536, 65537].map i64v).toArray 3))
    obtain ⟨⟨p0, p1, p2, p3, p4, p5, p6⟩, o0, o1, o2, o3, o4, o5, o6⟩ := HK3.out.facts
    simp only [Msg.nth] at p0 p1 p2 p3 p4 p5
    go_wp2_with fail
    refine (pick_any B g (w3.alloc (.cells ([M.ct, M.ct - 1, 65536, 65537].map i64v).toArray 3)) (HS3.out.alloc _) w3.heap.size 4 [M.ct, M.ct - 1, 65536, 65537] rfl (by simp) (by have := HS3.out.2.1; omega) (by omega) (by omega) (row_cells w3 _ _)).mono ?_
    clear p0 p1 p2 p3 p4 p5 p6 o0 o1 o2 o3 o4 o5 o6
    rintro e w5 ⟨x, rfl, _, hs, hg⟩
    have HS5 := Lib.hid hs
    have HG5 := Lib.hid (HGR.out.trans hg)
    have HK5 := Lib.hid (HKR.out.grown hg HNK.out)
    have HR5 := Lib.hid (HRR3.out.grown hg HNR.out)
    obtain ⟨⟨a0, a1, a2, a3, a4, a5, a6⟩, b0, b1, b2, b3, b4, b5, b6⟩ := HK5.out.facts
    obtain ⟨⟨c0, c1, c2, c3, c4, c5, c6⟩, d0, d1, d2, d3, d4, d5, d6⟩ := HR5.out.facts
    simp only [Msg.nth] at a0 a1 a2 a3 a4 a5
    have hrk := HRK.out
    have hkr : k ≠ r := fun e => hrk e.symm
    clear hs hg
    go_wp2
    exact bodyPost_ret (v := Msg.v ⟨M.id, M.rt, M.ep, M.ct, x, M.st, M.bd⟩) (by simp only [results, Try.results15]; go_simp <;> rfl) rfl ⟨_, rfl, (by have := HM6.out; show M.bd.size ≤ 18; omega), src7 (HS5.out.other (p := ⟨k, 4, none⟩) HNK.out HBK.out _) HNR.out HBR.out _ _ _ _ _ _ _, only7 (only_set HG5.out (p := ⟨k, 4, none⟩) (.inr HWK.out) _) (by rw [HRR.out]; exact Nat.le_refl _) _ _ _ _ _ _ _⟩
  by_cases hy3 : y = 3
  · subst hy3
    have HKR := Lib.hid (HK3.out.alloc (.cells ([8, 9, -1].map i64v).toArray 3))
    have HRR3 := Lib.hid (HR3.out.alloc (.cells ([8, 9, -1].map i64v).toArray 3))
    have HGR := Lib.hid (only_alloc HG3.out (.cells ([8, 9, -1].map i64v).toArray 3))
    go_wp2_with fail
    refine (pick_any B g (w3.alloc (.cells ([8, 9, -1].map i64v).toArray 3)) (HS3.out.alloc _) w3.heap.size 3 [8, 9, -1] rfl (by simp) (by have := HS3.out.2.1; omega) (by omega) (by omega) (row_cells w3 _ _)).mono ?_
    rintro e w5 ⟨x, rfl, _, hs, hg⟩
    have HS5 := Lib.hid hs
    have HG5 := Lib.hid (HGR.out.trans hg)
    have HK5 := Lib.hid (HKR.out.grown hg HNK.out)
    have HR5 := Lib.hid (HRR3.out.grown hg HNR.out)
    obtain ⟨⟨a0, a1, a2, a3, a4, a5, a6⟩, b0, b1, b2, b3, b4, b5, b6⟩ := HK5.out.facts
    obtain ⟨⟨c0, c1, c2, c3, c4, c5, c6⟩, d0, d1, d2, d3, d4, d5, d6⟩ := HR5.out.facts
    simp only [Msg.nth] at a0 a1 a2 a3 a4 a5
    have hrk := HRK.out
    have hkr : k ≠ r := fun e => hrk e.symm
    clear hs hg
    go_wp2
    exact bodyPost_ret (v := Msg.v ⟨M.id, M.rt, M.ep, x, max M.gn x, M.st, M.bd⟩) (by simp only [results, Try.results15]; go_simp <;> rfl) rfl ⟨_, rfl, (by have := HM6.out; show M.bd.size ≤ 18; omega), src7 ((HS5.out.other (p := ⟨k, 3, none⟩) HNK.out HBK.out _).other (p := ⟨k, 4, none⟩) HNK.out HBK.out _) HNR.out HBR.out _ _ _ _ _ _ _, only7 (only_set (only_set HG5.out (p := ⟨k, 3, none⟩) (.inr HWK.out) _) (p := ⟨k, 4, none⟩) (.inr HWK.out) _) (by rw [HRR.out]; exact Nat.le_refl _) _ _ _ _ _ _ _⟩
  by_cases hy5 : y = 5
  · subst hy5
    have HKR := Lib.hid (HK3.out.alloc (.cells ([-1, 1073741824, 1073741825].map i64v).toArray 3))
    have HRR3 := Lib.hid (HR3.out.alloc (.cells ([-1, 1073741824, 1073741825].map i64v).toArray 3))
    have HGR := Lib.hid (only_alloc HG3.out (.cells ([-1, 1073741824, 1073741825].map i64v).toArray 3))
    go_wp2_with fail
    refine (pick_any B g (w3.alloc (.cells ([-1, 1073741824, 1073741825].map i64v).toArray 3)) (HS3.out.alloc _) w3.heap.size 3 [-1, 1073741824, 1073741825] rfl (by simp) (by have := HS3.out.2.1; omega) (by omega) (by omega) (row_cells w3 _ _)).mono ?_
    rintro e w5 ⟨x, rfl, _, hs, hg⟩
    have HS5 := Lib.hid hs
    have HG5 := Lib.hid (HGR.out.trans hg)
    have HK5 := Lib.hid (HKR.out.grown hg HNK.out)
    have HR5 := Lib.hid (HRR3.out.grown hg HNR.out)
    obtain ⟨⟨a0, a1, a2, a3, a4, a5, a6⟩, b0, b1, b2, b3, b4, b5, b6⟩ := HK5.out.facts
    obtain ⟨⟨c0, c1, c2, c3, c4, c5, c6⟩, d0, d1, d2, d3, d4, d5, d6⟩ := HR5.out.facts
    simp only [Msg.nth] at a0 a1 a2 a3 a4 a5
    have hrk := HRK.out
    have hkr : k ≠ r := fun e => hrk e.symm
    clear hs hg
    go_wp2
    exact bodyPost_ret (v := Msg.v ⟨M.id, M.rt, M.ep, M.ct, M.gn, x, M.bd⟩) (by simp only [results, Try.results15]; go_simp <;> rfl) rfl ⟨_, rfl, (by have := HM6.out; show M.bd.size ≤ 18; omega), src7 (HS5.out.other (p := ⟨k, 5, none⟩) HNK.out HBK.out _) HNR.out HBR.out _ _ _ _ _ _ _, only7 (only_set HG5.out (p := ⟨k, 5, none⟩) (.inr HWK.out) _) (by rw [HRR.out]; exact Nat.le_refl _) _ _ _ _ _ _ _⟩
  by_cases hy6 : y = 6
  · subst hy6
    have HKR := Lib.hid (HK3.out.alloc (.cells ([-1, 65536, 65537].map i64v).toArray 3))
    have HRR3 := Lib.hid (HR3.out.alloc (.cells ([-1, 65536, 65537].map i64v).toArray 3))
    have HGR := Lib.hid (only_alloc HG3.out (.cells ([-1, 65536, 65537].map i64v).toArray 3))
    go_wp2_with fail
    refine (pick_any B g (w3.alloc (.cells ([-1, 65536, 65537].map i64v).toArray 3)) (HS3.out.alloc _) w3.heap.size 3 [-1, 65536, 65537] rfl (by simp) (by have := HS3.out.2.1; omega) (by omega) (by omega) (row_cells w3 _ _)).mono ?_
    rintro e w5 ⟨x, rfl, _, hs, hg⟩
    have HS5 := Lib.hid hs
    have HG5 := Lib.hid (HGR.out.trans hg)
    have HK5 := Lib.hid (HKR.out.grown hg HNK.out)
    have HR5 := Lib.hid (HRR3.out.grown hg HNR.out)
    obtain ⟨⟨a0, a1, a2, a3, a4, a5, a6⟩, b0, b1, b2, b3, b4, b5, b6⟩ := HK5.out.facts
    obtain ⟨⟨c0, c1, c2, c3, c4, c5, c6⟩, d0, d1, d2, d3, d4, d5, d6⟩ := HR5.out.facts
    simp only [Msg.nth] at a0 a1 a2 a3 a4 a5
    have hrk := HRK.out
    have hkr : k ≠ r := fun e => hrk e.symm
    clear hs hg
    go_wp2
    exact bodyPost_ret (v := Msg.v ⟨M.id, M.rt, x, M.ct, M.gn, M.st, M.bd⟩) (by simp only [results, Try.results15]; go_simp <;> rfl) rfl ⟨_, rfl, (by have := HM6.out; show M.bd.size ≤ 18; omega), src7 (HS5.out.other (p := ⟨k, 2, none⟩) HNK.out HBK.out _) HNR.out HBR.out _ _ _ _ _ _ _, only7 (only_set HG5.out (p := ⟨k, 2, none⟩) (.inr HWK.out) _) (by rw [HRR.out]; exact Nat.le_refl _) _ _ _ _ _ _ _⟩
  by_cases hy4 : y = 4
  · subst hy4
    have hk6 := HK3.out.2.2.1
    have hf6 := HK3.out.2.2.2 6 (by omega)
    go_wp2_with fail
    go_region_with ((go_at_call 34; refine (body_any B g _ (SrcAt.drew HS3.out)).mono ?_; rintro e w5 ⟨s, rfl, s1, hs, hg⟩; have HS5 := Lib.hid hs; have HG5 := Lib.hid (HG3.out.trans (gdrew hg)); have HK5 := Lib.hid (HK3.out.grown (gdrew hg) HNK.out); have HR5 := Lib.hid (HR3.out.grown (gdrew hg) HNR.out); have g6 := HK5.out.2.2.1; have f6 := HK5.out.2.2.2 6 (by omega); clear hs hg))
    have HZ := Lib.hid (show (ByteArray.extract ⟨#[48, 49, 50, 51, 52, 53, 54, 55, 56, 57, 97, 98, 99, 100, 101, 102]⟩ 0 15 ++ s).size ≤ 18 by
      rw [ByteArray.size_append, show (ByteArray.extract ⟨#[48, 49, 50, 51, 52, 53, 54, 55, 56, 57, 97, 98, 99, 100, 101, 102]⟩ 0 15).size = 15 by decide +kernel]; omega)
    generalize ByteArray.extract ⟨#[48, 49, 50, 51, 52, 53, 54, 55, 56, 57, 97, 98, 99, 100, 101, 102]⟩ 0 15 ++ s = bd at *
    clear g6 f6 hk6 hf6
    obtain ⟨⟨a0, a1, a2, a3, a4, a5, a6⟩, b0, b1, b2, b3, b4, b5, b6⟩ := HK5.out.facts
    obtain ⟨⟨c0, c1, c2, c3, c4, c5, c6⟩, d0, d1, d2, d3, d4, d5, d6⟩ := HR5.out.facts
    simp only [Msg.nth] at a0 a1 a2 a3 a4 a5
    have hrk := HRK.out
    have hkr : k ≠ r := fun e => hrk e.symm
    go_wp2
    exact bodyPost_ret (v := Msg.v ⟨M.id, M.rt, M.ep, M.ct, M.gn, M.st, bd⟩) (by simp only [results, Try.results15]; go_simp <;> rfl) rfl ⟨_, rfl, HZ.out, src7 (HS5.out.other (p := ⟨k, 6, none⟩) HNK.out HBK.out _) HNR.out HBR.out _ _ _ _ _ _ _, only7 (only_set HG5.out (p := ⟨k, 6, none⟩) (.inr HWK.out) _) (by rw [HRR.out]; exact Nat.le_refl _) _ _ _ _ _ _ _⟩
  have hz0 : (y == 0) = false := beq_eq_false_iff_ne.2 hy0
  have hz1 : (y == 1) = false := beq_eq_false_iff_ne.2 hy1
  have hz2 : (y == 2) = false := beq_eq_false_iff_ne.2 hy2
  have hz3 : (y == 3) = false := beq_eq_false_iff_ne.2 hy3
  have hz4 : (y == 4) = false := beq_eq_false_iff_ne.2 hy4
  have hz5 : (y == 5) = false := beq_eq_false_iff_ne.2 hy5
  have hz6 : (y == 6) = false := beq_eq_false_iff_ne.2 hy6
  clear hy0 hy1 hy2 hy3 hy4 hy5 hy6
  obtain ⟨⟨a0, a1, a2, a3, a4, a5, a6⟩, b0, b1, b2, b3, b4, b5, b6⟩ := HK3.out.facts
  obtain ⟨⟨c0, c1, c2, c3, c4, c5, c6⟩, d0, d1, d2, d3, d4, d5, d6⟩ := HR3.out.facts
  simp only [Msg.nth] at a0 a1 a2 a3 a4 a5
  have hrk := HRK.out
  have hkr : k ≠ r := fun e => hrk e.symm
  go_wp2
  exact bodyPost_ret (v := Msg.v M) (by simp only [results, Try.results15]; go_simp <;> rfl) rfl ⟨_, rfl, (by have := HM6.out; omega), src7 HS3.out HNR.out HBR.out _ _ _ _ _ _ _, only7 HG3.out (by rw [HRR.out]; exact Nat.le_refl _) _ _ _ _ _ _ _⟩
end Go.Proofs.Ytbeafcjbldnkhaa
namespace Go.Proofs.Ytbeafcjbldnkhaa
open Go.RowKit
set_option linter.unusedVariables false

/-- A yes or no of a source. -/
def SrBool (B g : Nat) (w : World) (e : Ending) (w' : World) : Prop := ∃ b : Bool, e = .returned (.bool b) ∧ SrcAt w' B g ∧ w.grownBy w' (some g)
set_option maxHeartbeats 2000000 in
theorem more_any (B g : Nat) (w : World) (h : SrcAt w B g) : Calls Try.prog 17 #[.pointer (some ⟨g, 0, none⟩)] w (SrBool B g w) := by
  have H := Lib.hid h
  obtain ⟨hB, hg, A, n, c, k, zs, a1, a2, a3, a4, a5, a6, a7, a8, a9⟩ := h
  have HK := Lib.hid (show ∀ b : Bool, decide ((k : Int) < (n : Int)) = b → True from fun _ _ => trivial)
  clear hB hg a2 a3 a4 a8 a9
  go_enter Try.func17, Try.ntmps17
  go_wp2
  go_quiet (fail)
  go_wp2
  go_ret
  exact ⟨_, rfl, H.out.drewN _, only_drewN (World.grownBy.refl _ _) _⟩
end Go.Proofs.Ytbeafcjbldnkhaa
namespace Go.Proofs.Ytbeafcjbldnkhaa
open Go.RowKit
set_option linter.unusedVariables false

section
variable {w : World} {B : Nat} {A : Option Addr} {n c : Nat} {l : List Msg}
theorem ls_under : Try.prog.underlying 22 = some (.slice (Try.prog.elem 22)) := by kernel_rfl
theorem ls_elem : Try.prog.elem 22 = 37 := by kernel_rfl
theorem Ls.upto (h : Ls w B (.slice A n c) l) (j : Nat) (hj : j ≤ n) : Ls w B (.slice A j c) (l.take j) := by
  obtain ⟨hn, hl, hm⟩ := h.len
  have hlen : (l.take j).length = j := by simp; omega
  refine ⟨A, c, by rw [hlen], by rw [hlen]; omega, hm, by rw [lcs_len], fun h0 => ?_⟩
  rw [hlen] at h0
  obtain ⟨b, o, rfl, hb, hc⟩ := h.rd.2 (by omega)
  refine ⟨b, o, rfl, hb, fun k u hu => hc k u ?_⟩
  rw [← lcs_take] at hu
  have hk : k < j * 7 := by
    have := (List.getElem?_eq_some_iff.1 hu).1
    simp at this; omega
  rw [← hu, List.getElem?_take_of_lt hk]
theorem Ls.cut (h : Ls w B (.slice A n c) l) (k : Nat) (hk : k ≤ n) : Ls w B (.slice (if c = k then A else A.map (·.add (k * 7))) (n - k) (c - k)) (l.drop k) := by
  obtain ⟨hn, hl, hm⟩ := h.len
  refine ⟨_, c - k, by rw [List.length_drop, hn], by simp; omega, by omega, by rw [lcs_len], fun h0 => ?_⟩
  rw [List.length_drop] at h0
  obtain ⟨b, o, rfl, hb, hc⟩ := h.rd.2 (by omega)
  rw [if_neg (by omega)]
  refine ⟨b, o + k * 7, by rw [Option.map_some, add_mk], hb, fun j u hu => ?_⟩
  rw [Nat.add_assoc]
  refine hc _ u ?_
  rw [← hu, ← lcs_drop, List.getElem?_drop]
theorem run_lupto (A : Option Addr) (n c : Nat) (kh : IntKind) (j : Nat) (hj : j ≤ c) : ∀ W, (Instr.slice 22 (.slice A n c) none (some (.int kh (j : Int))) none).run Try.prog W = .ok (.slice A j c) W := fun W => by
  rw [run_slice_h W _ _ _ _ ls_under kh _ (by omega) (by omega), ls_elem, Try.sizeOf37]
  cases A <;> simp [Result.andThen, sliced, Addr.add]
theorem run_lcut (A : Option Addr) (n c : Nat) (kl : IntKind) (k : Nat) (hk : k ≤ n) : ∃ A', A' = (if c = k then A else A.map (·.add (k * 7))) ∧ ∀ W, (Instr.slice 22 (.slice A n c) (some (.int kl (k : Int))) none none).run Try.prog W = .ok (.slice A' (n - k) (c - k)) W := by
  refine ⟨_, rfl, fun W => ?_⟩
  rw [run_slice_l W _ _ _ _ ls_under kl _ (by omega) (by omega), ls_elem, Try.sizeOf37]
  simp [Result.andThen, sliced]
end
end Go.Proofs.Ytbeafcjbldnkhaa
