/- What is proved here: shardqueueref01.Same tells whether two byte slices hold the same bytes; shardqueueref09.Parse, by one contract for all arguments; some and awake of layer 9's laws. -/
import Derived.Test.YtkkgfnncdaiooaaRows
import Derived.Test.YtkkgfnncdaiooaaJ01
import Derived.WalkKit
import Derived.Outline
import Derived.Test.YtkkgfnncdaiooaaJ07
import Derived.Test.YtkkgfnncdaiooaaJ05
import Derived.Test.YtkkgfnncdaiooaaJ02
namespace Go.Proofs.Ytkkgfnncdaiooaa
open Go.RowKit
set_option linter.unusedVariables false

theorem same_any (v0 v1 : Value) (b0 b1 : List UInt8) (w : World) (h0 : Bs w w.heap.size v0 b0) (h1 : Bs w w.heap.size v1 b1) :
    Calls Try.prog 12 #[v0, v1] w fun e w' => e = .returned (.bool (b0 == b1)) ∧ w = w' := by
  have c0 := run_convert_bs (P := Try.prog) w 24 5 9 Try.underlying24 Try.underlying5 Try.underlying9 h0
  have c1 := run_convert_bs (P := Try.prog) w 24 5 9 Try.underlying24 Try.underlying5 Try.underlying9 h1
  clear h0 h1
  go_enter Try.func12, Try.ntmps12
  go_wp2
  go_ret
  exact ⟨rfl, rfl⟩
end Go.Proofs.Ytkkgfnncdaiooaa
namespace Go.Proofs.Ytkkgfnncdaiooaa
open Go.RowKit
set_option linter.unusedVariables false

set_option maxHeartbeats 4000000 in
set_option maxRecDepth 20000 in
theorem rparse_any (A : Option Addr) (l c : Nat) (bs : List UInt8) (w : World) (hv : Bs w w.heap.size (.slice A l c) bs) (hl : l ≤ 1099511627776) :
    Calls Try.prog 11 #[.slice A l c] w (PH w (pqH bs) (pqE bs)) := by
  obtain ⟨P0, hP0⟩ : ∃ P0, P0 = pqH bs := ⟨_, rfl⟩
  obtain ⟨P1, hP1⟩ : ∃ P1, P1 = pqE bs := ⟨_, rfl⟩
  have HP0 := Lib.hid hP0
  have HP1 := Lib.hid hP1
  rw [← hP0, ← hP1]
  have hn := hv.len.1
  have HV := Lib.hid hv
  have HL := Lib.hid hl
  clear hP0 hP1 hv hl
  by_cases h16 : l = 16
  rotate_left
  · have HP := Lib.hid (pq_len (bs := bs) (by omega))
    have hne : ((l : Int) != 16) = true := by simp; omega
    clear hn h16
    go_enter Try.func11, Try.ntmps11
    go_wp2
    exact bodyPost_ret (v := .tuple #[zq.v, .int .i64 8]) (by simp only [results, Try.results11]; go_simp <;> rfl) rfl ⟨by rw [HP0.out, HP1.out, HP.out.1, HP.out.2], by
      repeat' (first | with_reducible refine Below.setCell ?_ (Nat.le_refl _) _ | with_reducible refine Below.alloc ?_ (Nat.le_refl _) _)
      exact Below.refl _ _⟩
  subst h16
  have HGE := Lib.hid hn
  clear hn
  have HG0 := Lib.hid (fun W (hb : Below w.heap.size w W) => show Calls Try.prog 22 #[.slice A 16 c, .int .i64 1, .int .i64 4] W (fun e w' => e = .returned (.tuple #[.int .i64 (gtR 1 4 bs).1, .int .i64 (gtR 1 4 bs).2]) ∧ W = w') from rget_all A 16 c bs 1 4 W ((HV.out.below hb).more hb.size) HL.out)
  have HG1 := Lib.hid (fun W (hb : Below w.heap.size w W) => show Calls Try.prog 22 #[.slice A 16 c, .int .i64 5, .int .i64 3] W (fun e w' => e = .returned (.tuple #[.int .i64 (gtR 5 3 bs).1, .int .i64 (gtR 5 3 bs).2]) ∧ W = w') from rget_all A 16 c bs 5 3 W ((HV.out.below hb).more hb.size) HL.out)
  have HG2 := Lib.hid (fun W (hb : Below w.heap.size w W) => show Calls Try.prog 22 #[.slice A 16 c, .int .i64 8, .int .i64 2] W (fun e w' => e = .returned (.tuple #[.int .i64 (gtR 8 2 bs).1, .int .i64 (gtR 8 2 bs).2]) ∧ W = w') from rget_all A 16 c bs 8 2 W ((HV.out.below hb).more hb.size) HL.out)
  have HG3 := Lib.hid (fun W (hb : Below w.heap.size w W) => show Calls Try.prog 22 #[.slice A 16 c, .int .i64 10, .int .i64 1] W (fun e w' => e = .returned (.tuple #[.int .i64 (gtR 10 1 bs).1, .int .i64 (gtR 10 1 bs).2]) ∧ W = w') from rget_all A 16 c bs 10 1 W ((HV.out.below hb).more hb.size) HL.out)
  have HRD := Lib.hid (show rdq bs = ⟨(gtR 1 4 bs).1, (gtR 5 3 bs).1, (gtR 8 2 bs).1, (gtR 10 1 bs).1⟩ from rfl)
  generalize gtR 1 4 bs = g0 at *
  generalize gtR 5 3 bs = g1 at *
  generalize gtR 8 2 bs = g2 at *
  generalize gtR 10 1 bs = g3 at *
  obtain ⟨y0, z0⟩ := g0
  obtain ⟨y1, z1⟩ := g1
  obtain ⟨y2, z2⟩ := g2
  obtain ⟨y3, z3⟩ := g3
  go_enter Try.func11, Try.ntmps11
  go_wp2_with fail
  obtain ⟨r, hr⟩ : ∃ r, r = w.heap.size := ⟨_, rfl⟩
  obtain ⟨w0, hw0⟩ : ∃ w0, w0 = ((w.alloc (.cells #[.int .i64 0, .int .i64 0, .int .i64 0, .int .i64 0] 23)).alloc (.cells #[.int .i64 0, .int .i64 0, .int .i64 0, .int .i64 0] 23)) := ⟨_, rfl⟩
  have HQ := Lib.hid (show PQ w r (r + 1) zq w0 from by
    rw [hw0, hr]
    have h1 := Qb.start w 0 0 0 0 23
    have h2 := Qb.start (w.alloc (.cells #[.int .i64 0, .int .i64 0, .int .i64 0, .int .i64 0] 23)) 0 0 0 0 23
    exact ⟨h1.alloc _, by simpa using h2, Nat.lt_succ_self _, Nat.le_refl _, ((Below.refl _ _).alloc (Nat.le_refl _) _).alloc (by simp) _⟩)
  rw [← hw0, ← hr]
  clear hw0 hr
  obtain ⟨g, hg⟩ : ∃ g, g = r + 1 := ⟨_, rfl⟩
  rw [← hg] at HQ ⊢
  clear hg
  refine (HG0.out _ HQ.out.bel).mono ?_
  rintro e w2 ⟨rfl, rfl⟩
  have HQ' := Lib.hid (show PQ w r g ⟨y0, 0, 0, 0⟩ (w0.setCell ⟨g, 0, none⟩ (.int .i64 y0)) from HQ.out.put 0 (by omega) y0)
  obtain ⟨⟨x0, x1, x2, x3, xl⟩, e0, e1, e2, e3⟩ := HQ.out.gb.all
  clear HQ
  have HQ := HQ'
  clear HQ'
  skip
  go_wp2_with fail
  generalize w0.setCell ⟨g, 0, none⟩ (.int .i64 y0) = w1 at *
  clear x0 x1 x2 x3 xl e0 e1 e2 e3
  refine (HG1.out _ HQ.out.bel).mono ?_
  rintro e w2 ⟨rfl, rfl⟩
  have HQ' := Lib.hid (show PQ w r g ⟨y0, y1, 0, 0⟩ (w1.setCell ⟨g, 1, none⟩ (.int .i64 y1)) from HQ.out.put 1 (by omega) y1)
  obtain ⟨⟨x0, x1, x2, x3, xl⟩, e0, e1, e2, e3⟩ := HQ.out.gb.all
  clear HQ
  have HQ := HQ'
  clear HQ'
  skip
  go_wp2_with fail
  generalize w1.setCell ⟨g, 1, none⟩ (.int .i64 y1) = w2 at *
  clear x0 x1 x2 x3 xl e0 e1 e2 e3
  refine (HG2.out _ HQ.out.bel).mono ?_
  rintro e w2 ⟨rfl, rfl⟩
  have HQ' := Lib.hid (show PQ w r g ⟨y0, y1, y2, 0⟩ (w2.setCell ⟨g, 2, none⟩ (.int .i64 y2)) from HQ.out.put 2 (by omega) y2)
  obtain ⟨⟨x0, x1, x2, x3, xl⟩, e0, e1, e2, e3⟩ := HQ.out.gb.all
  clear HQ
  have HQ := HQ'
  clear HQ'
  skip
  go_wp2_with fail
  generalize w2.setCell ⟨g, 2, none⟩ (.int .i64 y2) = w3 at *
  clear x0 x1 x2 x3 xl e0 e1 e2 e3
  refine (HG3.out _ HQ.out.bel).mono ?_
  rintro e w2 ⟨rfl, rfl⟩
  have HQ' := Lib.hid (show PQ w r g ⟨y0, y1, y2, y3⟩ (w3.setCell ⟨g, 3, none⟩ (.int .i64 y3)) from HQ.out.put 3 (by omega) y3)
  obtain ⟨⟨x0, x1, x2, x3, xl⟩, e0, e1, e2, e3⟩ := HQ.out.gb.all
  clear HQ
  have HQ := HQ'
  clear HQ'
  obtain ⟨⟨x0, x1, x2, x3, xl⟩, e0, e1, e2, e3⟩ := HQ.out.gb.all
  go_wp2_with fail
  generalize w3.setCell ⟨g, 3, none⟩ (.int .i64 y3) = w4 at *
  clear x0 x1 x2 x3 xl e0 e1 e2 e3
  have HVR := Lib.hid (HV.out.below HQ.out.bel)
  have HPQ := Lib.hid (show PqR bs ↔ HqR (rdq bs) ∧ hq16 (rdq bs) = bs from Iff.rfl)
  have HY := Lib.hid (fun (h : PqR bs) => pq_yes h)
  have HZ := Lib.hid (fun (h : ¬ PqR bs) => pq_no h)
  rw [HRD.out] at HPQ HY
  clear HV HG0 HG1 HG2 HG3 HRD
  obtain ⟨H, hH⟩ : ∃ H : Hq, H = ⟨y0, y1, y2, y3⟩ := ⟨_, rfl⟩
  rw [show y0 = H.id by rw [hH], show y1 = H.gn by rw [hH], show y2 = H.rt by rw [hH], show y3 = H.ht by rw [hH]]
  rw [← hH] at HPQ HY HQ
  clear hH
  refine (renc_any H w4).mono ?_
  rintro e w5 ⟨v2, rfl, hv2, hb⟩
  obtain ⟨A2, c2, rfl, -, -, -⟩ := id hv2
  have HQ3 := Lib.hid (HQ.out.up hb)
  have HVB := Lib.hid hv2
  have HVA := Lib.hid ((HVR.out.below (hb.mono HQ.out.bel.size)).more (show w.heap.size ≤ w5.heap.size by have := HQ3.out.bel.size; exact this))
  clear hb hv2 HQ HVR
  obtain ⟨⟨x0, x1, x2, x3, xl⟩, -⟩ := HQ3.out.gb.all
  obtain ⟨⟨r0, r1, r2, r3, rl⟩, e0, e1, e2, e3⟩ := HQ3.out.rb.all
  by_cases hr : HqR H
  · rw [hqB_yes hr] at HVB ⊢
    rw [hqE_yes hr]
    by_cases he : hq16 H = bs
    · have HP := Lib.hid (HY.out (HPQ.out.2 ⟨hr, he⟩))
      have heq : (hq16 H == bs) = true := by simpa using he
      clear he hr
      go_wp2_with fail
      refine (same_any _ _ _ _ _ HVB.out HVA.out).mono ?_
      rintro e w3 ⟨rfl, rfl⟩
      go_wp2
      exact bodyPost_ret (v := .tuple #[H.v, .int .i64 0]) (by simp only [results, Try.results11]; go_simp <;> rfl) rfl ⟨by rw [HP0.out, HP1.out, HP.out.1, HP.out.2], HQ3.out.out _ _ _ _⟩
    · have HP := Lib.hid (HZ.out (fun h => he (HPQ.out.1 h).2))
      have heq : (hq16 H == bs) = false := by simpa using he
      clear he hr
      go_wp2_with fail
      refine (same_any _ _ _ _ _ HVB.out HVA.out).mono ?_
      rintro e w3 ⟨rfl, rfl⟩
      go_wp2
      exact bodyPost_ret (v := .tuple #[zq.v, .int .i64 8]) (by simp only [results, Try.results11]; go_simp <;> rfl) rfl ⟨by rw [HP0.out, HP1.out, HP.out.1, HP.out.2], HQ3.out.out _ _ _ _⟩
  · have HP := Lib.hid (HZ.out (fun h => hr (HPQ.out.1 h).1))
    rw [hqE_no hr]
    clear hr
    go_wp2
    exact bodyPost_ret (v := .tuple #[zq.v, .int .i64 8]) (by simp only [results, Try.results11]; go_simp <;> rfl) rfl ⟨by rw [HP0.out, HP1.out, HP.out.1, HP.out.2], HQ3.out.out _ _ _ _⟩
end Go.Proofs.Ytkkgfnncdaiooaa
namespace Go.Proofs.Ytkkgfnncdaiooaa
open Go.RowKit
set_option linter.unusedVariables false

/-- A valid handle made of arbitrary numbers. -/
def smH (h : Hq) : Hq := ⟨1 + h.id % 1073741824, 1 + h.gn % 65536, h.rt % 65536, h.ht % 65536 % 6⟩
theorem smH_ok (h : Hq) : HqR (smH h) := by
  refine ⟨⟨?_, ?_⟩, ⟨?_, ?_⟩, ⟨?_, ?_⟩, ?_, ?_⟩ <;> simp only [smH] <;> omega
set_option maxHeartbeats 1000000 in
theorem someh_any (h : Hq) (w : World) : Calls Try.prog 14 #[h.v] w fun e w' => e = .returned (smH h).v ∧ Below w.heap.size w w' := by
  have HS := Lib.hid (show smH h = ⟨1 + h.id % 1073741824, 1 + h.gn % 65536, h.rt % 65536, h.ht % 65536 % 6⟩ from rfl)
  have e0 : bits .and .i64 h.id 1073741823 = h.id % 1073741824 := and_ones h.id 30 1073741823 (by omega) (by omega)
  have e1 : bits .and .i64 h.gn 65535 = h.gn % 65536 := and_ffff h.gn
  have e2 : bits .and .i64 h.rt 65535 = h.rt % 65536 := and_ffff h.rt
  have e3 : bits .and .i64 h.ht 65535 = h.ht % 65536 := and_ffff h.ht
  have b0 : 0 ≤ h.id % 1073741824 ∧ h.id % 1073741824 ≤ 1073741823 := by omega
  have b1 : 0 ≤ h.gn % 65536 ∧ h.gn % 65536 ≤ 65535 := by omega
  have b2 : 0 ≤ h.rt % 65536 ∧ h.rt % 65536 ≤ 65535 := by omega
  have b3 : 0 ≤ h.ht % 65536 ∧ h.ht % 65536 ≤ 65535 := by omega
  generalize h.id % 1073741824 = a at *
  generalize h.gn % 65536 = b at *
  generalize h.rt % 65536 = c at *
  generalize h.ht % 65536 = d at *
  obtain ⟨a0, a1⟩ := b0
  obtain ⟨b0, b1'⟩ := b1
  obtain ⟨c0, c1⟩ := b2
  obtain ⟨d0, d1⟩ := b3
  have f0 : 0 ≤ d % 6 ∧ d % 6 ≤ 5 := by omega
  obtain ⟨x, hx⟩ : ∃ x, x = smH h := ⟨_, rfl⟩
  rw [← hx] at HS ⊢
  clear hx
  go_enter Try.func14, Try.ntmps14
  go_wp2
  exact bodyPost_ret (v := x.v) (by rw [HS.out]; simp only [results, Try.results14]; go_simp <;> rfl) rfl ⟨rfl, by
    repeat' (first | with_reducible refine Below.setCell ?_ (Nat.le_succ _) _ | with_reducible refine Below.setCell ?_ (Nat.le_refl _) _ | with_reducible refine Below.alloc ?_ (Nat.le_refl _) _ | (refine Below.alloc ?_ (by first | (simp; done) | (simp; omega)) _))
    exact Below.refl _ _⟩

theorem hq16_at (h : Hq) (k : Nat) (hk : k < 12) : (hq16 h)[k]'(by rw [hq16_len]; omega) = (hq12 h)[k]'(by rw [hq12_len]; omega) := by
  simp only [hq16]
  rw [List.getElem_append_left (by rw [hq12_len]; exact hk)]
set_option maxHeartbeats 1000000 in
theorem awake9_any (w : World) : Calls Try.prog 13 #[] w fun e w' => e = .returned (.bool true) ∧ Below w.heap.size w w' := by
  have hr : HqR ⟨1, 2, 3, 4⟩ := by refine ⟨⟨?_, ?_⟩, ⟨?_, ?_⟩, ⟨?_, ?_⟩, ?_, ?_⟩ <;> simp
  obtain ⟨X, hl, HC, H0, H4, H7, H9, H10⟩ : ∃ X : List UInt8, X.length = 16 ∧ (∀ W, Calls Try.prog 8 #[.agg #[.int .i64 1, .int .i64 2, .int .i64 3, .int .i64 4]] W (Put2 W X 0)) ∧ (∀ h : 0 < X.length, X[0] = 113) ∧ (∀ h : 4 < X.length, X[4] = 1) ∧ (∀ h : 7 < X.length, X[7] = 2) ∧ (∀ h : 9 < X.length, X[9] = 3) ∧ (∀ h : 10 < X.length, X[10] = 4) := by
    refine ⟨hq16 ⟨1, 2, 3, 4⟩, hq16_len _, fun W => ?_, fun h => (hq16_at ⟨1, 2, 3, 4⟩ 0 (by omega)).trans (by decide), fun h => (hq16_at ⟨1, 2, 3, 4⟩ 4 (by omega)).trans (by decide), fun h => (hq16_at ⟨1, 2, 3, 4⟩ 7 (by omega)).trans (by decide), fun h => (hq16_at ⟨1, 2, 3, 4⟩ 9 (by omega)).trans (by decide), fun h => (hq16_at ⟨1, 2, 3, 4⟩ 10 (by omega)).trans (by decide)⟩
    have := enc_any ⟨1, 2, 3, 4⟩ W
    rwa [hqB_yes hr, hqE_yes hr] at this
  have HC := Lib.hid HC
  have H0 := Lib.hid (H0 (by omega))
  have H4 := Lib.hid (H4 (by omega))
  have H7 := Lib.hid (H7 (by omega))
  have H9 := Lib.hid (H9 (by omega))
  have H10 := Lib.hid (H10 (by omega))
  clear hr
  go_enter Try.func13, Try.ntmps13
  go_wp2_with fail
  refine (HC.out _).mono ?_
  rintro e w1 ⟨v1, rfl, hbs, hb⟩
  obtain ⟨A1, c1, rfl, hlc, hm, -⟩ := id hbs
  obtain ⟨b, o, rfl, hlt, _, h0⟩ := hbs.at_ (k := 0) (by omega)
  obtain ⟨b', o', he, _, _, h4⟩ := hbs.at_ (k := 4) (by omega)
  injection he with he
  injection he with e1 e2
  subst e1; subst e2
  obtain ⟨b', o', he, _, _, h7⟩ := hbs.at_ (k := 7) (by omega)
  injection he with he
  injection he with e1 e2
  subst e1; subst e2
  obtain ⟨b', o', he, _, _, h9⟩ := hbs.at_ (k := 9) (by omega)
  injection he with he
  injection he with e1 e2
  subst e1; subst e2
  obtain ⟨b', o', he, _, _, h10⟩ := hbs.at_ (k := 10) (by omega)
  injection he with he
  injection he with e1 e2
  subst e1; subst e2
  rw [H0.out] at h0
  rw [H4.out] at h4
  rw [H7.out] at h7
  rw [H9.out] at h9
  rw [H10.out] at h10
  simp at h0 h4 h7 h9 h10
  rw [hl]
  have HB := Lib.hid hb
  clear hbs hb hlc H0 H4 H7 H9 H10 hl
  go_wp2
  go_ret
  exact ⟨rfl, HB.out⟩
end Go.Proofs.Ytkkgfnncdaiooaa
