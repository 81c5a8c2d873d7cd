/- What is proved here: shardqueuelaw10.DirectoryEnds returns true for every input and leaves its arguments as they were. No condition. -/
import Derived.Test.YtdobenkkkkaipaaJ09
import Derived.ProofKit
import Derived.OpenShut
import Derived.ChangeOld
import Derived.Deep.DeepCutAuto
import Derived.Deep.RegionHeld3
namespace Go.Proofs.Ytdobenkkkkaipaa
open Go.RowKit
set_option linter.unusedVariables false

/-- A directory and a change in boxes. -/
structure De (w : World) (p q : Nat) (d : Dd) (X : Dx) (e : Ed) (W : World) : Prop where
  db : DB W p d X
  eb : EB W q e
  ef : ∀ o, W.frozen? ⟨q, o, none⟩ = false
  dr : DR W W.heap.size d X
  op : DOff d X p
  oq : DOff d X q
  ne : w.heap.size ≤ p ∧ p < q
  bel : Below w.heap.size w W
section
variable {w W W' : World} {p q : Nat} {d : Dd} {X : Dx} {e : Ed}
theorem De.up (h : De w p q d X e W) (hb : Below W.heap.size W W') : De w p q d X e W' :=
  ⟨h.db.up hb, h.eb.up hb, fun o => (hb.frozen (p := ⟨q, o, none⟩) h.eb.lt).trans (h.ef o), h.dr.up hb, h.op, h.oq, h.ne, h.bel.trans (hb.mono h.bel.size)⟩
/-- The directory is stored anew. -/
theorem De.setd (h : De w p q d X e W) {d' : Dd} {Y : Dx} (hr : DR W W.heap.size d' Y) (o1 : DOff d' Y p) (o2 : DOff d' Y q) :
    De w p q d' Y e (((W.setCell ⟨p, 0, none⟩ (.int .i64 d'.vn)).setCell ⟨p, 1, none⟩ (.slice Y.A d'.l.length Y.c)).setCell ⟨p, 2, none⟩ (.slice Y.A2 d'.F.length Y.c2)) := by
  have hn := h.ne
  have hb := h.bel
  have hpq : ∀ o, (⟨p, o, none⟩ : Addr).block ≠ q := fun o => by show p ≠ q; omega
  refine ⟨h.db.set d' Y, ((h.eb.other (hpq 0) _).other (hpq 1) _).other (hpq 2) _, fun o => by simp [go_sem, h.ef o], ?_, o1, o2, h.ne, ?_⟩
  · exact (((hr.offp (q := ⟨p, 0, none⟩) o1 _).offp (q := ⟨p, 1, none⟩) o1 _).offp (q := ⟨p, 2, none⟩) o1 _).more (by simp)
  · exact ((hb.setCell (p := ⟨p, 0, none⟩) hn.1 _).setCell (p := ⟨p, 1, none⟩) hn.1 _).setCell (p := ⟨p, 2, none⟩) hn.1 _
/-- The change is stored anew. -/
theorem De.sete (h : De w p q d X e W) (a b c m : Int) :
    De w p q d X ⟨a, b, c, m⟩ ((((W.setCell ⟨q, 0, none⟩ (.int .i64 a)).setCell ⟨q, 1, none⟩ (.int .i64 b)).setCell ⟨q, 2, none⟩ (.int .i64 c)).setCell ⟨q, 3, none⟩ (.int .i64 m)) := by
  have hn := h.ne
  have hb := h.bel
  have hl : w.heap.size ≤ q := by omega
  have hpq : ∀ o, (⟨q, o, none⟩ : Addr).block ≠ p := fun o => by show q ≠ p; omega
  obtain ⟨e0, e1, e2, e3, el⟩ := h.eb
  refine ⟨(((h.db.other (hpq 0) _).other (hpq 1) _).other (hpq 2) _).other (hpq 3) _, ⟨by simp [go_sem, e0], by simp [go_sem, e1], by simp [go_sem, e2], by simp [go_sem, e3], by simp [el]⟩, fun o => by simp [go_sem, h.ef o], ?_, h.op, h.oq, h.ne, ?_⟩
  · exact ((((h.dr.offp (q := ⟨q, 0, none⟩) h.oq _).offp (q := ⟨q, 1, none⟩) h.oq _).offp (q := ⟨q, 2, none⟩) h.oq _).offp (q := ⟨q, 3, none⟩) h.oq _).more (by simp)
  · exact (((hb.setCell (p := ⟨q, 0, none⟩) hl _).setCell (p := ⟨q, 1, none⟩) hl _).setCell (p := ⟨q, 2, none⟩) hl _).setCell (p := ⟨q, 3, none⟩) hl _
end
theorem de_start {w W : World} {d : Dd} {X : Dx} {e : Ed} (hr : DR W W.heap.size d X) (hb : Below w.heap.size w W) (t t2 : TypeId) :
    De w W.heap.size (W.heap.size + 1) d X e ((W.alloc (.cells #[.int .i64 d.vn, .slice X.A d.l.length X.c, .slice X.A2 d.F.length X.c2] t)).alloc (.cells #[.int .i64 e.kd, .int .i64 e.fr, .int .i64 e.to, .int .i64 e.md] t2)) := by
  have hz : (W.alloc (.cells #[.int .i64 d.vn, .slice X.A d.l.length X.c, .slice X.A2 d.F.length X.c2] t)).heap.size = W.heap.size + 1 := by simp
  have hs := hb.size
  have h1 := EB.start (W.alloc (.cells #[.int .i64 d.vn, .slice X.A d.l.length X.c, .slice X.A2 d.F.length X.c2] t)) e t2
  rw [hz] at h1
  refine ⟨(DB.start W d X t).alloc _, h1, fun o => ?_, (hr.alloc _).alloc _, hr.offs (Nat.le_refl _), hr.offs (by omega), ⟨hs, by omega⟩, (hb.alloc hs _).alloc (by simp; omega) _⟩
  rw [← hz]
  simp [go_sem]

open Classical in
set_option maxHeartbeats 4000000 in
set_option maxRecDepth 20000 in
theorem DirectoryEnds_walk (w : World) (a : Int) (wa : (Lit.int .u8 a).wf = true) :
    Calls Try.prog 8 #[.int .u8 a] w fun e w' => e = .returned (.bool true) ∧ Below w.heap.size w w' := by
  have ha : 0 ≤ a ∧ a ≤ 255 := (show IntKind.u8.min ≤ a ∧ a ≤ IntKind.u8.max from by simpa [Lit.wf] using wa)
  obtain ⟨n, hn⟩ : ∃ n : Nat, a = n := ⟨a.toNat, by omega⟩
  subst hn
  obtain ⟨m, hm⟩ : ∃ m : Nat, m = n % 4 := ⟨_, rfl⟩
  have hm3 : m ≤ 3 := by omega
  have ht : ((n : Int)).tmod 4 = m := by rw [Int.tmod_eq_emod_of_nonneg (by omega)]; omega
  have hu : IntKind.u8.wrap (m : Int) = m := by rw [IntKind.wrap_u8]; omega
  have hi : IntKind.i64.wrap (m : Int) = m := IntWalk.i64_in _ (by omega)
  have hs : IntKind.i64.wrap (1099511627776 - (m : Int)) = 1099511627776 - (m : Int) := IntWalk.i64_in _ (by omega)
  have HM3 := Lib.hid hm3
  clear hm ha
  have HAW := Lib.hid (fun W => awake10_any W)
  have HN := Lib.hid (fun W => show Calls Try.prog 9 #[.int .i64 2, .int .i64 1] W (DE W.heap.size W (dS 1 0) 0) from by
    have h := dnew_any 2 1 W
    rw [nw21.1, nw21.2] at h
    exact h)
  clear wa
  go_enter Try.func8, Try.ntmps8
  go_wp2_with fail
  refine (HN.out _).mono ?_
  rintro e w1 ⟨X, rfl, -, hdr, hb⟩
  have H0 := Lib.hid (show De w w1.heap.size (w1.heap.size + 1) (dS (mxN - m) 0) X (eS 0) ((w1.alloc (.cells #[.int .i64 (1099511627776 - (m : Int)), .slice X.A (dS 1 0).l.length X.c, .slice X.A2 (dS 1 0).F.length X.c2] 25)).alloc (.cells #[.int .i64 1, .int .i64 0, .int .i64 1, .int .i64 100] 27)) from de_start (w := w) (d := dS (mxN - m) 0) (X := X) (e := eS 0) (show DR w1 w1.heap.size (dS (mxN - m) 0) X from ⟨hdr.pl, hdr.fl⟩) hb 25 27)
  clear hdr hb
  obtain ⟨q, hq⟩ : ∃ q, q = w1.heap.size + 1 := ⟨_, rfl⟩
  obtain ⟨p, hp⟩ : ∃ p, p = w1.heap.size := ⟨_, rfl⟩
  go_wp2_with fail
  rw [← hq, ← hp] at H0 ⊢
  generalize (w1.alloc (.cells #[.int .i64 (1099511627776 - (m : Int)), .slice X.A (dS 1 0).l.length X.c, .slice X.A2 (dS 1 0).F.length X.c2] 25)).alloc (.cells #[.int .i64 1, .int .i64 0, .int .i64 1, .int .i64 100] 27) = w2 at *
  have HS := Lib.hid (show De w p q (dS (mxN - m) 0) X (eS 0) w2 from H0.out)
  clear H0 hq hp
  go_loopw [6] (fun iv wr => ∃ (i : Nat) (X : Dx), iv = .int .i64 i ∧ i ≤ 6 ∧ Hid (De w p q (dS (mxN - m + (min i m : Nat)) (min i m)) X (eS i) wr)) (fun iv _ => 6 - (intOf iv).toNat)
  case atStart => exact ⟨0, X, rfl, by omega, by simpa using HS⟩
  case round =>
    obtain ⟨i, X, rfl, hi6, HD⟩ := hrel
    by_cases hlt : i < 6
    · have hlt' : (i : Int) < 6 := by omega
      by_cases him : i < m
      · have him' : (i : Int) < (m : Int) := by omega
        have hGO := dS_go (v := mxN - m + (i : Nat)) (by unfold mxN; omega) (by unfold mxN; omega) (j := i) (by omega)
        rw [Nat.min_eq_left (Nat.le_of_lt him)] at HD
        have HNX := Lib.hid (show min (i + 1) m = i + 1 from Nat.min_eq_left him)
        obtain ⟨D, hD⟩ : ∃ D, D = dS (mxN - m + (i : Nat)) i := ⟨_, rfl⟩
        obtain ⟨D', hD'⟩ : ∃ D', D' = dS (mxN - m + (i : Nat) + 1) (i + 1) := ⟨_, rfl⟩
        have hvn : IntKind.i64.wrap (D.vn + 1) = D'.vn := by rw [hD, hD', dS_vn, dS_vn]; exact IntWalk.i64_in _ (by unfold mxN; omega)
        have HAP := Lib.hid (fun X W (k : DR W W.heap.size D X) => show Calls Try.prog 20 #[dv D X, (eS i).v] W (DE W.heap.size W D' 0) from by
          have h := dapply_any D X (eS i) W k (by rw [hD]; exact dS_len _ _)
          rw [hD, hGO.1, hGO.2, ← hD, ← hD'] at h
          exact h)
        rw [← hD] at HD
        have HDD := Lib.hid (show D' = dS (mxN - m + ((i + 1 : Nat) : Int)) (i + 1) by rw [hD', Int.natCast_add, Int.add_assoc]; rfl)
        clear hD hD' hGO him hlt hi6
        by_cases hpar : i % 2 = 0
        · have HE1 := Lib.hid (show eS i = ⟨1, 0, 1, 100⟩ ∧ eS (i + 1) = ⟨2, 1, 0, 0⟩ from by unfold eS; exact ⟨if_pos hpar, if_neg (by omega)⟩)
          rw [HE1.out.1] at HD HAP
          clear hpar
          go_upto_region 7 with (fail)
          obtain ⟨⟨x0, x1, x2, xl⟩, f0, f1, f2⟩ := HD.out.db.all
          obtain ⟨y0, y1, y2, y3, yl⟩ := HD.out.eb
          go_wp2_with fail
          clear x0 x1 x2 xl f0 f1 f2 y0 y1 y2 y3 yl
          refine (HAP.out X _ HD.out.dr).mono ?_
          rintro e w2 ⟨Y, rfl, hnw, hdr, hb⟩
          go_upto_region 8 with (fail)
          have H3 := Lib.hid ((HD.out.up hb).up ((Below.refl _ _).alloc (Nat.le_refl _) (.cells #[.int .i64 D'.vn, .slice Y.A D'.l.length Y.c, .slice Y.A2 D'.F.length Y.c2] 25)))
          have HX := Lib.hid (DB.start w2 D' Y 25)
          have HR3 := Lib.hid (And.intro (hdr.alloc (.cells #[.int .i64 D'.vn, .slice Y.A D'.l.length Y.c, .slice Y.A2 D'.F.length Y.c2] 25)) (And.intro (hnw.off (d := D') HD.out.db.lt) (hnw.off (d := D') HD.out.eb.lt)))
          have hz := (show (¬ p = w2.heap.size ∧ ¬ w2.heap.size = p) ∧ (¬ q = w2.heap.size ∧ ¬ w2.heap.size = q) ∧ (¬ p = q ∧ ¬ q = p) by have := (HD.out.up hb).db.lt; have := (HD.out.up hb).eb.lt; have := HD.out.ne; omega)
          generalize w2.alloc (.cells #[.int .i64 D'.vn, .slice Y.A D'.l.length Y.c, .slice Y.A2 D'.F.length Y.c2] 25) = w3 at *
          generalize w2.heap.size = z at *
          clear hnw hdr hb HAP HD
          obtain ⟨⟨x0, x1, x2, xl⟩, f0, f1, f2⟩ := H3.out.db.all
          obtain ⟨y0, y1, y2, y3, yl⟩ := H3.out.eb
          have g0 := H3.out.ef 0; have g1 := H3.out.ef 1; have g2 := H3.out.ef 2; have g3 := H3.out.ef 3
          obtain ⟨⟨z0, z1, z2, zl⟩, -, -, -⟩ := HX.out.all
          obtain ⟨⟨hz1, hz2⟩, ⟨hz3, hz4⟩, hz5, hz6⟩ := hz
          dsimp only at y0 y1 y2 y3
          have HF := Lib.hid ((H3.out.setd HR3.out.1 HR3.out.2.1 HR3.out.2.2).sete 2 1 0 0)
          clear HX HR3 H3
          go_wp2
          exact ⟨⟨i + 1, Y, by rw [Int.natCast_add]; rfl, by omega, Lib.hid (by rw [HNX.out, HE1.out.2, ← HDD.out]; exact HF.out)⟩, by simp [intOf]; omega⟩
        · have HE1 := Lib.hid (show eS i = ⟨2, 1, 0, 0⟩ ∧ eS (i + 1) = ⟨1, 0, 1, 100⟩ from by unfold eS; exact ⟨if_neg hpar, if_pos (by omega)⟩)
          rw [HE1.out.1] at HD HAP
          clear hpar
          go_upto_region 7 with (fail)
          obtain ⟨⟨x0, x1, x2, xl⟩, f0, f1, f2⟩ := HD.out.db.all
          obtain ⟨y0, y1, y2, y3, yl⟩ := HD.out.eb
          go_wp2_with fail
          clear x0 x1 x2 xl f0 f1 f2 y0 y1 y2 y3 yl
          refine (HAP.out X _ HD.out.dr).mono ?_
          rintro e w2 ⟨Y, rfl, hnw, hdr, hb⟩
          go_upto_region 8 with (fail)
          have H3 := Lib.hid ((HD.out.up hb).up ((Below.refl _ _).alloc (Nat.le_refl _) (.cells #[.int .i64 D'.vn, .slice Y.A D'.l.length Y.c, .slice Y.A2 D'.F.length Y.c2] 25)))
          have HX := Lib.hid (DB.start w2 D' Y 25)
          have HR3 := Lib.hid (And.intro (hdr.alloc (.cells #[.int .i64 D'.vn, .slice Y.A D'.l.length Y.c, .slice Y.A2 D'.F.length Y.c2] 25)) (And.intro (hnw.off (d := D') HD.out.db.lt) (hnw.off (d := D') HD.out.eb.lt)))
          have hz := (show (¬ p = w2.heap.size ∧ ¬ w2.heap.size = p) ∧ (¬ q = w2.heap.size ∧ ¬ w2.heap.size = q) ∧ (¬ p = q ∧ ¬ q = p) by have := (HD.out.up hb).db.lt; have := (HD.out.up hb).eb.lt; have := HD.out.ne; omega)
          generalize w2.alloc (.cells #[.int .i64 D'.vn, .slice Y.A D'.l.length Y.c, .slice Y.A2 D'.F.length Y.c2] 25) = w3 at *
          generalize w2.heap.size = z at *
          clear hnw hdr hb HAP HD
          obtain ⟨⟨x0, x1, x2, xl⟩, f0, f1, f2⟩ := H3.out.db.all
          obtain ⟨y0, y1, y2, y3, yl⟩ := H3.out.eb
          have g0 := H3.out.ef 0; have g1 := H3.out.ef 1; have g2 := H3.out.ef 2; have g3 := H3.out.ef 3
          obtain ⟨⟨z0, z1, z2, zl⟩, -, -, -⟩ := HX.out.all
          obtain ⟨⟨hz1, hz2⟩, ⟨hz3, hz4⟩, hz5, hz6⟩ := hz
          dsimp only at y0 y1 y2 y3
          have HF := Lib.hid ((H3.out.setd HR3.out.1 HR3.out.2.1 HR3.out.2.2).sete 1 0 1 100)
          clear HX HR3 H3
          go_wp2
          exact ⟨⟨i + 1, Y, by rw [Int.natCast_add]; rfl, by omega, Lib.hid (by rw [HNX.out, HE1.out.2, ← HDD.out]; exact HF.out)⟩, by simp [intOf]; omega⟩
      · have hge : (m : Int) ≤ (i : Int) := by omega
        have e1 : min i m = m := Nat.min_eq_right (by omega)
        have e3 : mxN - (m : Int) + (m : Int) = mxN := by omega
        have HMM := Lib.hid e3
        have hGO := dS_end m (eS i)
        rw [e1, e3] at HD
        have HNX := Lib.hid (show min (i + 1) m = m from Nat.min_eq_right (by omega))
        obtain ⟨D, hD⟩ : ∃ D, D = dS mxN m := ⟨_, rfl⟩
        obtain ⟨D', hD'⟩ : ∃ D', D' = zD := ⟨_, rfl⟩
        have HAP := Lib.hid (fun X W (k : DR W W.heap.size D X) => show Calls Try.prog 20 #[dv D X, (eS i).v] W (DE W.heap.size W D' 6) from by
          have h := dapply_any D X (eS i) W k (by rw [hD]; exact dS_len _ _)
          rw [hD, hGO.1, hGO.2, ← hD, ← hD'] at h
          exact h)
        rw [← hD] at HD
        have HDD := Lib.hid hD
        clear hD hD' hGO him e1 e3 hlt hi6
        by_cases hpar : i % 2 = 0
        · have HE1 := Lib.hid (show eS i = ⟨1, 0, 1, 100⟩ ∧ eS (i + 1) = ⟨2, 1, 0, 0⟩ from by unfold eS; exact ⟨if_pos hpar, if_neg (by omega)⟩)
          rw [HE1.out.1] at HD HAP
          clear hpar
          go_upto_region 7 with (fail)
          obtain ⟨⟨x0, x1, x2, xl⟩, f0, f1, f2⟩ := HD.out.db.all
          obtain ⟨y0, y1, y2, y3, yl⟩ := HD.out.eb
          go_wp2_with fail
          clear x0 x1 x2 xl f0 f1 f2 y0 y1 y2 y3 yl
          refine (HAP.out X _ HD.out.dr).mono ?_
          rintro e w2 ⟨Y, rfl, hnw, hdr, hb⟩
          go_upto_region 8 with (fail)
          have H3 := Lib.hid ((HD.out.up hb).up ((Below.refl _ _).alloc (Nat.le_refl _) (.cells #[.int .i64 D'.vn, .slice Y.A D'.l.length Y.c, .slice Y.A2 D'.F.length Y.c2] 25)))
          have HX := Lib.hid (DB.start w2 D' Y 25)
          have HR3 := Lib.hid (And.intro (hdr.alloc (.cells #[.int .i64 D'.vn, .slice Y.A D'.l.length Y.c, .slice Y.A2 D'.F.length Y.c2] 25)) (And.intro (hnw.off (d := D') HD.out.db.lt) (hnw.off (d := D') HD.out.eb.lt)))
          have hz := (show (¬ p = w2.heap.size ∧ ¬ w2.heap.size = p) ∧ (¬ q = w2.heap.size ∧ ¬ w2.heap.size = q) ∧ (¬ p = q ∧ ¬ q = p) by have := (HD.out.up hb).db.lt; have := (HD.out.up hb).eb.lt; have := HD.out.ne; omega)
          generalize w2.alloc (.cells #[.int .i64 D'.vn, .slice Y.A D'.l.length Y.c, .slice Y.A2 D'.F.length Y.c2] 25) = w3 at *
          generalize w2.heap.size = z at *
          clear hnw hdr hb HAP HD
          obtain ⟨⟨x0, x1, x2, xl⟩, f0, f1, f2⟩ := H3.out.db.all
          obtain ⟨y0, y1, y2, y3, yl⟩ := H3.out.eb
          have g0 := H3.out.ef 0; have g1 := H3.out.ef 1; have g2 := H3.out.ef 2; have g3 := H3.out.ef 3
          obtain ⟨⟨z0, z1, z2, zl⟩, -, -, -⟩ := HX.out.all
          obtain ⟨⟨hz1, hz2⟩, ⟨hz3, hz4⟩, hz5, hz6⟩ := hz
          dsimp only at y0 y1 y2 y3
          have HF := Lib.hid (H3.out.sete 2 1 0 0)
          clear HX HR3 H3
          go_wp2
          exact ⟨⟨i + 1, X, by rw [Int.natCast_add]; rfl, by omega, Lib.hid (by rw [HNX.out, HE1.out.2, HMM.out, ← HDD.out]; exact HF.out)⟩, by simp [intOf]; omega⟩
        · have HE1 := Lib.hid (show eS i = ⟨2, 1, 0, 0⟩ ∧ eS (i + 1) = ⟨1, 0, 1, 100⟩ from by unfold eS; exact ⟨if_neg hpar, if_pos (by omega)⟩)
          rw [HE1.out.1] at HD HAP
          clear hpar
          go_upto_region 7 with (fail)
          obtain ⟨⟨x0, x1, x2, xl⟩, f0, f1, f2⟩ := HD.out.db.all
          obtain ⟨y0, y1, y2, y3, yl⟩ := HD.out.eb
          go_wp2_with fail
          clear x0 x1 x2 xl f0 f1 f2 y0 y1 y2 y3 yl
          refine (HAP.out X _ HD.out.dr).mono ?_
          rintro e w2 ⟨Y, rfl, hnw, hdr, hb⟩
          go_upto_region 8 with (fail)
          have H3 := Lib.hid ((HD.out.up hb).up ((Below.refl _ _).alloc (Nat.le_refl _) (.cells #[.int .i64 D'.vn, .slice Y.A D'.l.length Y.c, .slice Y.A2 D'.F.length Y.c2] 25)))
          have HX := Lib.hid (DB.start w2 D' Y 25)
          have HR3 := Lib.hid (And.intro (hdr.alloc (.cells #[.int .i64 D'.vn, .slice Y.A D'.l.length Y.c, .slice Y.A2 D'.F.length Y.c2] 25)) (And.intro (hnw.off (d := D') HD.out.db.lt) (hnw.off (d := D') HD.out.eb.lt)))
          have hz := (show (¬ p = w2.heap.size ∧ ¬ w2.heap.size = p) ∧ (¬ q = w2.heap.size ∧ ¬ w2.heap.size = q) ∧ (¬ p = q ∧ ¬ q = p) by have := (HD.out.up hb).db.lt; have := (HD.out.up hb).eb.lt; have := HD.out.ne; omega)
          generalize w2.alloc (.cells #[.int .i64 D'.vn, .slice Y.A D'.l.length Y.c, .slice Y.A2 D'.F.length Y.c2] 25) = w3 at *
          generalize w2.heap.size = z at *
          clear hnw hdr hb HAP HD
          obtain ⟨⟨x0, x1, x2, xl⟩, f0, f1, f2⟩ := H3.out.db.all
          obtain ⟨y0, y1, y2, y3, yl⟩ := H3.out.eb
          have g0 := H3.out.ef 0; have g1 := H3.out.ef 1; have g2 := H3.out.ef 2; have g3 := H3.out.ef 3
          obtain ⟨⟨z0, z1, z2, zl⟩, -, -, -⟩ := HX.out.all
          obtain ⟨⟨hz1, hz2⟩, ⟨hz3, hz4⟩, hz5, hz6⟩ := hz
          dsimp only at y0 y1 y2 y3
          have HF := Lib.hid (H3.out.sete 1 0 1 100)
          clear HX HR3 H3
          go_wp2
          exact ⟨⟨i + 1, X, by rw [Int.natCast_add]; rfl, by omega, Lib.hid (by rw [HNX.out, HE1.out.2, HMM.out, ← HDD.out]; exact HF.out)⟩, by simp [intOf]; omega⟩
    · have e6 : i = 6 := by omega
      subst e6
      have hM : min 6 m = m := Nat.min_eq_right (by omega)
      rw [hM, show mxN - (m : Int) + (m : Int) = mxN by omega] at HD
      have HBW := Lib.hid HD.out.bel
      have hvv := dS_vn mxN m
      obtain ⟨⟨x0, x1, x2, xl⟩, f0, f1, f2⟩ := HD.out.db.all
      rw [hvv] at x0
      clear x1 x2 f1 f2 HD hvv hM hlt hi6
      go_wp2_with fail
      refine (HAW.out _).mono ?_
      rintro e w3 ⟨rfl, hb⟩
      have HB := Lib.hid (HBW.out.trans (hb.mono HBW.out.size))
      clear hb x0 xl f0
      go_wp2
      go_ret
      exact ⟨rfl, HB.out⟩
/-! The row's step, as the guide's shell has it. -/
namespace directoryEnds
open Go.ChangeShapes Go.WideShapes Go.ChangeAt
open Go.ChangeMaps (open_string shut_string)
theorem own : ownKnob Try.prog.godebug = none := by kernel_rfl
theorem laidOut : laidOutB Try.prog = true := by kernel_rfl

set_option maxRecDepth 100000 in
theorem lifted (os : Os) (started : os.Started) (H : Type) (enc : TypeId × Value → H) :
    ReturnsInHanded {} Try.checked os 8 .any (Rows.directoryEndsSpec.pre6 enc Try.prog Try.f8 Rows.directoryEndsRow.domain false) (Rows.directoryEndsSpec.post enc Try.prog Try.f8 false true false false) := by
  refine returnsInHanded_of_change (C := Try.checked) own started (by kernel_rfl) Try.func8
    (ChangeSpec.witness6 (enc := enc) (C := Try.checked) false ⟨#[], #[.int .u8 0], []⟩ 8 (by kernel_rfl) (by kernel_rfl) (by kernel_rfl) (by kernel_rfl)) ?_
  intro W base args ds gs before hval0 hW hcnd _
  have hval : ∀ (j : Nat) t v, Try.f8.params[j]? = some t → args[j]? = some v → Value.okWide Try.prog W .any base t v := hval0
  have hW' := hW
  obtain ⟨p, q, hA0, hV, rfl, hfz, hnd⟩ := hW
  have hA : DataW.TrodAll enc Try.prog W 0 (fun _ => true) true Try.f8.params.toList args.toList ds p := hA0
  rw [Try.params8] at hA hval
  obtain ⟨v0, vs0, d0, ds0, p0, q0, hargs, rfl, rfl, h0, r0⟩ := trodAll_cons hA
  obtain ⟨rfl, rfl, rfl⟩ := trodAll_nil r0
  obtain rfl : args = #[v0] := by cases args; simp_all
  obtain ⟨rfl, rfl⟩ := trodVars_none hV
  obtain ⟨a0, rfl, rfl, rfl, w0⟩ := open_int Try.underlying5 (hval 0 5 v0 rfl rfl) h0
  clear hA0 hval0
  simp only [List.append_nil] at hW'
  refine (DirectoryEnds_walk W a0 w0).mono fun e W' ⟨he, bel⟩ => ?_
  subst he
  exact ⟨_, rfl, _, _, _, [], _, [], hW', trodAll_mk1 (shut_bool Try.underlying4 _), (trodAll_cons_mk (shut_int Try.underlying5 w0) trodAll_mk0), rfl, bel.frame _, fun h => by cases h⟩

theorem over : Rows.directoryEndsRow.holds Try.pinned (OpenSpec.ofChange Rows.directoryEndsSpec) :=
  OpenClaim.holds_of_wide 8 Try.f8 rfl rfl rfl rfl rfl rfl rfl ⟨rfl, rfl, rfl, rfl, rfl⟩ rfl rfl rfl rfl rfl (by kernel_rfl) Try.func8 (by kernel_rfl)
    (of_decide_eq_true (by kernel_rfl)) (by unfold Func.isWrapper; first | (rw [if_pos (by decide +kernel)]; kernel_rfl) | (rw [if_neg (by decide +kernel)]; exact ⟨rfl, rfl⟩))
    (fun os started H enc _ => lifted os started H enc)

/-- The statement. -/
theorem proved : Rows.DirectoryEndsSaid := over
#print axioms proved
end directoryEnds
end Go.Proofs.Ytdobenkkkkaipaa
