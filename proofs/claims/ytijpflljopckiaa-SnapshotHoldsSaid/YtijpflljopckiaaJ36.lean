/- What is proved here: in the statements of layer 14, awake is true; arena.StoreSlot by a task that has not locked the slot, arena.StoreStripe, by contracts; arena.LoadSlot, and StoreSlot by a task that has not locked the slot, by contracts; what the calls of the statement ArenaCells give on its arena; Vg. -/
import Derived.Test.YtijpflljopckiaaJ35
import Derived.Deep.DeepCutAuto
import Derived.Deep.RegionHeld3
import Derived.Test.YtijpflljopckiaaJ27
namespace Go.Proofs.Ytijpflljopckiaa
open Go.RowKit
set_option linter.unusedVariables false

/-- The boxes of an arena and of a snapshot. -/
structure Na14 (w : World) (p q : Nat) (a : Ar) (Y : Ax) (s : Sn) (W : World) : Prop where
  qb : QB W p a Y
  ar : AR W W.heap.size a Y
  nb : NB W q s
  off : AOff a Y q
  ofp : AOff a Y p
  ne : w.heap.size ≤ p ∧ w.heap.size ≤ q ∧ p ≠ q
  bel : Below w.heap.size w W
section
variable {w W W' : World} {p q : Nat} {a b : Ar} {Y Z : Ax} {s t : Sn}
theorem Na14.below (h : Na14 w p q a Y s W) (hb : Below W.heap.size W W') : Na14 w p q a Y s W' := ⟨h.qb.up hb, h.ar.up hb, h.nb.up hb, h.off, h.ofp, h.ne, h.bel.trans (hb.mono h.bel.size)⟩
theorem Na14.put (h : Na14 w p q a Y s W) (t : Sn) : Na14 w p q a Y t (set4n W q t) :=
  ⟨h.qb.set4n (fun e => h.ne.2.2 e.symm) t, (h.ar.set4n h.off t).more (by rw [set4n_size]; exact Nat.le_refl _), h.nb.set t, h.off, h.ofp, h.ne, set4n_below h.bel h.ne.2.1 t⟩
/-- An arena's box alone, behind New. -/
theorem Aw12.snap (h : Aw12 w p a Y W) (hb : Below W.heap.size W W') (hn : NB W' q t) (hq : W.heap.size ≤ q) (ho : AOff a Y p) : Na14 w p q a Y t W' :=
  ⟨h.qb.up hb, h.ar.up hb, hn, h.ar.offs hq, ho, ⟨h.old, Nat.le_trans h.bel.size hq, Nat.ne_of_lt (Nat.lt_of_lt_of_le h.qb.lt hq)⟩, h.bel.trans (hb.mono h.bel.size)⟩
/-- Behind a call in a statement that declares a snapshot: it was made before, or not yet. -/
theorem al_2 (hb : Below (W.alloc (.cells #[.int .i64 0, .int .i64 0, .int .i64 0, .int .i64 0] 43)).drew.heap.size (W.alloc (.cells #[.int .i64 0, .int .i64 0, .int .i64 0, .int .i64 0] 43)).drew W') : Below W.heap.size W W' ∧ NB W' W.heap.size zSn ∧ W.heap.size ≤ W.heap.size := by
  have h1 : NB (W.alloc (.cells #[.int .i64 0, .int .i64 0, .int .i64 0, .int .i64 0] 43)) W.heap.size zSn := NB.start W zSn 43
  have h2 : Below (W.alloc (.cells #[.int .i64 0, .int .i64 0, .int .i64 0, .int .i64 0] 43)).heap.size (W.alloc (.cells #[.int .i64 0, .int .i64 0, .int .i64 0, .int .i64 0] 43)) W' := (Below.refl _ _).drew.trans hb
  exact ⟨((Below.refl W.heap.size W).alloc (Nat.le_refl _) (.cells #[.int .i64 0, .int .i64 0, .int .i64 0, .int .i64 0] 43)).trans (h2.mono (by simp)), h1.up h2, Nat.le_refl _⟩
theorem al_3 (hb : Below (W.alloc (.cells #[.int .i64 0, .int .i64 0, .int .i64 0, .int .i64 0] 43)).heap.size (W.alloc (.cells #[.int .i64 0, .int .i64 0, .int .i64 0, .int .i64 0] 43)) W') : Below W.heap.size W W' ∧ NB W' W.heap.size zSn ∧ W.heap.size ≤ W.heap.size := by
  have h1 : NB (W.alloc (.cells #[.int .i64 0, .int .i64 0, .int .i64 0, .int .i64 0] 43)) W.heap.size zSn := NB.start W zSn 43
  exact ⟨((Below.refl W.heap.size W).alloc (Nat.le_refl _) (.cells #[.int .i64 0, .int .i64 0, .int .i64 0, .int .i64 0] 43)).trans (hb.mono (by simp)), h1.up hb, Nat.le_refl _⟩
theorem k11_set {x : Addr} (h : K11 p a Y W) (hp : x.block ≠ p) (v : Value) : K11 p a Y (W.setCell x v) := by
  have g : ∀ o, (W.setCell x v).cell? ⟨p, o, none⟩ = W.cell? ⟨p, o, none⟩ := fun o => World.cell?_setCell_other W x ⟨p, o, none⟩ v (fun e => hp (by rw [e]))
  unfold K11 at h ⊢
  simp only [g]
  exact h
theorem al_1 (hb : Below W.drew.heap.size W.drew W') : Below W.heap.size W W' := (Below.refl _ _).drew.trans hb
end
theorem nw_words {s : Su} (h : suB s = true) : (nwA s).ep = s.ep ∧ (nwA s).ck = s.ck ∧ (nwA s).ni = s.ni ∧ (nwA s).sl.length = s.sl.toNat := by
  have e : nwA s = grA s s.sl.toNat s.sl.toNat s.dd := if_pos h
  rw [e]
  exact ⟨rfl, rfl, rfl, grA_sl _ _ _ _⟩
abbrev su14 : Su := ⟨1, 1, 1, 1, 1, 0, 1, 0⟩
abbrev su14a : Su := ⟨1, 1, 1, 1, 1, 9, 1, 2⟩
theorem su14_ok : suB su14 = true ∧ nwAE su14 = 0 ∧ suB su14a = true ∧ nwAE su14a = 0 := by decide
/-- What awake's calls give. -/
structure Ca14 (A0 : Ar) : Prop where
  nw : ∀ W, Calls Try.prog 8 #[.agg #[.int .i64 1, .int .i64 1, .int .i64 1, .int .i64 1, .int .i64 1, .int .i64 9, .int .i64 1, .int .i64 2]] W (AE W A0 0)
  nn : ∀ W, Calls Try.prog 9 #[] W (NR W zSn)
  s1 : ∀ Y W, Calls Try.prog 10 #[av A0 Y, .agg #[.int .i64 0, .int .i64 0, .int .i64 0, .int .i64 0], .int .i64 1] W (NE W ⟨1, 2, 0, 0⟩ 0)
  s2 : ∀ Y W, Calls Try.prog 10 #[av A0 Y, .agg #[.int .i64 1, .int .i64 2, .int .i64 0, .int .i64 0], .int .i64 2] W (NE W ⟨2, 2, 9, 2⟩ 0)
  s3 : ∀ Y W, Calls Try.prog 10 #[av A0 Y, .agg #[.int .i64 2, .int .i64 2, .int .i64 9, .int .i64 2], .int .i64 3] W (NE W ⟨3, 2, 9, 2⟩ 0)
theorem ca14 : ∃ A0, Ca14 A0 := by
  have hn := fun W => anew_any su14a W
  rw [su14_ok.2.2.2] at hn
  obtain ⟨h1, h2, -, -⟩ := nw_words su14_ok.2.2.1
  refine ⟨nwA su14a, hn, fun W => nnew_any W, fun Y W => ?_, fun Y W => ?_, fun Y W => ?_⟩
  · have h := nstep_any (nwA su14a) Y 0 0 0 0 1 W
    rw [h1, h2] at h
    exact h
  · have h := nstep_any (nwA su14a) Y 1 2 0 0 2 W
    rw [h1, h2] at h
    exact h
  · have h := nstep_any (nwA su14a) Y 2 2 9 2 3 W
    rw [h1, h2] at h
    exact h
set_option maxHeartbeats 8000000 in
set_option maxRecDepth 20000 in
theorem awake14_any (w : World) : Calls Try.prog 14 #[] w fun e w' => e = .returned (.bool true) ∧ Below w.heap.size w w' := by
  obtain ⟨A0, hca⟩ := ca14
  have HCA := Lib.hid hca
  clear hca
  go_enter Try.func14, Try.ntmps14
  go_wp2_with fail
  refine (HCA.out.nw _).mono ?_
  rintro e w1 ⟨Y, rfl, hn, hr, hb⟩
  have H1 := Lib.hid (Aw12.start (w := w) hb hr)
  have HOP := Lib.hid (hr.offs (Nat.le_refl _))
  clear hn hr hb
  go_upto_region 2 with (fail)
  obtain ⟨p, hp⟩ : ∃ p, p = w1.heap.size := ⟨_, rfl⟩
  rw [← hp] at H1 HOP ⊢
  clear hp
  generalize w1.alloc (.cells #[.slice Y.A A0.sl.length Y.c, .slice Y.A2 A0.st.length Y.c2, .int .i64 A0.ow, .int .i64 A0.cap, .slice Y.A3 A0.dl.length Y.c3, .int .i64 A0.dir.vn, .slice Y.D.A A0.dir.l.length Y.D.c, .slice Y.D.A2 A0.dir.F.length Y.D.c2, .int .i64 A0.ep, .int .i64 A0.ck, .int .i64 A0.ni] 36) = wr at *
  have HSK := Lib.hid (show ∀ W, Below wr.heap.size wr W → K11 p A0 Y W from fun W h => (H1.out.qb.up h).k)
  have HB0 := Lib.hid (Below.refl wr.heap.size wr)
  have HPL := Lib.hid H1.out.qb.lt
  have HQ0 := Lib.hid (show wr.heap.size ≠ p from by have := HPL.out; omega)
  go_cut [3, 4] (fun s3 s4 wx => ∃ q : Nat, s3 = .pointer (some ⟨q, 0, none⟩) ∧ s4 = .int .i64 0 ∧ Hid (Na14 w p q A0 Y ⟨1, 2, 0, 0⟩ wx))
  case first =>
    go_region_held3 (fun W => K11 p A0 Y W)
      (((repeat' (with_reducible refine k11_set ?_ (by first | with_reducible exact HQ0.out | with_reducible exact HQ4.out | with_reducible exact HQ5.out) _)); refine HSK.out _ ?_; repeat' (first | with_reducible exact HB0.out | with_reducible exact HB4.out | with_reducible exact HB5.out | with_reducible refine bal ?_ _ | with_reducible refine bdr ?_ | exact Nat.le_refl _ | (simp; done) | (simp; omega))))
      (first | ((go_at_call 9; refine (HCA.out.nn _).mono ?_; rintro e w4 ⟨rfl, hb⟩; first | (have HX4 := Lib.hid (al_2 hb).2; have HB4 := Lib.hid (al_2 hb).1; clear hb) | (have HB4 := Lib.hid (al_1 hb); clear hb)); (have HQ4 := Lib.hid (show w4.heap.size ≠ p from by have := HB4.out.size; have := HPL.out; omega))) | ((go_at_call 10; refine (HCA.out.s1 _ _).mono ?_; rintro e w5 ⟨rfl, hb⟩; first | (have HX5 := Lib.hid (al_3 hb).2; have HB5 := Lib.hid (HB4.out.trans ((al_3 hb).1.mono HB4.out.size)); have HS5 := Lib.hid HB4.out.size; obtain ⟨u0, u1, u2, u3⟩ := HX5.out.1.k; simp only [zSn] at u0 u1 u2 u3; have ul := HX5.out.1.lt; obtain ⟨g0, g1, g2, g3⟩ := HX5.out.1.free; clear hb) | (have HB5 := Lib.hid (HB4.out.trans (hb.mono HB4.out.size)); have HX5 := Lib.hid (And.intro (HX4.out.1.up hb) HX4.out.2); obtain ⟨u0, u1, u2, u3⟩ := HX5.out.1.k; simp only [zSn] at u0 u1 u2 u3; have ul := HX5.out.1.lt; obtain ⟨g0, g1, g2, g3⟩ := HX5.out.1.free; clear hb) | (have HB5 := Lib.hid (HB4.out.trans (hb.mono HB4.out.size)); clear hb)); (have HQ5 := Lib.hid (show w5.heap.size ≠ p from by have := HB5.out.size; have := HPL.out; omega))))
    all_goals
      first
      | (have HN := Lib.hid ((H1.out.snap HB5.out HX5.out.1 (Nat.le_trans HB0.out.size HX5.out.2) HOP.out).put ⟨1, 2, 0, 0⟩); go_wp2_with fail; go_meet; exact ⟨_, rfl, rfl, HN⟩)
      | (have HN := Lib.hid ((H1.out.snap HB5.out HX5.out.1 (Nat.le_trans HB4.out.size HX5.out.2) HOP.out).put ⟨1, 2, 0, 0⟩); go_wp2_with fail; go_meet; exact ⟨_, rfl, rfl, HN⟩)
      | (have HN := Lib.hid (H1.out.snap (bal HB5.out (.cells #[.int .i64 1, .int .i64 2, .int .i64 0, .int .i64 0] 43)) (NB.start w5 ⟨1, 2, 0, 0⟩ 43) HB5.out.size HOP.out); go_wp2_with fail; go_meet; exact ⟨_, rfl, rfl, HN⟩)
  case rest =>
    clear HSK HB0 HOP H1 HPL HQ0
    obtain ⟨q, rfl, rfl, HN⟩ := hcut
    obtain ⟨y0, y1, y2, y3, y4, y5, y6, y7, y8, y9, y10⟩ := HN.out.qb.k
    have yl := HN.out.qb.lt
    obtain ⟨p0, p1, p2, p3⟩ := HN.out.nb.k
    have pl := HN.out.nb.lt
    simp only at p0 p1 p2 p3
    go_wp2_with fail
    clear y0 y1 y2 y3 y4 y5 y6 y7 y8 y9 y10 yl p0 p1 p2 p3 pl
    refine (HCA.out.s2 _ _).mono ?_
    rintro e w2 ⟨rfl, hb⟩
    have HM := Lib.hid (show Na14 w p q A0 Y ⟨2, 2, 9, 2⟩ ((((w2.setCell ⟨q, 0, none⟩ (.int .i64 2)).setCell ⟨q, 1, none⟩ (.int .i64 2)).setCell ⟨q, 2, none⟩ (.int .i64 9)).setCell ⟨q, 3, none⟩ (.int .i64 2)) from (HN.out.below hb).put ⟨2, 2, 9, 2⟩)
    replace HN := Lib.hid (HN.out.below hb)
    clear hb
    obtain ⟨p0, p1, p2, p3⟩ := HN.out.nb.k
    have pl := HN.out.nb.lt
    obtain ⟨f0, f1, f2, f3⟩ := HN.out.nb.free
    go_upto_region 4 with (fail)
    clear p0 p1 p2 p3 pl f0 f1 f2 f3 HN
    have HN := Lib.hid HM.out
    clear HM
    generalize (((w2.setCell ⟨q, 0, none⟩ (.int .i64 2)).setCell ⟨q, 1, none⟩ (.int .i64 2)).setCell ⟨q, 2, none⟩ (.int .i64 9)).setCell ⟨q, 3, none⟩ (.int .i64 2) = x2 at *
    obtain ⟨y0, y1, y2, y3, y4, y5, y6, y7, y8, y9, y10⟩ := HN.out.qb.k
    have yl := HN.out.qb.lt
    obtain ⟨p0, p1, p2, p3⟩ := HN.out.nb.k
    have pl := HN.out.nb.lt
    simp only at p0 p1 p2 p3
    go_wp2_with fail
    clear y0 y1 y2 y3 y4 y5 y6 y7 y8 y9 y10 yl p0 p1 p2 p3 pl
    refine (HCA.out.s3 _ _).mono ?_
    rintro e w3 ⟨rfl, hb⟩
    have HM := Lib.hid (show Na14 w p q A0 Y ⟨3, 2, 9, 2⟩ ((((w3.setCell ⟨q, 0, none⟩ (.int .i64 3)).setCell ⟨q, 1, none⟩ (.int .i64 2)).setCell ⟨q, 2, none⟩ (.int .i64 9)).setCell ⟨q, 3, none⟩ (.int .i64 2)) from (HN.out.below hb).put ⟨3, 2, 9, 2⟩)
    replace HN := Lib.hid (HN.out.below hb)
    clear hb
    obtain ⟨p0, p1, p2, p3⟩ := HN.out.nb.k
    have pl := HN.out.nb.lt
    obtain ⟨f0, f1, f2, f3⟩ := HN.out.nb.free
    go_upto_region 5 with (fail)
    clear p0 p1 p2 p3 pl f0 f1 f2 f3 HN
    have HN := Lib.hid HM.out
    clear HM
    generalize (((w3.setCell ⟨q, 0, none⟩ (.int .i64 3)).setCell ⟨q, 1, none⟩ (.int .i64 2)).setCell ⟨q, 2, none⟩ (.int .i64 9)).setCell ⟨q, 3, none⟩ (.int .i64 2) = x3 at *
    obtain ⟨p0, p1, p2, p3⟩ := HN.out.nb.k
    have pl := HN.out.nb.lt
    simp only at p0 p1 p2 p3
    have HFIN := Lib.hid HN.out.bel
    clear HN HCA
    go_wp2
    go_ret
    exact ⟨rfl, HFIN.out⟩
end Go.Proofs.Ytijpflljopckiaa
namespace Go.Proofs.Ytijpflljopckiaa
open Go.RowKit
set_option linter.unusedVariables false

theorem st_app_set (s : St) (X : List Value) (k : Nat) (v : Value) : (s.l ++ X).set (4 + k) v = s.l ++ X.set k v := by
  rw [List.set_append_right _ _ (by rw [St.l_len]; omega), St.l_len, Nat.add_sub_cancel_left]
theorem tcs_set (l : List St) (i : Nat) (s : St) (h : i < l.length) : (((((tcs l).set (i * 4) (.int .i64 s.sq)).set (i * 4 + 1) (.int .i64 s.ep)).set (i * 4 + 2) (.int .i64 s.rd)).set (i * 4 + 3) (.int .i64 s.ls)) = tcs (l.set i s) := by
  induction l generalizing i with
  | nil => simp at h
  | cons u l ih =>
    cases i with
    | zero => rfl
    | succ i =>
      have h' : i < l.length := by simpa using h
      have e : ∀ k, (i + 1) * 4 + k = 4 + (i * 4 + k) := fun k => by omega
      have e0 : (i + 1) * 4 = 4 + i * 4 := by omega
      rw [tcs_cons, List.set_cons_succ, tcs_cons, ← ih i h', e 1, e 2, e 3, e0, st_app_set, st_app_set, st_app_set, st_app_set]
/-- The world behind stores into the stripes' row. -/
structure Kx (w : World) (p r b b2 : Nat) (a : Ar) (Y : Ax) (cs : List Value) (W : World) : Prop where
  pb : QB W p a Y
  rb : QB W r zA zAx
  ro : Rb W b (qcs Y.q)
  r2 : Rb W b2 cs
  sr : ∀ t ∈ Y.q, SR W W.heap.size t.sh t.sx
  ls : Ls W W.heap.size (.slice Y.A3 a.dl.length Y.c3) a.dl
  dr : DR W W.heap.size a.dir Y.D
  bel : Below w.heap.size w W
theorem Kx.step {w W : World} {p r b b2 : Nat} {a : Ar} {Y : Ax} {cs : List Value} (h : Kx w p r b b2 a Y cs W) (n : w.heap.size ≤ b2 ∧ b2 ≠ b ∧ b2 ≠ p ∧ b2 ≠ r) (o1 : ∀ t ∈ Y.q, SOff t.sh t.sx b2) (o3 : OffB b2 a.dl.length Y.A3) (o4 : DOff a.dir Y.D b2) {j : Nat} (hj : j < cs.length) (v : Value) : Kx w p r b b2 a Y (cs.set j v) (W.setCell ⟨b2, j, none⟩ v) :=
  ⟨h.pb.other (x := ⟨b2, j, none⟩) (show b2 ≠ p from n.2.2.1) v, h.rb.other (x := ⟨b2, j, none⟩) (show b2 ≠ r from n.2.2.2) v, h.ro.other (a := ⟨b2, j, none⟩) (show b2 ≠ b from n.2.1) v, h.r2.set hj v, fun t ht => ((h.sr t ht).offp (p := ⟨b2, j, none⟩) (o1 t ht) v).more (by simp), (h.ls.offp (p := ⟨b2, j, none⟩) o3 v).more (by simp), (h.dr.offp (q := ⟨b2, j, none⟩) o4 v).more (by simp), h.bel.setCell (p := ⟨b2, j, none⟩) n.1 v⟩
/-- The four stores of a stripe. -/
abbrev sets4 (W : World) (b o : Nat) (s : St) : World := (((W.setCell ⟨b, o, none⟩ (.int .i64 s.sq)).setCell ⟨b, o + 1, none⟩ (.int .i64 s.ep)).setCell ⟨b, o + 2, none⟩ (.int .i64 s.rd)).setCell ⟨b, o + 3, none⟩ (.int .i64 s.ls)
def Ar.setSt (a : Ar) (i : Nat) (s : St) : Ar := ⟨a.sl, a.st.set i s, a.ow, a.cap, a.dl, a.dir, a.ep, a.ck, a.ni⟩
theorem QB.setSt {W : World} {p : Nat} {a : Ar} {Y : Ax} (h : QB W p a Y) (i : Nat) (s : St) : QB W p (a.setSt i s) Y := by
  obtain ⟨⟨y0, y1, y2, y3, y4, y5, y6, y7, y8, y9, y10⟩, fr, lt⟩ := h
  exact ⟨⟨y0, by rw [show (a.setSt i s).st.length = a.st.length from List.length_set]; exact y1, y2, y3, y4, y5, y6, y7, y8, y9, y10⟩, fr, lt⟩
/-- The stripes' row of a copy that lies in a box: its place, its cells, and what a store of a stripe leaves. -/
theorem Cb12.stripe {w W : World} {p r b p' r' : Nat} {a : Ar} {Y : Ax} (h : Cb12 w p r b a Y W) (hS : Sr12 p' r' b a Y W) (hn : Y.nw (r + 1)) {i : Nat} (hi : i < a.st.length) : ∃ b2, Y.A2 = some ⟨b2, 0, none⟩ ∧ b2 < W.heap.size ∧ (W.cell? ⟨b2, i * 4, none⟩ = some (.int .i64 (tg a.st i).sq) ∧ W.cell? ⟨b2, i * 4 + 1, none⟩ = some (.int .i64 (tg a.st i).ep) ∧ W.cell? ⟨b2, i * 4 + 2, none⟩ = some (.int .i64 (tg a.st i).rd) ∧ W.cell? ⟨b2, i * 4 + 3, none⟩ = some (.int .i64 (tg a.st i).ls)) ∧ (∀ o, W.frozen? ⟨b2, o, none⟩ = false) ∧ ∀ s, Cb12 w p r b (a.setSt i s) Y (sets4 W b2 (i * 4) s) := by
  obtain ⟨b2, e2, hc2, hr2, hne2, o1, o3, o4⟩ := hS (by omega)
  have hne := h.ne
  have hlo : r + 1 ≤ b2 := hn.n2 _ e2
  have htg : (tg a.st i).l = (a.st[i]).l := by unfold tg; rw [List.getD_eq_getElem?_getD, List.getElem?_eq_getElem hi]; rfl
  have g : ∀ j u, j < 4 → (tg a.st i).l[j]? = some u → W.cell? ⟨b2, i * 4 + j, none⟩ = some u := fun j u hj hu => hr2.c _ u (by rw [tcs_at a.st i j hi hj, ← htg]; exact hu)
  refine ⟨b2, e2, hr2.lt, ⟨g 0 _ (by omega) rfl, g 1 _ (by omega) rfl, g 2 _ (by omega) rfl, g 3 _ (by omega) rfl⟩, hr2.f, fun s => ?_⟩
  have n4 : w.heap.size ≤ b2 ∧ b2 ≠ b ∧ b2 ≠ p ∧ b2 ≠ r := ⟨by omega, hne2.1, by omega, by omega⟩
  have k0 : Kx w p r b b2 a Y (tcs a.st) W := ⟨h.pb, h.rb, h.ro, hr2, fun t ht => (h.sr t ht).1, h.ls.1, h.dr.1, h.bel⟩
  have hlen := tcs_len a.st
  have k4 := (((k0.step n4 o1 o3 o4 (j := i * 4) (by omega) (.int .i64 s.sq)).step n4 o1 o3 o4 (j := i * 4 + 1) (by rw [List.length_set]; omega) (.int .i64 s.ep)).step n4 o1 o3 o4 (j := i * 4 + 2) (by rw [List.length_set, List.length_set]; omega) (.int .i64 s.rd)).step n4 o1 o3 o4 (j := i * 4 + 3) (by rw [List.length_set, List.length_set, List.length_set]; omega) (.int .i64 s.ls)
  rw [tcs_set a.st i s hi] at k4
  have el : (a.setSt i s).st.length = a.st.length := List.length_set
  refine ⟨k4.pb.setSt i s, k4.rb, k4.ro, h.ea, h.ec, h.so, fun t ht => ⟨k4.sr t ht, (h.sr t ht).2⟩, ⟨?_, by rw [el]; exact h.tl.2.1, by rw [el]; exact h.tl.2.2.1, by rw [el]; exact h.tl.2.2.2⟩, ⟨k4.ls, h.ls.2⟩, ⟨k4.dr, h.dr.2⟩, h.ne, k4.bel⟩
  rw [e2]
  refine ⟨_, Y.c2, rfl, by rw [el]; exact hc2.1, hc2.2, ?_, fun _ => ⟨b2, 0, rfl, k4.r2.lt, fun j u hu => by rw [Nat.zero_add]; exact k4.r2.c j u hu⟩⟩
  show (tcs (a.st.set i s)).length = (a.setSt i s).st.length * 4
  rw [tcs_len]; rfl
theorem YT.far11 {W : World} {p q : Nat} {s : St} (h : YT W q s) (hpq : p ≠ q) (a : Ar) (Y : Ax) : YT (set11 W p a Y) q s := by
  obtain ⟨⟨t0, t1, t2, t3⟩, tl⟩ := h
  have n : ∀ i j, (⟨p, i, none⟩ : Addr) ≠ ⟨q, j, none⟩ := fun i j e => hpq (congrArg Addr.block e)
  have g : ∀ i v, W.cell? ⟨q, i, none⟩ = some v → (set11 W p a Y).cell? ⟨q, i, none⟩ = some v := fun i v h => by
    show World.cell? (set11 W p a Y) _ = _
    unfold set11
    rw [World.cell?_setCell_other _ _ _ _ (n 10 i), World.cell?_setCell_other _ _ _ _ (n 9 i), World.cell?_setCell_other _ _ _ _ (n 8 i), World.cell?_setCell_other _ _ _ _ (n 7 i), World.cell?_setCell_other _ _ _ _ (n 6 i), World.cell?_setCell_other _ _ _ _ (n 5 i), World.cell?_setCell_other _ _ _ _ (n 4 i), World.cell?_setCell_other _ _ _ _ (n 3 i), World.cell?_setCell_other _ _ _ _ (n 2 i), World.cell?_setCell_other _ _ _ _ (n 1 i), World.cell?_setCell_other _ _ _ _ (n 0 i)]
    exact h
  exact ⟨⟨g 0 _ t0, g 1 _ t1, g 2 _ t2, g 3 _ t3⟩, by rw [set11_size]; exact tl⟩
end Go.Proofs.Ytijpflljopckiaa
namespace Go.Proofs.Ytijpflljopckiaa
open Go.RowKit
set_option linter.unusedVariables false

/-- An arena's box and a result's of a shard. -/
structure Ls12 (w : World) (p r : Nat) (a : Ar) (Y : Ax) (W : World) : Prop where
  aw : Aw12 w p a Y W
  rb : SB8 W r zS zX
  rn : w.heap.size ≤ r ∧ p < r
theorem Ls12.below {w W W' : World} {p r : Nat} {a : Ar} {Y : Ax} (h : Ls12 w p r a Y W) (hb : Below W.heap.size W W') : Ls12 w p r a Y W' := ⟨h.aw.below hb, h.rb.up hb, h.rn⟩
theorem Ls12.start {w : World} {a : Ar} {Y : Ax} (har : AR w w.heap.size a Y) : Ls12 w w.heap.size (w.heap.size + 1) a Y ((w.alloc (.cells #[.slice Y.A a.sl.length Y.c, .slice Y.A2 a.st.length Y.c2, .int .i64 a.ow, .int .i64 a.cap, .slice Y.A3 a.dl.length Y.c3, .int .i64 a.dir.vn, .slice Y.D.A a.dir.l.length Y.D.c, .slice Y.D.A2 a.dir.F.length Y.D.c2, .int .i64 a.ep, .int .i64 a.ck, .int .i64 a.ni] 36)).alloc (.cells #[.bool false, .int .i64 0, .int .i64 0, .slice none 0 0, .int .i64 0, .int .i64 0, .slice none 0 0, .slice none 0 0] 85)) := by
  have h1 := SB8.zero (w.alloc (.cells #[.slice Y.A a.sl.length Y.c, .slice Y.A2 a.st.length Y.c2, .int .i64 a.ow, .int .i64 a.cap, .slice Y.A3 a.dl.length Y.c3, .int .i64 a.dir.vn, .slice Y.D.A a.dir.l.length Y.D.c, .slice Y.D.A2 a.dir.F.length Y.D.c2, .int .i64 a.ep, .int .i64 a.ck, .int .i64 a.ni] 36)) 85
  rw [show (w.alloc (.cells #[.slice Y.A a.sl.length Y.c, .slice Y.A2 a.st.length Y.c2, .int .i64 a.ow, .int .i64 a.cap, .slice Y.A3 a.dl.length Y.c3, .int .i64 a.dir.vn, .slice Y.D.A a.dir.l.length Y.D.c, .slice Y.D.A2 a.dir.F.length Y.D.c2, .int .i64 a.ep, .int .i64 a.ck, .int .i64 a.ni] 36)).heap.size = w.heap.size + 1 by simp] at h1
  exact ⟨(Aw12.start (Below.refl _ _) har).below ((Below.refl _ _).alloc (Nat.le_refl _) _), h1, by omega, by omega⟩
end Go.Proofs.Ytijpflljopckiaa
namespace Go.Proofs.Ytijpflljopckiaa
open Go.RowKit
set_option linter.unusedVariables false

section
variable {a : Ar} {n v : Nat} {t m : Int}
theorem Ar.Few.stripe (h : a.Few) (i : Nat) (s : St) : (a.setSt i s).Few := ⟨h.sl, by show (a.st.set i s).length ≤ 1000; rw [List.length_set]; exact h.st, h.dl, h.dr, h.sh⟩
end
end Go.Proofs.Ytijpflljopckiaa
/- Plain: an array of 41 numbers in a block; what SnapshotHolds holds from step to step. -/
namespace Go.Proofs.Ytijpflljopckiaa
open Go.RowKit
set_option linter.unusedVariables false

/-- Block b holds the first 41 of these numbers, and may be written. -/
structure NA14 (W : World) (b : Nat) (f : Nat → Int) : Prop where
  c : ∀ i, i < 41 → W.cell? ⟨b, i, none⟩ = some (.int .i64 (f i))
  fr : ∀ o, W.frozen? ⟨b, o, none⟩ = false
  lt : b < W.heap.size
theorem rep_at {n i : Nat} (v : Value) (h : i < n) : ((List.replicate n v).toArray)[i]? = some v := by simp [h]
def Z41 : Array Value := (List.replicate 41 (Value.int .i64 0)).toArray
theorem z41 {i : Nat} (h : i < 41) : Z41[i]? = some (.int .i64 0) := rep_at (n := 41) (.int .i64 0) h
theorem sz41 (W : World) (A : Array Value) (t : TypeId) : (W.alloc (.cells A t)).heap.size = W.heap.size + 1 := by simp
theorem NA14.start (w : World) (t : TypeId) : NA14 (w.alloc (.cells Z41 t)) w.heap.size (fun _ => 0) :=
  ⟨fun i hi => by
    have h := z41 hi
    generalize Z41 = A at *
    simp [go_sem, h], fun o => by simp [go_sem], by simp⟩
def upd14 (f : Nat → Int) (n : Nat) (v : Int) : Nat → Int := fun j => if j = n then v else f j
section
variable {W W' : World} {b g : Nat} {f : Nat → Int}
theorem NA14.keep (h : NA14 W b f) (hc : ∀ o, W'.cell? ⟨b, o, none⟩ = W.cell? ⟨b, o, none⟩) (hf : ∀ o, W'.frozen? ⟨b, o, none⟩ = W.frozen? ⟨b, o, none⟩) (hs : W.heap.size ≤ W'.heap.size) : NA14 W' b f :=
  ⟨fun i hi => (hc i).trans (h.c i hi), fun o => (hf o).trans (h.fr o), Nat.lt_of_lt_of_le h.lt hs⟩
theorem NA14.up (h : NA14 W b f) (hb : Below W.heap.size W W') : NA14 W' b f := h.keep (fun o => hb.cell (p := ⟨b, o, none⟩) h.lt) (fun o => hb.frozen (p := ⟨b, o, none⟩) h.lt) hb.size
theorem NA14.other (h : NA14 W b f) {x : Addr} (hne : x.block ≠ b) (v : Value) : NA14 (W.setCell x v) b f :=
  h.keep (fun o => World.cell?_setCell_other W x ⟨b, o, none⟩ v (fun e => hne (by rw [e]))) (fun o => by simp [go_sem]) (by simp)
theorem NA14.grown (h : NA14 W b f) (hg : W.grownBy W' (some g)) (hne : b ≠ g) : NA14 W' b f := h.keep (fun o => hg.cell_far ⟨b, o, none⟩ h.lt (fun e => by injection e with e; exact hne e)) (fun o => hg.frozen_far ⟨b, o, none⟩ h.lt (fun e => by injection e with e; exact hne e)) hg.size
theorem NA14.put (h : NA14 W b f) {n : Nat} (hn : n < 41) (v : Int) : NA14 (W.setCell ⟨b, n, none⟩ (.int .i64 v)) b (upd14 f n v) :=
  ⟨fun i hi => by
    by_cases e : i = n
    · subst e
      rw [World.cell?_setCell_same' _ _ _ (by rw [h.c i hi]; rfl)]
      simp [upd14]
    · rw [World.cell?_setCell_other _ _ _ _ (fun e' => e (by injection e' with _ e2 _; exact e2.symm)), h.c i hi]
      simp [upd14, e], fun o => by rw [World.frozen?_setCell]; exact h.fr o, by simpa using h.lt⟩
theorem NA14.set4n {q : Nat} (h : NA14 W b f) (hp : q ≠ b) (s : Sn) : NA14 (set4n W q s) b f :=
  (((h.other (x := ⟨q, 0, none⟩) hp _).other (x := ⟨q, 1, none⟩) hp _).other (x := ⟨q, 2, none⟩) hp _).other (x := ⟨q, 3, none⟩) hp _
theorem NA14.set11 {p : Nat} (h : NA14 W b f) (hp : p ≠ b) (a : Ar) (Y : Ax) : NA14 (set11 W p a Y) b f :=
  ((((((((((h.other (x := ⟨p, 0, none⟩) hp _).other (x := ⟨p, 1, none⟩) hp _).other (x := ⟨p, 2, none⟩) hp _).other (x := ⟨p, 3, none⟩) hp _).other (x := ⟨p, 4, none⟩) hp _).other (x := ⟨p, 5, none⟩) hp _).other (x := ⟨p, 6, none⟩) hp _).other (x := ⟨p, 7, none⟩) hp _).other (x := ⟨p, 8, none⟩) hp _).other (x := ⟨p, 9, none⟩) hp _).other (x := ⟨p, 10, none⟩) hp _
end
section
variable {W W' : World} {B n c g p q : Nat} {A : Option Addr} {a : Ar} {Y : Ax}
theorem SrcAt.set11v (h : SrcAt W B g) (hq : B ≤ p) (hne : p ≠ g) (a : Ar) (Y : Ax) : SrcAt (set11 W p a Y) B g :=
  ((((((((((h.other (p := ⟨p, 0, none⟩) hne hq _).other (p := ⟨p, 1, none⟩) hne hq _).other (p := ⟨p, 2, none⟩) hne hq _).other (p := ⟨p, 3, none⟩) hne hq _).other (p := ⟨p, 4, none⟩) hne hq _).other (p := ⟨p, 5, none⟩) hne hq _).other (p := ⟨p, 6, none⟩) hne hq _).other (p := ⟨p, 7, none⟩) hne hq _).other (p := ⟨p, 8, none⟩) hne hq _).other (p := ⟨p, 9, none⟩) hne hq _).other (p := ⟨p, 10, none⟩) hne hq _
theorem SrcAt.set4n (h : SrcAt W B g) (hq : B ≤ q) (hne : q ≠ g) (s : Sn) : SrcAt (set4n W q s) B g :=
  (((h.other (p := ⟨q, 0, none⟩) hne hq _).other (p := ⟨q, 1, none⟩) hne hq _).other (p := ⟨q, 2, none⟩) hne hq _).other (p := ⟨q, 3, none⟩) hne hq _
theorem Rd.grown14 {size g : Nat} {xs : List Value} (h : Rd W B size A n xs) (hB : B ≤ W.heap.size) (hg : W.grownBy W' (some g)) (ho : OffB g n A) : Rd W' B size A n xs :=
  ⟨h.1, fun h0 => by
    obtain ⟨b, o, e, hb, hc⟩ := h.2 h0
    have hne : b ≠ g := ho h0 _ e
    exact ⟨b, o, e, hb, fun j u hu => (hg.cell_far ⟨b, o + j, none⟩ (Nat.lt_of_lt_of_le hb hB) (fun e => by injection e with e; exact hne e)).trans (hc j u hu)⟩⟩
theorem AR.grown14 {g : Nat} (h : AR W W.heap.size a Y) (hg : W.grownBy W' (some g)) (ho : AOff a Y g) : AR W' W'.heap.size a Y := by
  refine AR.more (B := W.heap.size) ⟨?_, h.so, fun s hs => ?_, ?_, ?_, ⟨?_, ?_⟩⟩ hg.size
  · obtain ⟨A, c, e, h1, h2, h3⟩ := h.ql
    have e' := e
    injection e' with e1 e2 e3
    exact ⟨A, c, e, h1, h2, h3.grown14 (Nat.le_refl _) hg (by rw [← e1, ← e2]; exact ho.o1)⟩
  · have k := h.sr s hs
    have o := ho.os s hs
    exact ⟨k.ls.grownR (Nat.le_refl _) hg (fun q e => by injection e with e; subst e; exact o.o1), k.el.grownR (Nat.le_refl _) hg (fun q e => by injection e with e; subst e; exact o.o2), k.dl.grownR (Nat.le_refl _) hg (fun q e => by injection e with e; subst e; exact o.o3)⟩
  · obtain ⟨A, c, e, h1, h2, h3⟩ := h.tl
    have e' := e
    injection e' with e1 e2 e3
    exact ⟨A, c, e, h1, h2, h3.grown14 (Nat.le_refl _) hg (by rw [← e1]; exact ho.o2)⟩
  · exact h.ls.grownR (Nat.le_refl _) hg (fun q e => by injection e with e; subst e; exact ho.o3)
  · obtain ⟨A, c, e, h1, h2, h3⟩ := h.dr.pl
    have e' := e
    injection e' with e1 e2 e3
    exact ⟨A, c, e, h1, h2, h3.grown14 (Nat.le_refl _) hg (fun h0 a ea => ho.o4.o1 a (e1.trans ea) h0)⟩
  · obtain ⟨A, c, e, h1, h2, h3⟩ := h.dr.fl
    have e' := e
    injection e' with e1 e2 e3
    exact ⟨A, c, e, h1, h2, h3.grown14 (Nat.le_refl _) hg (fun h0 a ea => ho.o4.o2 a (e1.trans ea) h0)⟩
end
/-- A source, an arena's box, a snapshot's, the two arrays. -/
structure Nh14 (w : World) (g p q b c : Nat) (a : Ar) (Y : Ax) (s : Sn) (F G : Nat → Int) (W : World) : Prop where
  src : SrcAt W w.heap.size g
  na : Na14 w p q a Y s W
  eb : NA14 W b F
  cb : NA14 W c G
  og : AOff a Y g
  ob : AOff a Y b
  oc : AOff a Y c
  ne : (w.heap.size ≤ b ∧ w.heap.size ≤ c) ∧ (g ≠ p ∧ g ≠ q ∧ g ≠ b ∧ g ≠ c) ∧ (p ≠ b ∧ p ≠ c) ∧ (q ≠ b ∧ q ≠ c) ∧ b ≠ c
section
variable {w W W' : World} {g p q b c : Nat} {a a' : Ar} {Y Y' : Ax} {s : Sn} {F G : Nat → Int}
theorem Nh14.below (h : Nh14 w g p q b c a Y s F G W) (hb : Below W.heap.size W W') : Nh14 w g p q b c a Y s F G W' :=
  ⟨h.src.below hb, h.na.below hb, h.eb.up hb, h.cb.up hb, h.og, h.ob, h.oc, h.ne⟩
theorem Nh14.turn (h : Nh14 w g p q b c a Y s F G W) (hs : SrcAt W' w.heap.size g) (hg : W.grownBy W' (some g)) : Nh14 w g p q b c a Y s F G W' :=
  ⟨hs, ⟨h.na.qb.grown hg (fun e => h.ne.2.1.1 e.symm), h.na.ar.grown14 hg h.og, h.na.nb.grown hg (fun e => h.ne.2.1.2.1 e.symm), h.na.off, h.na.ofp, h.na.ne, h.na.bel.grown hg h.na.bel.size (fun k e => by injection e with e; have := h.src.1; omega)⟩, h.eb.grown hg (fun e => h.ne.2.1.2.2.1 e.symm), h.cb.grown hg (fun e => h.ne.2.1.2.2.2 e.symm), h.og, h.ob, h.oc, h.ne⟩
theorem Nh14.snap (h : Nh14 w g p q b c a Y s F G W) (t : Sn) : Nh14 w g p q b c a Y t F G (set4n W q t) :=
  ⟨h.src.set4n h.na.ne.2.1 (fun e => h.ne.2.1.2.1 e.symm) t, h.na.put t, h.eb.set4n h.ne.2.2.2.1.1 t, h.cb.set4n h.ne.2.2.2.1.2 t, h.og, h.ob, h.oc, h.ne⟩
theorem Nh14.put2 (h : Nh14 w g p q b c a Y s F G W) {n : Nat} (hn : n < 41) (x y : Int) : Nh14 w g p q b c a Y s (upd14 F n x) (upd14 G n y) ((W.setCell ⟨b, n, none⟩ (.int .i64 x)).setCell ⟨c, n, none⟩ (.int .i64 y)) := by
  obtain ⟨⟨n1, n2⟩, ⟨n3, n4, n5, n6⟩, ⟨n7, n8⟩, ⟨n9, n10⟩, n11⟩ := h.ne
  exact ⟨(h.src.other (p := ⟨b, n, none⟩) (Ne.symm n5) n1 _).other (p := ⟨c, n, none⟩) (Ne.symm n6) n2 _,
    ⟨(h.na.qb.other (x := ⟨b, n, none⟩) (Ne.symm n7) _).other (x := ⟨c, n, none⟩) (Ne.symm n8) _, ((h.na.ar.offp (q := ⟨b, n, none⟩) h.ob _).offp (q := ⟨c, n, none⟩) h.oc _).more (by simp), (h.na.nb.other (x := ⟨b, n, none⟩) (Ne.symm n9) _).other (x := ⟨c, n, none⟩) (Ne.symm n10) _, h.na.off, h.na.ofp, h.na.ne, (h.na.bel.setCell (p := ⟨b, n, none⟩) n1 _).setCell (p := ⟨c, n, none⟩) n2 _⟩,
    (h.eb.put hn x).other (x := ⟨c, n, none⟩) (Ne.symm n11) _, (h.cb.other (x := ⟨b, n, none⟩) n11 _).put hn y, h.og, h.ob, h.oc, h.ne⟩
/-- A new arena takes its place. -/
theorem Nh14.arena (h : Nh14 w g p q b c a Y s F G W) (hb : Below W.heap.size W W') (hn : Y'.nw W.heap.size) (hr : AR W' W'.heap.size a' Y') : Nh14 w g p q b c a' Y' s F G (set11 W' p a' Y') := by
  have k := h.below hb
  obtain ⟨⟨n1, n2⟩, ⟨n3, n4, n5, n6⟩, ⟨n7, n8⟩, ⟨n9, n10⟩, n11⟩ := h.ne
  exact ⟨k.src.set11v h.na.ne.1 (Ne.symm n3) a' Y', ⟨k.na.qb.set a' Y', (hr.set11 (hn.off h.na.qb.lt) a' Y').more (by rw [set11_size]; exact Nat.le_refl _), k.na.nb.set11 h.na.ne.2.2 a' Y', hn.off h.na.nb.lt, hn.off h.na.qb.lt, h.na.ne, set11_below k.na.bel h.na.ne.1 a' Y'⟩, k.eb.set11 n7 a' Y', k.cb.set11 n8 a' Y', hn.off h.src.2.1, hn.off h.eb.lt, hn.off h.cb.lt, h.ne⟩
end
theorem Nh14.start {w W : World} {g p q : Nat} {a : Ar} {Y : Ax} {s : Sn} (hs : SrcAt W w.heap.size g) (h : Na14 w p q a Y s W) (og : AOff a Y g) (hgp : g < p) (hpq : p < q) (t : TypeId) : Nh14 w g p q W.heap.size (W.heap.size + 1) a Y s (fun _ => 0) (fun _ => 0) ((W.alloc (.cells Z41 t)).alloc (.cells Z41 t)) := by
  have b1 := (Below.refl W.heap.size W).alloc (Nat.le_refl _) (.cells Z41 t)
  have b2 := (Below.refl (W.alloc (.cells Z41 t)).heap.size (W.alloc (.cells Z41 t))).alloc (Nat.le_refl _) (.cells Z41 t)
  have h2 := NA14.start (W.alloc (.cells Z41 t)) t
  rw [show (W.alloc (.cells Z41 t)).heap.size = W.heap.size + 1 by simp] at h2
  have hl1 := h.qb.lt
  have hl2 := h.nb.lt
  have hl3 := h.bel.size
  exact ⟨(hs.below b1).below b2, (h.below b1).below b2, (NA14.start W t).up b2, h2, og, h.ar.offs (Nat.le_refl _), h.ar.offs (Nat.le_succ _), by omega⟩
/-- Behind n - 1 steps: the arena's words, the snapshot, the words at each step. -/
structure Hs14 (n : Nat) (ep ck : Int) (x : Sn) (F G : Nat → Int) : Prop where
  b : (0 ≤ ep ∧ ep ≤ n) ∧ 0 ≤ ck ∧ ck ≤ 5 * n
  x : x.ph = 0 ∨ (x.ph = 1 ∧ x.ep ≤ ep) ∨ (x.ph = 2 ∧ ∃ k : Nat, x.sp = k ∧ 1 ≤ k ∧ k < n ∧ x.ck = G k ∧ x.ep ≤ F k ∧ F k ≤ ep) ∨ (x.ph = 3 ∧ ∃ k : Nat, x.sp = k ∧ 1 ≤ k ∧ k < n ∧ x.ck = G k ∧ x.ep = F k)
section
variable {n : Nat} {ep ck : Int} {x : Sn} {F G : Nat → Int}
theorem upd_o {f : Nat → Int} {v : Int} {k : Nat} (h : k < n) : upd14 f n v k = f k := if_neg (by omega)
theorem upd_s {f : Nat → Int} {v : Int} : upd14 f n v n = v := if_pos rfl
theorem Hs14.step (h : Hs14 n ep ck x F G) (h1 : 1 ≤ n) (h3 : x.ph ≠ 3) : nsE x = 0 ∧ ∀ ep' ck', ep ≤ ep' → ep' ≤ ep + 1 → ck ≤ ck' → ck' ≤ ck + 5 → Hs14 (n + 1) ep' ck' (nsN ep ck x n) (upd14 F n ep) (upd14 G n ck) := by
  obtain ⟨hb, hx⟩ := h
  rcases hx with h0 | ⟨h0, he⟩ | ⟨h0, k, e1, e2, e3, e4, e5, e6⟩ | ⟨h0, -⟩
  · have e : nsN ep ck x n = bgN x ep := if_pos h0
    exact ⟨by simp [nsE, h0], fun ep' ck' a1 a2 a3 a4 => ⟨by omega, .inr (.inl ⟨by rw [e]; rfl, by rw [e]; exact a1⟩)⟩⟩
  · have e : nsN ep ck x n = stN x ck n := by unfold nsN; rw [if_neg (by omega), if_pos h0]
    exact ⟨by simp [nsE, h0], fun ep' ck' a1 a2 a3 a4 => ⟨by omega, .inr (.inr (.inl ⟨by rw [e]; rfl, n, by rw [e]; rfl, h1, by omega, by rw [e, upd_s]; rfl, by rw [e, upd_s]; exact he, by rw [upd_s]; exact a1⟩))⟩⟩
  · have e : nsN ep ck x n = cmN x ep := by unfold nsN; rw [if_neg (by omega), if_neg (by omega), if_pos h0]
    by_cases hq : ep = x.ep
    · have e' : cmN x ep = ⟨3, x.ep, x.ck, x.sp⟩ := if_pos hq
      refine ⟨by simp [nsE, h0], fun ep' ck' a1 a2 a3 a4 => ⟨by omega, .inr (.inr (.inr ⟨by rw [e, e'], k, by rw [e, e']; exact e1, e2, by omega, by rw [e, e', upd_o e3]; exact e4, ?_⟩))⟩⟩
      rw [e, e', upd_o e3]
      show x.ep = F k
      omega
    · have e' : cmN x ep = bgN x ep := if_neg hq
      exact ⟨by simp [nsE, h0], fun ep' ck' a1 a2 a3 a4 => ⟨by omega, .inr (.inl ⟨by rw [e, e']; rfl, by rw [e, e']; exact a1⟩)⟩⟩
  · exact absurd h0 h3
theorem Hs14.small (h : Hs14 n ep ck x F G) (h3 : x.ph ≠ 3) : 0 ≤ x.ph ∧ x.ph < 3 := by
  rcases h.x with h0 | ⟨h0, -⟩ | ⟨h0, -⟩ | ⟨h0, -⟩ <;> omega
theorem Hs14.done (h : Hs14 n ep ck x F G) (h3 : x.ph = 3) : ∃ k : Nat, x.sp = k ∧ 1 ≤ k ∧ k < n ∧ x.ck = G k ∧ x.ep = F k := by
  rcases h.x with h0 | ⟨h0, -⟩ | ⟨h0, -⟩ | ⟨-, h⟩
  · omega
  · omega
  · omega
  · exact h
end
end Go.Proofs.Ytijpflljopckiaa
