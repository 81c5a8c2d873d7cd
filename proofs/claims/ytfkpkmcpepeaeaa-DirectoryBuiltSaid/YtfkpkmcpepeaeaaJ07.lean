/- What is proved here: directory.merge by a contract; (plain) moves that keep 'nothing below B is turned', for the keep argument of a drawn region; directory.Apply by a contract. -/
import Derived.Test.YtfkpkmcpepeaeaaJ06
import Derived.Test.YtfkpkmcpepeaeaaJ01
import Derived.Test.YtfkpkmcpepeaeaaJ04
namespace Go.Proofs.Ytfkpkmcpepeaeaa
open Go.RowKit
set_option linter.unusedVariables false

abbrev MgK (p q : Nat) (d : Dd) (X : Dx) (e : Ed) (W : World) : Prop := W.cell? ⟨p, 1, none⟩ = some (.slice X.A d.l.length X.c) ∧ W.cell? ⟨q, 1, none⟩ = some (.int .i64 e.fr) ∧ W.cell? ⟨q, 2, none⟩ = some (.int .i64 e.to)
theorem Sb.mgk {w W : World} {base p q r : Nat} {d : Dd} {X : Dx} {e : Ed} (h : Sb w base p q r d X e W) : MgK p q d X e W := ⟨h.db.c1, h.eb.c1, h.eb.c2⟩
theorem mel_eq {l : List Sp} {f : Nat} (hf : f + 1 < l.length) (e : Ed) : (l.set f ⟨(sg l f).lo, (sg l (f + 1)).hi, e.to⟩).eraseIdx (f + 1) = meL l f e := by
  unfold meL
  rw [List.eraseIdx_eq_take_drop_succ, List.drop_set_of_lt (by omega), List.take_succ_eq_append_getElem (by simp; omega), List.take_set, List.set_eq_of_length_le (by simp; omega)]
  simp
theorem scs_set0 {l : List Sp} {i : Nat} (hi : i < l.length) (x : Int) : (scs l).set (i * 3) (.int .i64 x) = scs (l.set i ⟨x, (sg l i).hi, (sg l i).sh⟩) := by
  induction l generalizing i with
  | nil => simp at hi
  | cons y l ih =>
    cases i with
    | zero => simp [scs_cons, Sp.l, sg]
    | succ i =>
      have := ih (i := i) (by simpa using hi)
      rw [scs_cons, show (i + 1) * 3 = (i * 3) + 1 + 1 + 1 by omega, List.set_cons_succ, scs_cons, Sp.l]
      simp only [List.cons_append, List.nil_append, List.set_cons_succ]
      rw [this]
      simp [sg]
theorem scs_set2 {l : List Sp} {i : Nat} (hi : i < l.length) (x : Int) : (scs l).set (i * 3 + 2) (.int .i64 x) = scs (l.set i ⟨(sg l i).lo, (sg l i).hi, x⟩) := by
  induction l generalizing i with
  | nil => simp at hi
  | cons y l ih =>
    cases i with
    | zero => simp [scs_cons, Sp.l, sg]
    | succ i =>
      have := ih (i := i) (by simpa using hi)
      rw [scs_cons, show (i + 1) * 3 + 2 = (i * 3 + 2) + 1 + 1 + 1 by omega, List.set_cons_succ, scs_cons, Sp.l]
      simp only [List.cons_append, List.nil_append, List.set_cons_succ]
      rw [this]
      simp [sg]
theorem sg_set {l : List Sp} {i : Nat} (hi : i < l.length) (x : Sp) : sg (l.set i x) i = x := by simp [sg, hi]
/-- A span stored into the list of spans. -/
theorem Sb.setL3 {w W : World} {base p q r : Nat} {d : Dd} {X : Dx} {e : Ed} (h : Sb w base p q r d X e W) {g : Nat} (hg : X.A = some ⟨g, 0, none⟩) {i : Nat} (hi : i < d.l.length) (Y : Sp) :
    Sb w base p q r ⟨d.vn, d.l.set i Y, d.F⟩ X e (((W.setCell ⟨g, i * 3, none⟩ (.int .i64 Y.lo)).setCell ⟨g, i * 3 + 1, none⟩ (.int .i64 Y.hi)).setCell ⟨g, i * 3 + 2, none⟩ (.int .i64 Y.sh)) := by
  have k1 := h.setL hg (i * 3) (.int .i64 Y.lo) (l' := d.l.set i ⟨Y.lo, (sg d.l i).hi, (sg d.l i).sh⟩) (by simp) (scs_set0 hi Y.lo)
  have hi1 : i < (d.l.set i ⟨Y.lo, (sg d.l i).hi, (sg d.l i).sh⟩).length := by simpa using hi
  have k2 := k1.setL hg (i * 3 + 1) (.int .i64 Y.hi) (l' := d.l.set i ⟨Y.lo, Y.hi, (sg d.l i).sh⟩) (by simp) (by
    have := scs_set1 hi1 Y.hi
    rw [sg_set hi, List.set_set] at this
    exact this)
  have hi2 : i < (d.l.set i ⟨Y.lo, Y.hi, (sg d.l i).sh⟩).length := by simpa using hi
  exact k2.setL hg (i * 3 + 2) (.int .i64 Y.sh) (l' := d.l.set i Y) (by simp) (by
    have := scs_set2 hi2 Y.sh
    rw [sg_set hi, List.set_set] at this
    exact this)
abbrev MgS (p q g f u : Nat) (d : Dd) (X : Dx) (e : Ed) (W : World) : Prop := W.cell? ⟨p, 1, none⟩ = some (.slice (some ⟨g, 0, none⟩) d.l.length X.c) ∧ W.cell? ⟨q, 2, none⟩ = some (.int .i64 e.to) ∧ W.cell? ⟨g, f * 3, none⟩ = some (.int .i64 (sg d.l f).lo) ∧ W.cell? ⟨g, u * 3 + 1, none⟩ = some (.int .i64 (sg d.l u).hi)
theorem MgS.set {p q g f u : Nat} {d : Dd} {X : Dx} {e : Ed} {W : World} (h : MgS p q g f u d X e W) (hu : u = f + 1) (hp : p ≠ g) (hq : q ≠ g) (u' v : Value) : MgS p q g f u d X e (((W.setCell ⟨g, f * 3, none⟩ (.int .i64 (sg d.l f).lo)).setCell ⟨g, f * 3 + 1, none⟩ u').setCell ⟨g, f * 3 + 2, none⟩ v) := by
  obtain ⟨h1, h2, h3, h4⟩ := h
  have o : ∀ (a b : Addr) (u : Value) (W : World), a ≠ b → (W.setCell b u).cell? a = W.cell? a := fun a b u W hn => World.cell?_setCell_other W b a u (fun e => hn (by first | exact e | exact e.symm))
  have n1 : ∀ j, (⟨p, 1, none⟩ : Addr) ≠ ⟨g, j, none⟩ := fun j e => hp (by injection e)
  have n2 : ∀ j, (⟨q, 2, none⟩ : Addr) ≠ ⟨g, j, none⟩ := fun j e => hq (by injection e)
  have n3 : ∀ i j, i ≠ j → (⟨g, i, none⟩ : Addr) ≠ ⟨g, j, none⟩ := fun i j hn e => hn (by injection e)
  refine ⟨by rw [o _ _ _ _ (n1 _), o _ _ _ _ (n1 _), o _ _ _ _ (n1 _)]; exact h1, by rw [o _ _ _ _ (n2 _), o _ _ _ _ (n2 _), o _ _ _ _ (n2 _)]; exact h2, ?_, by rw [o _ _ _ _ (n3 _ _ (by omega)), o _ _ _ _ (n3 _ _ (by omega)), o _ _ _ _ (n3 _ _ (by omega))]; exact h4⟩
  rw [o _ _ _ _ (n3 _ _ (by omega)), o _ _ _ _ (n3 _ _ (by omega))]
  simp [go_sem, h3]
set_option maxHeartbeats 8000000 in
set_option maxRecDepth 20000 in
theorem dmerge_any (base : Nat) (d : Dd) (X : Dx) (e : Ed) (w : World) (hb : base ≤ w.heap.size) (hol : w.ownsRow base 43 3 (.slice X.A d.l.length X.c) d.l.length (scs d.l)) (hof : w.ownsRow base 3 1 (.slice X.A2 d.F.length X.c2) d.F.length (ics d.F))
    (hd : ∀ k, (Value.slice X.A d.l.length X.c).ownBlock = some k → (Value.slice X.A2 d.F.length X.c2).ownBlock ≠ some k) (hl : d.l.length ≤ 90) (hfr : slotP d.F.length e.fr) :
    Calls Try.prog 41 #[dv d X, e.v] w (DE base w (if meE d e = 0 then ⟨d.vn, meL d.l (min (ixS d.l e.fr) (ixS d.l e.to)).toNat e, d.F.set e.fr.toNat e.to⟩ else zD10) (meE d e)) := by
  have H0 := Lib.hid (Sb.start d X e hb hol hof hd)
  have HF1 := Lib.hid (fun p q r W (k : Sb w base p q r d X e W) => sfind_any X.A d.l.length X.c d.l e.fr W k.dr.pl)
  have HF2 := Lib.hid (fun p q r W (k : Sb w base p q r d X e W) => sfind_any X.A d.l.length X.c d.l e.to W k.dr.pl)
  have HHL := Lib.hid hl
  have HFR := Lib.hid hfr
  obtain ⟨p, hp⟩ : ∃ p, p = w.heap.size := ⟨_, rfl⟩
  obtain ⟨q, hq⟩ : ∃ q, q = w.heap.size + 1 := ⟨_, rfl⟩
  obtain ⟨r, hr⟩ : ∃ r, r = w.heap.size + 1 + 1 := ⟨_, rfl⟩
  have HPP := Lib.hid (show (p = w.heap.size ∧ q = w.heap.size + 1 ∧ r = w.heap.size + 1 + 1) ∧ (¬ p = q ∧ ¬ q = p ∧ ¬ p = r ∧ ¬ r = p ∧ ¬ q = r ∧ ¬ r = q) by omega)
  obtain ⟨R, hR⟩ : ∃ R, R = if meE d e = 0 then Dd.mk d.vn (meL d.l (min (ixS d.l e.fr) (ixS d.l e.to)).toNat e) (d.F.set e.fr.toNat e.to) else zD10 := ⟨_, rfl⟩
  obtain ⟨x, hx⟩ : ∃ x, x = meE d e := ⟨_, rfl⟩
  rw [← hR, ← hx]
  have HRX := Lib.hid (And.intro hR hx)
  clear hR hx hp hq hr hb hol hof hd hl hfr
  have HB := Lib.hid (And.intro (ixS_ge d.l e.fr) (ixS_ge d.l e.to))
  have HR7 := Lib.hid (fun (h : (ixS d.l e.fr < 0 ∨ ixS d.l e.to < 0) ∨ (ixS d.l e.fr - ixS d.l e.to ≠ 1 ∧ ixS d.l e.to - ixS d.l e.fr ≠ 1)) => show x = 7 ∧ R = zD10 from by
    have h7 : meE d e = 7 := meE_7 h
    exact ⟨HRX.out.2.trans h7, by rw [HRX.out.1, if_neg (by rw [h7]; decide)]⟩)
  by_cases h1 : ixS d.l e.fr < 0
  · have HRE := Lib.hid (HR7.out (.inl (.inl h1)))
    have hy := HB.out.2.1
    rw [(ixS_neg (show ¬ 0 ≤ ixS d.l e.fr by omega)).1] at HF1
    clear h1
    generalize ixS d.l e.to = y at *
    have hy' : ¬ y < -1 := by omega
    go_enter Try.func41, Try.ntmps41
    go_upto_region 1 with (fail)
    have H0 := Lib.hid (show Sb w base p q r d X e (((w.alloc (.cells #[.int .i64 d.vn, .slice X.A d.l.length X.c, .slice X.A2 d.F.length X.c2] 25)).alloc (.cells #[.int .i64 e.kd, .int .i64 e.fr, .int .i64 e.to, .int .i64 e.md] 27)).alloc (.cells #[.int .i64 0, .slice none 0 0, .slice none 0 0] 25)) from by rw [HPP.out.1.1, HPP.out.1.2.1, HPP.out.1.2.2]; exact H0.out)
    rw [← HPP.out.1.2.2, ← HPP.out.1.2.1, ← HPP.out.1.1]
    generalize ((w.alloc (.cells #[.int .i64 d.vn, .slice X.A d.l.length X.c, .slice X.A2 d.F.length X.c2] 25)).alloc (.cells #[.int .i64 e.kd, .int .i64 e.fr, .int .i64 e.to, .int .i64 e.md] 27)).alloc (.cells #[.int .i64 0, .slice none 0 0, .slice none 0 0] 25) = w0 at *
    have HK0 := Lib.hid H0.out.mgk
    have HP := Lib.hid (H0.out.below (Below.refl _ _).drew)
    have HK := Lib.hid HP.out.mgk
    clear H0
    go_region_held3 (fun W => MgK p q d X e W)
      (first | with_reducible exact HK.out | with_reducible exact HK0.out)
      (first
        | (go_at_call 36; (with_reducible refine (HF1.out _ _ _ _ HP.out).mono ?_); rintro e1 w1 ⟨rfl, hb⟩; have HP := Lib.hid (HP.out.below hb); have HK := Lib.hid HP.out.mgk; clear hb)
        | (go_at_call 36; (with_reducible refine (HF2.out _ _ _ _ HP.out).mono ?_); rintro e1 w1 ⟨rfl, hb⟩; have HP := Lib.hid (HP.out.below hb); have HK := Lib.hid HP.out.mgk; clear hb))
    all_goals
      obtain ⟨⟨r0, r1, r2, rl⟩, g0, g1, g2⟩ := HP.out.rb.all
      have HO := Lib.hid (HP.out.out0 7)
      go_wp2
      exact bodyPost_ret (v := .tuple #[.agg #[.int .i64 0, .slice none 0 0, .slice none 0 0], .int .i64 7]) (by simp only [results, Try.results41]; go_simp <;> rfl) rfl (by rw [HRE.out.1, HRE.out.2]; exact HO.out)
  · by_cases h2 : ixS d.l e.to < 0
    · have HRE := Lib.hid (HR7.out (.inl (.inr h2)))
      rw [(ixS_neg (show ¬ 0 ≤ ixS d.l e.to by omega)).1] at HF2
      generalize ixS d.l e.fr = y at *
      have hy' : -1 < y := by omega
      clear h2
      go_enter Try.func41, Try.ntmps41
      go_upto_region 1 with (fail)
      have H0 := Lib.hid (show Sb w base p q r d X e (((w.alloc (.cells #[.int .i64 d.vn, .slice X.A d.l.length X.c, .slice X.A2 d.F.length X.c2] 25)).alloc (.cells #[.int .i64 e.kd, .int .i64 e.fr, .int .i64 e.to, .int .i64 e.md] 27)).alloc (.cells #[.int .i64 0, .slice none 0 0, .slice none 0 0] 25)) from by rw [HPP.out.1.1, HPP.out.1.2.1, HPP.out.1.2.2]; exact H0.out)
      rw [← HPP.out.1.2.2, ← HPP.out.1.2.1, ← HPP.out.1.1]
      generalize ((w.alloc (.cells #[.int .i64 d.vn, .slice X.A d.l.length X.c, .slice X.A2 d.F.length X.c2] 25)).alloc (.cells #[.int .i64 e.kd, .int .i64 e.fr, .int .i64 e.to, .int .i64 e.md] 27)).alloc (.cells #[.int .i64 0, .slice none 0 0, .slice none 0 0] 25) = w0 at *
      have HK0 := Lib.hid H0.out.mgk
      have HP := Lib.hid (H0.out.below (Below.refl _ _).drew)
      have HK := Lib.hid HP.out.mgk
      clear H0
      go_region_held3 (fun W => MgK p q d X e W)
        (first | with_reducible exact HK.out | with_reducible exact HK0.out)
        (first
          | (go_at_call 36; (with_reducible refine (HF1.out _ _ _ _ HP.out).mono ?_); rintro e1 w1 ⟨rfl, hb⟩; have HP := Lib.hid (HP.out.below hb); have HK := Lib.hid HP.out.mgk; clear hb)
          | (go_at_call 36; (with_reducible refine (HF2.out _ _ _ _ HP.out).mono ?_); rintro e1 w1 ⟨rfl, hb⟩; have HP := Lib.hid (HP.out.below hb); have HK := Lib.hid HP.out.mgk; clear hb))
      all_goals
        obtain ⟨⟨r0, r1, r2, rl⟩, g0, g1, g2⟩ := HP.out.rb.all
        have HO := Lib.hid (HP.out.out0 7)
        go_wp2
        exact bodyPost_ret (v := .tuple #[.agg #[.int .i64 0, .slice none 0 0, .slice none 0 0], .int .i64 7]) (by simp only [results, Try.results41]; go_simp <;> rfl) rfl (by rw [HRE.out.1, HRE.out.2]; exact HO.out)
    · have hb1 := HB.out.1.2
      have hb2 := HB.out.2.2
      by_cases h3 : ixS d.l e.fr - ixS d.l e.to ≠ 1 ∧ ixS d.l e.to - ixS d.l e.fr ≠ 1
      · have HRE := Lib.hid (HR7.out (.inr h3))
        have hl90 := HHL.out
        generalize ixS d.l e.fr = y at *
        generalize ixS d.l e.to = z at *
        have hm0 : ¬ min y z < 0 := by omega
        have hm1 : 0 ≤ min y z := by omega
        have hne : (wrap64 (max y z - min y z) != 1) = true := bne_iff_ne.2 (by rw [IntWalk.wrap64_in _ (by omega)]; omega)
        clear h3 hb1 hb2 hl90 h1 h2
        go_enter Try.func41, Try.ntmps41
        go_upto_region 1 with (fail)
        have H0 := Lib.hid (show Sb w base p q r d X e (((w.alloc (.cells #[.int .i64 d.vn, .slice X.A d.l.length X.c, .slice X.A2 d.F.length X.c2] 25)).alloc (.cells #[.int .i64 e.kd, .int .i64 e.fr, .int .i64 e.to, .int .i64 e.md] 27)).alloc (.cells #[.int .i64 0, .slice none 0 0, .slice none 0 0] 25)) from by rw [HPP.out.1.1, HPP.out.1.2.1, HPP.out.1.2.2]; exact H0.out)
        rw [← HPP.out.1.2.2, ← HPP.out.1.2.1, ← HPP.out.1.1]
        generalize ((w.alloc (.cells #[.int .i64 d.vn, .slice X.A d.l.length X.c, .slice X.A2 d.F.length X.c2] 25)).alloc (.cells #[.int .i64 e.kd, .int .i64 e.fr, .int .i64 e.to, .int .i64 e.md] 27)).alloc (.cells #[.int .i64 0, .slice none 0 0, .slice none 0 0] 25) = w0 at *
        have HK0 := Lib.hid H0.out.mgk
        have HP := Lib.hid (H0.out.below (Below.refl _ _).drew)
        have HK := Lib.hid HP.out.mgk
        clear H0
        go_region_held3 (fun W => MgK p q d X e W)
          (first | with_reducible exact HK.out | with_reducible exact HK0.out)
          (first
            | (go_at_call 36; (with_reducible refine (HF1.out _ _ _ _ HP.out).mono ?_); rintro e1 w1 ⟨rfl, hb⟩; have HP := Lib.hid (HP.out.below hb); have HK := Lib.hid HP.out.mgk; clear hb)
            | (go_at_call 36; (with_reducible refine (HF2.out _ _ _ _ HP.out).mono ?_); rintro e1 w1 ⟨rfl, hb⟩; have HP := Lib.hid (HP.out.below hb); have HK := Lib.hid HP.out.mgk; clear hb))
        all_goals
          obtain ⟨⟨r0, r1, r2, rl⟩, g0, g1, g2⟩ := HP.out.rb.all
          have HO := Lib.hid (HP.out.out0 7)
          go_wp2
          exact bodyPost_ret (v := .tuple #[.agg #[.int .i64 0, .slice none 0 0, .slice none 0 0], .int .i64 7]) (by simp only [results, Try.results41]; go_simp <;> rfl) rfl (by rw [HRE.out.1, HRE.out.2]; exact HO.out)
      · obtain ⟨f, hmn⟩ : ∃ f : Nat, min (ixS d.l e.fr) (ixS d.l e.to) = (f : Int) := ⟨(min (ixS d.l e.fr) (ixS d.l e.to)).toNat, by omega⟩
        obtain ⟨u, hu⟩ : ∃ u : Nat, u = f + 1 := ⟨_, rfl⟩
        have HUF := Lib.hid hu
        have hmx : max (ixS d.l e.fr) (ixS d.l e.to) = (u : Int) := by omega
        have hf : u < d.l.length := by omega
        have hf0 : f < d.l.length := by omega
        have hf1 : (f : Int) < (d.l.length : Int) := by omega
        have hf2 : (u : Int) < (d.l.length : Int) := by omega
        have HRE := Lib.hid (show x = 0 ∧ R = Dd.mk d.vn (meL d.l f e) (d.F.set e.fr.toNat e.to) from by
          have h7 : meE d e = 0 := meE_0 (by omega) (by omega) (by omega)
          exact ⟨HRX.out.2.trans h7, by rw [HRX.out.1, if_pos h7, hmn]; rfl⟩)
        have HEQ := Lib.hid (show (d.l.set f ⟨(sg d.l f).lo, (sg d.l u).hi, e.to⟩).eraseIdx u = meL d.l f e from by rw [hu]; exact mel_eq (by omega) e)
        generalize ixS d.l e.fr = y at *
        generalize ixS d.l e.to = z at *
        have hw1 : wrap64 ((u : Int) - (f : Int)) = 1 := by rw [IntWalk.wrap64_in _ (by omega)]; omega
        clear h1 h2 h3 hb1 hb2 hu
        go_enter Try.func41, Try.ntmps41
        go_upto_region 1 with (fail)
        have H0 := Lib.hid (show Sb w base p q r d X e (((w.alloc (.cells #[.int .i64 d.vn, .slice X.A d.l.length X.c, .slice X.A2 d.F.length X.c2] 25)).alloc (.cells #[.int .i64 e.kd, .int .i64 e.fr, .int .i64 e.to, .int .i64 e.md] 27)).alloc (.cells #[.int .i64 0, .slice none 0 0, .slice none 0 0] 25)) from by rw [HPP.out.1.1, HPP.out.1.2.1, HPP.out.1.2.2]; exact H0.out)
        rw [← HPP.out.1.2.2, ← HPP.out.1.2.1, ← HPP.out.1.1]
        generalize ((w.alloc (.cells #[.int .i64 d.vn, .slice X.A d.l.length X.c, .slice X.A2 d.F.length X.c2] 25)).alloc (.cells #[.int .i64 e.kd, .int .i64 e.fr, .int .i64 e.to, .int .i64 e.md] 27)).alloc (.cells #[.int .i64 0, .slice none 0 0, .slice none 0 0] 25) = w0 at *
        have HK0 := Lib.hid H0.out.mgk
        have HP := Lib.hid (H0.out.below (Below.refl _ _).drew)
        have HK := Lib.hid HP.out.mgk
        clear H0
        go_region_held3 (fun W => MgK p q d X e W)
          (first | with_reducible exact HK.out | with_reducible exact HK0.out)
          (first
            | (go_at_call 36; (with_reducible refine (HF1.out _ _ _ _ HP.out).mono ?_); rintro e1 w1 ⟨rfl, hb⟩; have HP := Lib.hid (HP.out.below hb); have HK := Lib.hid HP.out.mgk; clear hb)
            | (go_at_call 36; (with_reducible refine (HF2.out _ _ _ _ HP.out).mono ?_); rintro e1 w1 ⟨rfl, hb⟩; have HP := Lib.hid (HP.out.below hb); have HK := Lib.hid HP.out.mgk; clear hb))
        go_upto_region 5 with (fail)
        obtain ⟨g, hgA⟩ := own_addr HP.out.ol (Nat.lt_of_le_of_lt (Nat.zero_le _) hf0)
        have HGA := Lib.hid hgA
        have ho := HP.out.ol
        rw [hgA] at ho
        obtain ⟨b, o, hA, hbl, c0, c1, c2⟩ := HP.out.dr.pl.atg hf0
        rw [hgA] at hA
        injection hA with hA
        injection hA with e1 e2
        subst e1; subst e2
        obtain ⟨b, o, hA, -, z0, z1, z2⟩ := HP.out.dr.pl.atg hf
        rw [hgA] at hA
        injection hA with hA
        injection hA with e1 e2
        subst e1; subst e2
        rw [Nat.zero_add] at c0 c1 c2 z0 z1 z2
        obtain ⟨x0, x1, x2, -, xl⟩ := HP.out.db
        obtain ⟨y0, y1, y2, y3, yl⟩ := HP.out.eb
        rw [hgA] at x1
        have f0 := ho.frozenAt (f * 3)
        have f1 := ho.frozenAt (f * 3 + 1)
        have f2 := ho.frozenAt (f * 3 + 2)
        have hgl := (ho.lt g rfl).2
        have hgne := HP.out.ll g (by rw [hgA]; rfl)
        have HGN := Lib.hid hgne
        clear ho hgA hgne HK HK0
        have HA1 := Lib.hid (show MgS p q g f u d X e w1 from ⟨x1, y2, c0, z1⟩)
        have HA2 := Lib.hid (show MgS p q g f u d X e w1.drew from ⟨x1, y2, c0, z1⟩)
        have HA3 := Lib.hid (show MgS p q g f u d X e ((((w1.setCell ⟨g, f * 3, none⟩ (.int .i64 (sg d.l f).lo)).setCell ⟨g, f * 3 + 1, none⟩ (.int .i64 (sg d.l u).hi)).setCell ⟨g, f * 3 + 2, none⟩ (.int .i64 e.to))).drew from HA1.out.set HUF.out HGN.out.1.symm HGN.out.2.1.symm _ _)
        have HA4 := Lib.hid (show MgS p q g f u d X e ((((w1.drew.setCell ⟨g, f * 3, none⟩ (.int .i64 (sg d.l f).lo)).setCell ⟨g, f * 3 + 1, none⟩ (.int .i64 (sg d.l u).hi)).setCell ⟨g, f * 3 + 2, none⟩ (.int .i64 e.to))) from HA1.out.set HUF.out HGN.out.1.symm HGN.out.2.1.symm _ _)
        have H5 := Lib.hid ((HP.out.setL3 HGA.out hf0 ⟨(sg d.l f).lo, (sg d.l u).hi, e.to⟩).below (Below.refl _ _).drew)
        dsimp only at H5
        have d0 : w1.drew.cell? ⟨g, f * 3, none⟩ = some (.int .i64 (sg d.l f).lo) := c0
        have d1 : w1.drew.cell? ⟨g, f * 3 + 1, none⟩ = some (.int .i64 (sg d.l f).hi) := c1
        have d2 : w1.drew.cell? ⟨g, f * 3 + 2, none⟩ = some (.int .i64 (sg d.l f).sh) := c2
        have h0 : w1.drew.frozen? ⟨g, f * 3, none⟩ = false := f0
        have h1 : w1.drew.frozen? ⟨g, f * 3 + 1, none⟩ = false := f1
        have h2 : w1.drew.frozen? ⟨g, f * 3 + 2, none⟩ = false := f2
        have hgl' : g < w1.drew.heap.size := hgl
        clear x0 x1 x2 xl y0 y1 y2 y3 yl z0 z1 z2 hbl
        go_region_held3 (fun W => MgS p q g f u d X e W)
          (first | with_reducible exact HA1.out | with_reducible exact HA2.out | with_reducible exact HA3.out | with_reducible exact HA4.out)
          (first | (fail))
        clear d0 d1 d2 h0 h1 h2 hgl' c0 c1 c2 f0 f1 f2 hgl
        first
          | generalize ((((w1.setCell ⟨g, f * 3, none⟩ (.int .i64 (sg d.l f).lo)).setCell ⟨g, f * 3 + 1, none⟩ (.int .i64 (sg d.l u).hi)).setCell ⟨g, f * 3 + 2, none⟩ (.int .i64 e.to))).drew = w5 at *
          | (have H5 := Lib.hid (show Sb w base p q r ⟨d.vn, d.l.set f ⟨(sg d.l f).lo, (sg d.l u).hi, e.to⟩, d.F⟩ X e (((w1.drew.setCell ⟨g, f * 3, none⟩ (.int .i64 (sg d.l f).lo)).setCell ⟨g, f * 3 + 1, none⟩ (.int .i64 (sg d.l u).hi)).setCell ⟨g, f * 3 + 2, none⟩ (.int .i64 e.to)) from H5.out); generalize (((w1.drew.setCell ⟨g, f * 3, none⟩ (.int .i64 (sg d.l f).lo)).setCell ⟨g, f * 3 + 1, none⟩ (.int .i64 (sg d.l u).hi)).setCell ⟨g, f * 3 + 2, none⟩ (.int .i64 e.to)) = w5 at *)
        clear HA1 HA2 HA3 HA4
        obtain ⟨l1, hl1⟩ : ∃ l1, l1 = d.l.set f ⟨(sg d.l f).lo, (sg d.l u).hi, e.to⟩ := ⟨_, rfl⟩
        have HLL := Lib.hid (show l1.length = d.l.length by rw [hl1]; simp)
        rw [← hl1] at H5 HEQ
        clear hl1
        have hl90 := HHL.out
        have HIN := Lib.hid (sdelete_any base (.slice (some ⟨g, 0, none⟩) l1.length X.c) l1 u w5 (by have := HLL.out; omega) (by have := HLL.out; omega) (by have := H5.out.ol; rw [HGA.out] at this; exact this) (Nat.le_trans H5.out.pq.1 H5.out.bel.size))
        have hwf : wrap64 ((u : Int) + 1) = (u : Int) + 1 := IntWalk.wrap64_in _ (by omega)
        have x1 : w5.cell? ⟨p, 1, none⟩ = some (.slice X.A l1.length X.c) := H5.out.db.c1
        rw [HGA.out, HLL.out] at x1
        rw [HLL.out] at HIN
        have xl : p < w5.heap.size := H5.out.db.lt
        clear hl90
        go_wp2_with fail
        clear x1 xl hwf
        refine HIN.out.mono ?_
        rintro e1 w7 ⟨A, c, rfl, hown, hgr, hnb⟩
        clear HIN
        obtain ⟨l2, hl2⟩ : ∃ l2, l2 = l1.eraseIdx u := ⟨_, rfl⟩
        have hl3 : l2.length = l1.length - 1 := by have := HLL.out; rw [hl2, List.length_eraseIdx, if_pos (by omega)]
        have HL2 := Lib.hid (show l2 = meL d.l f e from by rw [hl2]; exact HEQ.out)
        rw [← hl2, ← hl3] at hown
        rw [← hl3] at hnb ⊢
        have H8 := Lib.hid (H5.out.newL HGA.out hgr hown hnb)
        have x1 : w7.cell? ⟨p, 1, none⟩ = some (.slice X.A l1.length X.c) := (H5.out.db.grown hgr HGN.out.1.symm).c1
        have xf := (H5.out.db.grown hgr HGN.out.1.symm).fr 1
        have xl := (H5.out.db.grown hgr HGN.out.1.symm).lt
        clear hown hgr hnb hl2 hl3 H5 HEQ
        go_upto_region 7 with (fail)
        clear x1 xf xl
        generalize w7.setCell ⟨p, 1, none⟩ (.slice A l2.length c) = w8 at *
        obtain ⟨t, ht⟩ := Int.eq_ofNat_of_zero_le HFR.out.1
        have htl : t < d.F.length := by have := HFR.out.2; omega
        have htl' : (t : Int) < (d.F.length : Int) := by omega
        obtain ⟨gF, hgF⟩ := own_addr H8.out.of (show 0 < d.F.length by omega)
        have HGF := Lib.hid hgF
        have x2 : w8.cell? ⟨p, 2, none⟩ = some (.slice X.A2 d.F.length X.c2) := H8.out.db.c2
        have xl : p < w8.heap.size := H8.out.db.lt
        have y1 := H8.out.eb.c1
        have y2 := H8.out.eb.c2
        have hoF := H8.out.of
        obtain ⟨b, o, hA, hbl, c0⟩ := H8.out.dr.fl.atg htl
        dsimp only at hgF hoF hA c0
        rw [hgF] at x2 hA hoF
        injection hA with hA
        injection hA with e1 e2
        subst e1; subst e2
        rw [Nat.zero_add] at c0
        have cf := hoF.frozenAt t
        rw [ht] at y1
        have HT := Lib.hid ht
        clear hgF hoF ht
        have H9 := Lib.hid (H8.out.setF HGF.out t e.to)
        go_upto_region 8 with (fail)
        clear x2 xl y1 y2 c0 cf hbl H8
        generalize w8.setCell ⟨gF, t, none⟩ (.int .i64 e.to) = w9 at *
        have HO := Lib.hid (H9.out.out 0)
        obtain ⟨x0, x1, x2, -, xl⟩ := H9.out.db
        obtain ⟨⟨r0, r1, r2, rl⟩, g0, g1, g2⟩ := H9.out.rb.all
        obtain ⟨-, hpq, hqp, hpr, hrp, hqr, hrq⟩ := HPP.out
        dsimp only at x0 x1 x2
        have HDD := Lib.hid (show Dd.mk d.vn l2 (d.F.set t e.to) = R from by rw [HRE.out.2, HL2.out, HT.out]; rfl)
        generalize d.F.set t e.to = F2 at *
        go_wp2
        exact bodyPost_ret (v := .tuple #[.agg #[.int .i64 d.vn, .slice A l2.length c, .slice X.A2 F2.length X.c2], .int .i64 0]) (by simp only [results, Try.results41]; go_simp <;> rfl) rfl (by rw [HRE.out.1, ← HDD.out]; exact HO.out)
end Go.Proofs.Ytfkpkmcpepeaeaa
namespace Go.Proofs.Ytfkpkmcpepeaeaa
open Go.RowKit
theorem dal {B : Nat} {a W : World} {o : Obj} (h : Below B a W) (h1 : B ≤ W.heap.size) : Below B a (W.alloc o) := h.alloc h1 o
theorem dst {B : Nat} {a W : World} {x : Addr} {v : Value} (h : Below B a W) (h1 : B ≤ x.block) : Below B a (W.setCell x v) := h.setCell h1 v
theorem ddr {B : Nat} {a W : World} (h : Below B a W) : Below B a W.drew := h.drew
end Go.Proofs.Ytfkpkmcpepeaeaa
namespace Go.Proofs.Ytfkpkmcpepeaeaa
open Go.RowKit
set_option linter.unusedVariables false

/-- The boxes of Apply: a directory, a change, a result. -/
structure Ab (w : World) (p q r : Nat) (d : Dd) (X : Dx) (e : Ed) (W : World) : Prop where
  da : DAt w p d X W
  eb : EB W q e
  rb : Db10 W r zD10 zDx
  ne : w.heap.size ≤ p ∧ p < q ∧ q < r
  of : ∀ z, w.heap.size ≤ z → DOff d X z
section
variable {w W W' : World} {p q r : Nat} {d : Dd} {X : Dx} {e : Ed}
theorem Ab.below (h : Ab w p q r d X e W) (hb : Below W.heap.size W W') : Ab w p q r d X e W' := ⟨h.da.below hb, h.eb.up hb, h.rb.up hb, h.ne, h.of⟩
theorem Ab.start (d : Dd) (X : Dx) (e : Ed) (hd : DR w w.heap.size d X) : Ab w w.heap.size (w.heap.size + 1) (w.heap.size + 1 + 1) d X e (((w.alloc (.cells #[.int .i64 d.vn, .slice X.A d.l.length X.c, .slice X.A2 d.F.length X.c2] 25)).alloc (.cells #[.int .i64 e.kd, .int .i64 e.fr, .int .i64 e.to, .int .i64 e.md] 27)).alloc (.cells #[.int .i64 0, .slice none 0 0, .slice none 0 0] 25)) := by
  have e1 : (w.alloc (.cells #[.int .i64 d.vn, .slice X.A d.l.length X.c, .slice X.A2 d.F.length X.c2] 25)).heap.size = w.heap.size + 1 := by simp
  have e2 : ((w.alloc (.cells #[.int .i64 d.vn, .slice X.A d.l.length X.c, .slice X.A2 d.F.length X.c2] 25)).alloc (.cells #[.int .i64 e.kd, .int .i64 e.fr, .int .i64 e.to, .int .i64 e.md] 27)).heap.size = w.heap.size + 1 + 1 := by simp
  have h1 := (EB.start (w.alloc (.cells #[.int .i64 d.vn, .slice X.A d.l.length X.c, .slice X.A2 d.F.length X.c2] 25)) e 27).alloc (.cells #[.int .i64 0, .slice none 0 0, .slice none 0 0] 25)
  have h2 := Db10.zero ((w.alloc (.cells #[.int .i64 d.vn, .slice X.A d.l.length X.c, .slice X.A2 d.F.length X.c2] 25)).alloc (.cells #[.int .i64 e.kd, .int .i64 e.fr, .int .i64 e.to, .int .i64 e.md] 27)) 25
  rw [e1] at h1
  rw [e2] at h2
  exact ⟨((DAt.start _ hd).alloc _).alloc _, h1, h2, ⟨Nat.le_refl _, by omega, by omega⟩, fun z hz => hd.offs hz⟩
theorem Ab.out0 (h : Ab w p q r d X e W) (x : Int) : DE w.heap.size w zD10 x (.returned (.tuple #[.agg #[.int .i64 0, .slice none 0 0, .slice none 0 0], .int .i64 x])) (((W.setCell ⟨r, 0, none⟩ (.int .i64 0)).setCell ⟨r, 1, none⟩ (.slice none 0 0)).setCell ⟨r, 2, none⟩ (.slice none 0 0)) := by
  have hp := h.ne
  have hb := h.da.bel
  exact ⟨zDx, rfl, zDx_nw _, DR.zero, ((hb.setCell (p := ⟨r, 0, none⟩) (show w.heap.size ≤ r by omega) _).setCell (p := ⟨r, 1, none⟩) (show w.heap.size ≤ r by omega) _).setCell (p := ⟨r, 2, none⟩) (show w.heap.size ≤ r by omega) _⟩
/-- A result that a call gave, stored into the result box. -/
theorem Ab.out (h : Ab w p q r d X e W) {B : Nat} {D : Dd} {Y : Dx} (hn : Y.nw B) (hB : r < B) (hr : DR W W.heap.size D Y) (x : Int) : DE w.heap.size w D x (.returned (.tuple #[dv D Y, .int .i64 x])) (((W.setCell ⟨r, 0, none⟩ (.int .i64 D.vn)).setCell ⟨r, 1, none⟩ (.slice Y.A D.l.length Y.c)).setCell ⟨r, 2, none⟩ (.slice Y.A2 D.F.length Y.c2)) := by
  have hp := h.ne
  have hb := h.da.bel
  have f : ∀ o, DOff D Y (⟨r, o, none⟩ : Addr).block := fun o => hn.off hB
  exact ⟨Y, rfl, hn.low (by omega), (((hr.offp (q := ⟨r, 0, none⟩) (f 0) _).offp (q := ⟨r, 1, none⟩) (f 1) _).offp (q := ⟨r, 2, none⟩) (f 2) _).more (by simp), ((hb.setCell (p := ⟨r, 0, none⟩) (show w.heap.size ≤ r by omega) _).setCell (p := ⟨r, 1, none⟩) (show w.heap.size ≤ r by omega) _).setCell (p := ⟨r, 2, none⟩) (show w.heap.size ≤ r by omega) _⟩
end
/-- .. with what the copies have given, and the box of the next directory. -/
structure Nx (w : World) (p q r : Nat) (d : Dd) (X : Dx) (e : Ed) (oL oF : Option Value) (oX : Option Nat) (W : World) : Prop where
  ab : Ab w p q r d X e W
  fl : ∀ v, oL = some v → W.ownsRow (r + 1) 43 3 v d.l.length (scs d.l)
  ff : ∀ v, oF = some v → W.ownsRow (r + 1) 3 1 v d.F.length (ics d.F)
  fx : ∀ x, oX = some x → Db10 W x zD10 zDx ∧ r < x
  d1 : ∀ u v, oL = some u → oF = some v → ∀ k, u.ownBlock = some k → v.ownBlock ≠ some k
  d2 : ∀ u x, oL = some u → oX = some x → ∀ k, u.ownBlock = some k → k ≠ x
  d3 : ∀ u x, oF = some u → oX = some x → ∀ k, u.ownBlock = some k → k ≠ x
section
variable {w W W' : World} {p q r : Nat} {d : Dd} {X : Dx} {e : Ed} {a b : Option Value} {c : Option Nat}
theorem Nx.below (h : Nx w p q r d X e a b c W) (hb : Below W.heap.size W W') : Nx w p q r d X e a b c W' :=
  ⟨h.ab.below hb, fun v ev => own_up10 (h.fl v ev) hb, fun v ev => own_up10 (h.ff v ev) hb, fun x ex => ⟨(h.fx x ex).1.up hb, (h.fx x ex).2⟩, h.d1, h.d2, h.d3⟩
theorem Nx.drew (h : Nx w p q r d X e a b c W) : Nx w p q r d X e a b c W.drew := h.below (Below.refl _ _).drew
theorem Nx.start (h : Ab w p q r d X e W) : Nx w p q r d X e none none none W := ⟨h, by simp, by simp, by simp, by simp, by simp, by simp⟩
theorem Nx.ax (h : Nx w p q r d X e a b none W) (t : TypeId) : Nx w p q r d X e a b (some W.heap.size) (W.alloc (.cells #[.int .i64 0, .slice none 0 0, .slice none 0 0] t)) := by
  have k := h.below ((Below.refl _ _).alloc (Nat.le_refl _) (.cells #[.int .i64 0, .slice none 0 0, .slice none 0 0] t))
  refine ⟨k.ab, k.fl, k.ff, fun x ex => ?_, k.d1, fun u x eu ex j hj => ?_, fun u x eu ex j hj => ?_⟩
  · injection ex with ex; subst ex
    exact ⟨Db10.zero W t, h.ab.rb.lt⟩
  · injection ex with ex; subst ex
    have := ((h.fl u eu).lt j hj).2; omega
  · injection ex with ex; subst ex
    have := ((h.ff u eu).lt j hj).2; omega
theorem Nx.cl (h : Nx w p q r d X e none b c W) {v : Value} (ho : W'.ownsRow W.heap.size 43 3 v d.l.length (scs d.l)) (hb : Below W.heap.size W W') : Nx w p q r d X e (some v) b c W' := by
  have k := h.below hb
  refine ⟨k.ab, fun u eu => ?_, k.ff, k.fx, fun u x eu ex j hj => ?_, fun u x eu ex j hj => ?_, k.d3⟩
  · injection eu with eu; subst eu
    exact own_low ho h.ab.rb.lt
  · injection eu with eu; subst eu
    intro e2
    have h1 := ((h.ff x ex).lt j e2).2
    have h2 := (ho.lt j hj).1
    omega
  · injection eu with eu; subst eu
    have h1 := (h.fx x ex).1.lt
    have h2 := (ho.lt j hj).1
    omega
theorem Nx.cf (h : Nx w p q r d X e a none c W) {v : Value} (ho : W'.ownsRow W.heap.size 3 1 v d.F.length (ics d.F)) (hb : Below W.heap.size W W') : Nx w p q r d X e a (some v) c W' := by
  have k := h.below hb
  refine ⟨k.ab, k.fl, fun u eu => ?_, k.fx, fun u x eu ex j hj => ?_, k.d2, fun u x eu ex j hj => ?_⟩
  · injection eu with eu; subst eu
    exact own_low ho h.ab.rb.lt
  · injection ex with ex; subst ex
    intro e2
    have h1 := ((h.fl u eu).lt j hj).2
    have h2 := (ho.lt j e2).1
    omega
  · injection eu with eu; subst eu
    have h1 := (h.fx x ex).1.lt
    have h2 := (ho.lt j hj).1
    omega
theorem Nx.xf {x : Nat} (h : Nx w p q r d X e a b (some x) W) : Db10 W x zD10 zDx ∧ r < x := h.fx x rfl
end
/-- .. all of them. -/
structure Ny (w : World) (p q r x : Nat) (d : Dd) (X : Dx) (e : Ed) (Y : Dx) (W : World) : Prop where
  ab : Ab w p q r d X e W
  xb : Db10 W x ⟨d.vn + 1, d.l, d.F⟩ Y
  fl : W.ownsRow (r + 1) 43 3 (.slice Y.A d.l.length Y.c) d.l.length (scs d.l)
  ff : W.ownsRow (r + 1) 3 1 (.slice Y.A2 d.F.length Y.c2) d.F.length (ics d.F)
  d1 : ∀ k, (Value.slice Y.A d.l.length Y.c).ownBlock = some k → (Value.slice Y.A2 d.F.length Y.c2).ownBlock ≠ some k
section
variable {w W W' : World} {p q r : Nat} {d : Dd} {X : Dx} {e : Ed} {A A2 : Option Addr} {c c2 : Nat}
theorem ny_1 (h : Nx w p q r d X e (some (.slice A d.l.length c)) (some (.slice A2 d.F.length c2)) none W) (t : TypeId) : Ny w p q r W.heap.size d X e ⟨A, c, A2, c2⟩ (W.alloc (.cells #[.int .i64 (d.vn + 1), .slice A d.l.length c, .slice A2 d.F.length c2] t)) := by
  have k := h.below ((Below.refl _ _).alloc (Nat.le_refl _) (.cells #[.int .i64 (d.vn + 1), .slice A d.l.length c, .slice A2 d.F.length c2] t))
  exact ⟨k.ab, Db10.start W ⟨d.vn + 1, d.l, d.F⟩ ⟨A, c, A2, c2⟩ t, k.fl _ rfl, k.ff _ rfl, h.d1 _ _ rfl rfl⟩
theorem ny_2 {x : Nat} (h : Nx w p q r d X e (some (.slice A d.l.length c)) (some (.slice A2 d.F.length c2)) (some x) W) : Ny w p q r x d X e ⟨A, c, A2, c2⟩ (((W.setCell ⟨x, 0, none⟩ (.int .i64 (d.vn + 1))).setCell ⟨x, 1, none⟩ (.slice A d.l.length c)).setCell ⟨x, 2, none⟩ (.slice A2 d.F.length c2)) := by
  obtain ⟨h1, h2⟩ := h.xf
  have hn := h.ab.ne
  have o1 : ∀ (j : Nat) (v : Value) (W : World), Ab w p q r d X e W → DOff d X x → Ab w p q r d X e (W.setCell ⟨x, j, none⟩ v) := fun j v W k ho =>
    ⟨k.da.other (a := ⟨x, j, none⟩) (show x ≠ p by omega) ho (show w.heap.size ≤ x by omega) v, k.eb.other (a := ⟨x, j, none⟩) (show x ≠ q by omega) v, k.rb.other (a := ⟨x, j, none⟩) (show x ≠ r by omega) v, k.ne, k.of⟩
  have ho := h.ab.of x (by omega)
  have f1 : ∀ j k, (Value.slice A d.l.length c).ownBlock = some k → k ≠ (⟨x, j, none⟩ : Addr).block := fun j k hk => h.d2 _ _ rfl rfl k hk
  have f2 : ∀ j k, (Value.slice A2 d.F.length c2).ownBlock = some k → k ≠ (⟨x, j, none⟩ : Addr).block := fun j k hk => h.d3 _ _ rfl rfl k hk
  exact ⟨o1 2 _ _ (o1 1 _ _ (o1 0 _ _ h.ab ho) ho) ho, h1.set ⟨d.vn + 1, d.l, d.F⟩ ⟨A, c, A2, c2⟩, own_oth (own_oth (own_oth (h.fl _ rfl) (f1 0) _) (f1 1) _) (f1 2) _, own_oth (own_oth (own_oth (h.ff _ rfl) (f2 0) _) (f2 1) _) (f2 2) _, h.d1 _ _ rfl rfl⟩
end
theorem Ab.k3 {w W W' : World} {p q r : Nat} {d : Dd} {X : Dx} {e : Ed} (h : Ab w p q r d X e W) (hb : Below (p + 1) W W') : K3 p d X W' :=
  ⟨(hb.cell (p := ⟨p, 0, none⟩) (Nat.lt_succ_self p)).trans h.da.db.c0, (hb.cell (p := ⟨p, 1, none⟩) (Nat.lt_succ_self p)).trans h.da.db.c1, (hb.cell (p := ⟨p, 2, none⟩) (Nat.lt_succ_self p)).trans h.da.db.c2⟩
/-- The numbers of a valid directory's spans. -/
theorem ok_lo {d : Dd} (h : OkD d) : ∀ k, k < d.l.length → 0 ≤ (sg d.l k).lo
  | 0, hk => by have a := (h.sp 0 hk).1; rw [nxD_zero] at a; omega
  | k + 1, hk => by
    have a := (h.sp (k + 1) hk).1
    have b := (h.sp k (by omega)).2.1
    have c := ok_lo h k (by omega)
    rw [nxD_succ] at a
    omega
theorem ok_rng {d : Dd} (h : OkD d) {k : Nat} (hk : k < d.l.length) : 0 ≤ (sg d.l k).lo ∧ (sg d.l k).lo ≤ (sg d.l k).hi ∧ (sg d.l k).hi ≤ 65535 := ⟨ok_lo h k hk, (h.sp k hk).2⟩
theorem Ab.fin {w W W' : World} {p q r : Nat} {d : Dd} {X : Dx} {e : Ed} (h : Ab w p q r d X e W) (hb : Below (r + 1) W W') : Db10 W' r zD10 zDx ∧ Below w.heap.size w W' :=
  ⟨h.rb.keep (fun o => hb.cell (p := ⟨r, o, none⟩) (Nat.lt_succ_self r)) (fun o => hb.frozen (p := ⟨r, o, none⟩) (Nat.lt_succ_self r)) hb.size, h.da.bel.trans (hb.mono (by have := h.ne; omega))⟩
theorem fin_out {w W : World} {r B : Nat} {D : Dd} {Y : Dx} (hr0 : r = w.heap.size + 1 + 1) (hbel : Below w.heap.size w W) (hn : Y.nw B) (hr : DR W W.heap.size D Y) (hB : r < B) (x : Int) : DE w.heap.size w D x (.returned (.tuple #[dv D Y, .int .i64 x])) (((W.setCell ⟨r, 0, none⟩ (.int .i64 D.vn)).setCell ⟨r, 1, none⟩ (.slice Y.A D.l.length Y.c)).setCell ⟨r, 2, none⟩ (.slice Y.A2 D.F.length Y.c2)) := by
  have f : ∀ o, DOff D Y (⟨r, o, none⟩ : Addr).block := fun o => hn.off hB
  exact ⟨Y, rfl, hn.low (by omega), (((hr.offp (q := ⟨r, 0, none⟩) (f 0) _).offp (q := ⟨r, 1, none⟩) (f 1) _).offp (q := ⟨r, 2, none⟩) (f 2) _).more (by simp), ((hbel.setCell (p := ⟨r, 0, none⟩) (show w.heap.size ≤ r by omega) _).setCell (p := ⟨r, 1, none⟩) (show w.heap.size ≤ r by omega) _).setCell (p := ⟨r, 2, none⟩) (show w.heap.size ≤ r by omega) _⟩

set_option maxHeartbeats 8000000 in
set_option maxRecDepth 20000 in
theorem dapply_any (d : Dd) (X : Dx) (e : Ed) (w : World) (hd : DR w w.heap.size d X) (hl : d.l.length ≤ 90) :
    Calls Try.prog 19 #[dv d X, e.v] w (DE w.heap.size w (apD d e) (apE d e)) := by
  have H0 := Lib.hid (Ab.start d X e hd)
  have HVA := Lib.hid (fun p q r W (k : Ab w p q r d X e W) => ddvalid_any d X W k.da.dr)
  have HST := Lib.hid (fun W => slotTest_any d X W)
  have HHL := Lib.hid hl
  obtain ⟨p, hp⟩ : ∃ p, p = w.heap.size := ⟨_, rfl⟩
  obtain ⟨q, hq⟩ : ∃ q, q = w.heap.size + 1 := ⟨_, rfl⟩
  obtain ⟨r, hr⟩ : ∃ r, r = w.heap.size + 1 + 1 := ⟨_, rfl⟩
  have HPP := Lib.hid (show (p = w.heap.size ∧ q = w.heap.size + 1 ∧ r = w.heap.size + 1 + 1) ∧ (¬ p = q ∧ ¬ q = p ∧ ¬ p = r ∧ ¬ r = p ∧ ¬ q = r ∧ ¬ r = q) by omega)
  obtain ⟨R, hR⟩ : ∃ R, R = apD d e := ⟨_, rfl⟩
  obtain ⟨x, hx⟩ : ∃ x, x = apE d e := ⟨_, rfl⟩
  rw [← hR, ← hx]
  have HRX := Lib.hid (And.intro hR hx)
  clear hR hx hp hq hr hd hl
  by_cases hv : vaD d = 0
  · rw [hv] at HVA
    by_cases h6 : d.vn = 1099511627776
    · have HRE := Lib.hid (show x = 6 ∧ R = zD10 from by
        have h7 : apE d e = 6 := by rw [apE_N (by rw [apN_6 hv h6]; decide), apN_6 hv h6]
        exact ⟨HRX.out.2.trans h7, by rw [HRX.out.1, apD_no (by rw [h7]; decide)]⟩)
      have h6' : (d.vn == 1099511627776) = true := by simpa using h6
      clear hv h6
      go_enter Try.func19, Try.ntmps19
      go_wp2_with fail
      have H0 := Lib.hid (show Ab w p q r d X e (((w.alloc (.cells #[.int .i64 d.vn, .slice X.A d.l.length X.c, .slice X.A2 d.F.length X.c2] 25)).alloc (.cells #[.int .i64 e.kd, .int .i64 e.fr, .int .i64 e.to, .int .i64 e.md] 27)).alloc (.cells #[.int .i64 0, .slice none 0 0, .slice none 0 0] 25)) from by rw [HPP.out.1.1, HPP.out.1.2.1, HPP.out.1.2.2]; exact H0.out)
      rw [← HPP.out.1.2.2, ← HPP.out.1.2.1, ← HPP.out.1.1]
      generalize ((w.alloc (.cells #[.int .i64 d.vn, .slice X.A d.l.length X.c, .slice X.A2 d.F.length X.c2] 25)).alloc (.cells #[.int .i64 e.kd, .int .i64 e.fr, .int .i64 e.to, .int .i64 e.md] 27)).alloc (.cells #[.int .i64 0, .slice none 0 0, .slice none 0 0] 25) = w0 at *
      refine (HVA.out _ _ _ _ H0.out).mono ?_
      rintro e1 w1 ⟨rfl, hb⟩
      have H1 := Lib.hid (H0.out.below hb)
      clear hb H0 HVA
      obtain ⟨x0, x1, x2, -, xl⟩ := H1.out.da.db
      obtain ⟨y0, y1, y2, y3, yl⟩ := H1.out.eb
      obtain ⟨⟨r0, r1, r2, rl⟩, g0, g1, g2⟩ := H1.out.rb.all
      have HO := Lib.hid (H1.out.out0 6)
      go_wp2
      exact bodyPost_ret (v := .tuple #[.agg #[.int .i64 0, .slice none 0 0, .slice none 0 0], .int .i64 6]) (by simp only [results, Try.results19]; go_simp <;> rfl) rfl (by rw [HRE.out.1, HRE.out.2]; exact HO.out)
    · have h6' : (d.vn == 1099511627776) = false := by simpa using h6
      by_cases hk : e.kd = 1 ∨ e.kd = 2
      · have HOK := Lib.hid (ok_va hv)
        have hn6 : d.F.length ≤ 1000 := by have := HOK.out.rg.2.2; omega
        have HS1 := Lib.hid (fun p x W hp hc => slot1_any x p X.A2 d.F.length X.c2 W hp hc hn6)
        have hkk : (e.kd != 1) = false ∨ ((e.kd != 1) = true ∧ (e.kd != 2) = false) := by
          rcases hk with h | h
          · left; simpa using h
          · right; rw [h]; decide
        by_cases hf : slotP d.F.length e.fr
        · have HDfr := Lib.hid (decide_eq_true hf)
          by_cases ht : slotP d.F.length e.to
          · have HDto := Lib.hid (decide_eq_true ht)
            have HSL := Lib.hid (And.intro hf ht)
            have HAN := Lib.hid (apN_0 hv h6 hk hf ht)
            clear hkk hf ht
            rcases hk with hk | hk
            · have HEX := Lib.hid (show x = spE d e ∧ R = if spE d e = 0 then Dd.mk (d.vn + 1) (spL d.l (ixS d.l e.fr).toNat e) (d.F.set e.to.toNat (-1)) else zD10 from by
                have h7 : apE d e = spE d e := apE_1 HAN.out hk
                refine ⟨HRX.out.2.trans h7, ?_⟩
                rw [HRX.out.1]
                by_cases h8 : spE d e = 0
                · rw [if_pos h8, apD_1 (by rw [h7]; exact h8) hk]; rfl
                · rw [if_neg h8, apD_no (by rw [h7]; exact h8)])
              have k1 : (e.kd != 1) = false := by simpa using hk
              have k3 : (e.kd == 1) = true := by simpa using hk
              clear hv h6 hk
              go_enter Try.func19, Try.ntmps19
              go_wp2_with fail
              have H0 := Lib.hid (show Ab w p q r d X e (((w.alloc (.cells #[.int .i64 d.vn, .slice X.A d.l.length X.c, .slice X.A2 d.F.length X.c2] 25)).alloc (.cells #[.int .i64 e.kd, .int .i64 e.fr, .int .i64 e.to, .int .i64 e.md] 27)).alloc (.cells #[.int .i64 0, .slice none 0 0, .slice none 0 0] 25)) from by rw [HPP.out.1.1, HPP.out.1.2.1, HPP.out.1.2.2]; exact H0.out)
              rw [← HPP.out.1.2.2, ← HPP.out.1.2.1, ← HPP.out.1.1]
              generalize ((w.alloc (.cells #[.int .i64 d.vn, .slice X.A d.l.length X.c, .slice X.A2 d.F.length X.c2] 25)).alloc (.cells #[.int .i64 e.kd, .int .i64 e.fr, .int .i64 e.to, .int .i64 e.md] 27)).alloc (.cells #[.int .i64 0, .slice none 0 0, .slice none 0 0] 25) = w0 at *
              refine (HVA.out _ _ _ _ H0.out).mono ?_
              rintro e1 w1 ⟨rfl, hb⟩
              have H1 := Lib.hid (H0.out.below hb)
              clear hb H0 HVA
              obtain ⟨x0, x1, x2, -, xl⟩ := H1.out.da.db
              obtain ⟨y0, y1, y2, y3, yl⟩ := H1.out.eb
              go_wp2_with fail
              refine (HST.out _).mono ?_
              rintro e1 w2 ⟨rfl, hw2⟩
              obtain ⟨z, hz⟩ : ∃ z, z = w1.heap.size := ⟨_, rfl⟩
              have H2 := Lib.hid (show Ab w p q r d X e w2 from by rw [hw2]; exact H1.out.below ((Below.refl _ _).alloc (Nat.le_refl _) _))
              have Q2 := Lib.hid (show w2.cell? ⟨z, 2, none⟩ = some (.slice X.A2 d.F.length X.c2) ∧ z < w2.heap.size from by rw [hw2, hz]; exact ⟨by simp [go_sem], by simp⟩)
              rw [← hz]
              dsimp only [stV]
              clear x0 x1 x2 xl y0 y1 y2 y3 yl
              clear hz hw2 H1 HST
              have HSF := Lib.hid (HS1.out z e.fr w2 Q2.out.2 Q2.out.1)
              rw [HDfr.out] at HSF
              obtain ⟨x0, x1, x2, -, xl⟩ := H2.out.da.db
              obtain ⟨y0, y1, y2, y3, yl⟩ := H2.out.eb
              go_wp2_with fail
              clear x0 x1 x2 xl y0 y1 y2 y3 yl
              refine HSF.out.mono ?_
              rintro e1 w3 ⟨rfl, hw⟩
              subst hw
              have HSF := Lib.hid (HS1.out z e.to w2 Q2.out.2 Q2.out.1)
              rw [HDto.out] at HSF
              obtain ⟨x0, x1, x2, -, xl⟩ := H2.out.da.db
              obtain ⟨y0, y1, y2, y3, yl⟩ := H2.out.eb
              go_wp2_with fail
              clear x0 x1 x2 xl y0 y1 y2 y3 yl
              refine HSF.out.mono ?_
              rintro e1 w3 ⟨rfl, hw⟩
              subst hw
              go_upto_region 11 with (fail)
              have HP0 := Lib.hid (show Nx w p q r d X e none none none w2 from Nx.start H2.out)
              have HP := Lib.hid HP0.out.drew
              have HCL := Lib.hid (fun W (a b : Option Value) (c : Option Nat) (k : Nx w p q r d X e a b c W) => spclone_any X.A d.l.length X.c d.l W k.ab.da.dr.pl (by have := HHL.out; omega))
              have HCF := Lib.hid (fun W (a b : Option Value) (c : Option Nat) (k : Nx w p q r d X e a b c W) => niclone_any X.A2 d.F.length X.c2 d.F W k.ab.da.dr.fl hn6)
              have hwv : wrap64 (d.vn + 1) = d.vn + 1 := IntWalk.wrap64_in _ (by have := HOK.out.rg.1; omega)
              have hwv2 : IntKind.i64.wrap (d.vn + 1) = d.vn + 1 := IntWalk.i64_in _ (by have := HOK.out.rg.1; omega)
              have HLF := Lib.hid (And.intro (rfl : d.l.length = d.l.length) (rfl : d.F.length = d.F.length))
              go_cut [8] (fun s8 wx => ∃ (y : Nat) (Y : Dx), s8 = .pointer (some ⟨y, 0, none⟩) ∧ Hid (Ny w p q r y d X e Y wx))
              case first =>
                have HSK := Lib.hid (fun W' (hb : Below (p + 1) w2 W') => H2.out.k3 hb)
                have HBZ := Lib.hid (Below.refl (p + 1) w2)
                have hpl := H2.out.da.db.lt
                go_region_held3 (fun W => K3 p d X W)
                  ((refine HSK.out _ ?_; repeat' (first | with_reducible exact HBZ.out | with_reducible refine dal ?_ ?_ | with_reducible refine dst ?_ ?_ | with_reducible refine ddr ?_ | omega | (simp; omega))))
                  (first
                    | (go_at_call 38; (first | (have HV := Lib.hid HP.out; with_reducible refine (HCL.out _ _ _ _ HV.out).mono ?_) | (have HV := Lib.hid (HP.out.ax 25); with_reducible refine (HCL.out _ _ _ _ HV.out).mono ?_) | (have HV := Lib.hid (HP0.out.ax 25).drew; with_reducible refine (HCL.out _ _ _ _ HV.out).mono ?_)); rintro e1 w3 ⟨v, rfl, ho, hb⟩; obtain ⟨A, c, rfl⟩ := own_form ho; have HP := Lib.hid (HV.out.cl ho hb); have HSK := Lib.hid (fun W' (hb : Below (p + 1) w3 W') => HP.out.ab.k3 hb); have HBZ := Lib.hid (Below.refl (p + 1) w3); have hpl := HP.out.ab.da.db.lt; (try (obtain ⟨⟨b0, b1, b2, bl⟩, g0, g1, g2⟩ := HP.out.xf.1.all; have hxr := HP.out.xf.2; have hrq := HP.out.ab.ne)); clear HV ho hb)
                    | (go_at_call 39; (first | (have HV := Lib.hid HP.out; with_reducible refine (HCF.out _ _ _ _ HV.out).mono ?_) | (have HV := Lib.hid (HP.out.ax 25); with_reducible refine (HCF.out _ _ _ _ HV.out).mono ?_) | (have HV := Lib.hid (HP0.out.ax 25).drew; with_reducible refine (HCF.out _ _ _ _ HV.out).mono ?_)); rintro e1 w3 ⟨v, rfl, ho, hb⟩; obtain ⟨A2, c2, rfl⟩ := own_form ho; have HP := Lib.hid (HV.out.cf ho hb); have HSK := Lib.hid (fun W' (hb : Below (p + 1) w3 W') => HP.out.ab.k3 hb); have HBZ := Lib.hid (Below.refl (p + 1) w3); have hpl := HP.out.ab.da.db.lt; (try (obtain ⟨⟨b0, b1, b2, bl⟩, g0, g1, g2⟩ := HP.out.xf.1.all; have hxr := HP.out.xf.2; have hrq := HP.out.ab.ne)); clear HV ho hb))
                all_goals
                  go_wp2_with fail
                  go_meet
                  (try rw [hwv2])
                  first
                  | exact ⟨_, ⟨A, c, A2, c2⟩, rfl, Lib.hid (ny_1 HP.out 25)⟩
                  | exact ⟨_, ⟨A, c, A2, c2⟩, rfl, Lib.hid (ny_2 HP.out)⟩
              case rest =>
                clear HP0 HP H2 HCL HCF Q2 HS1 HDfr HDto
                obtain ⟨y, Y, rfl, HN⟩ := hcut
                have HSP := Lib.hid (show Calls Try.prog 40 #[dv ⟨d.vn + 1, d.l, d.F⟩ Y, e.v] wc (DE (r + 1) wc (if spE d e = 0 then Dd.mk (d.vn + 1) (spL d.l (ixS d.l e.fr).toNat e) (d.F.set e.to.toNat (-1)) else zD10) (spE d e)) from dsplit_any (r + 1) ⟨d.vn + 1, d.l, d.F⟩ Y e wc (Nat.succ_le_of_lt HN.out.ab.rb.lt) HN.out.fl HN.out.ff HN.out.d1 HHL.out (fun k hk => ok_rng HOK.out hk) HSL.out.2)
                rw [← HEX.out.2, ← HEX.out.1] at HSP
                generalize wc = w5 at *
                obtain ⟨x0, x1, x2, -, xl⟩ := HN.out.xb
                obtain ⟨y0, y1, y2, y3, yl⟩ := HN.out.ab.eb
                dsimp only at x0 x1 x2
                go_wp2_with fail
                clear x0 x1 x2 xl y0 y1 y2 y3 yl
                refine HSP.out.mono ?_
                rintro e1 w6 ⟨Z, rfl, hnw, hdr, hb⟩
                have HFI := Lib.hid (HN.out.ab.fin hb)
                have HO := Lib.hid (fin_out (w := w) HPP.out.1.2.2 HFI.out.2 hnw hdr (Nat.lt_succ_self r) x)
                obtain ⟨⟨r0, r1, r2, rl⟩, g0, g1, g2⟩ := HFI.out.1.all
                clear hnw hdr hb HSP HEX
                go_wp2
                exact bodyPost_ret (v := .tuple #[dv R Z, .int .i64 x]) (by simp only [results, Try.results19]; go_simp <;> rfl) rfl HO.out
            · have HEX := Lib.hid (show x = meE d e ∧ R = if meE d e = 0 then Dd.mk (d.vn + 1) (meL d.l (min (ixS d.l e.fr) (ixS d.l e.to)).toNat e) (d.F.set e.fr.toNat e.to) else zD10 from by
                have h7 : apE d e = meE d e := apE_2 HAN.out hk
                refine ⟨HRX.out.2.trans h7, ?_⟩
                rw [HRX.out.1]
                by_cases h8 : meE d e = 0
                · rw [if_pos h8, apD_2 (by rw [h7]; exact h8) hk]; rfl
                · rw [if_neg h8, apD_no (by rw [h7]; exact h8)])
              have k1 : (e.kd != 1) = true := by rw [hk]; decide
              have k2 : (e.kd != 2) = false := by simpa using hk
              have k3 : (e.kd == 1) = false := by rw [hk]; decide
              clear hv h6 hk
              go_enter Try.func19, Try.ntmps19
              go_wp2_with fail
              have H0 := Lib.hid (show Ab w p q r d X e (((w.alloc (.cells #[.int .i64 d.vn, .slice X.A d.l.length X.c, .slice X.A2 d.F.length X.c2] 25)).alloc (.cells #[.int .i64 e.kd, .int .i64 e.fr, .int .i64 e.to, .int .i64 e.md] 27)).alloc (.cells #[.int .i64 0, .slice none 0 0, .slice none 0 0] 25)) from by rw [HPP.out.1.1, HPP.out.1.2.1, HPP.out.1.2.2]; exact H0.out)
              rw [← HPP.out.1.2.2, ← HPP.out.1.2.1, ← HPP.out.1.1]
              generalize ((w.alloc (.cells #[.int .i64 d.vn, .slice X.A d.l.length X.c, .slice X.A2 d.F.length X.c2] 25)).alloc (.cells #[.int .i64 e.kd, .int .i64 e.fr, .int .i64 e.to, .int .i64 e.md] 27)).alloc (.cells #[.int .i64 0, .slice none 0 0, .slice none 0 0] 25) = w0 at *
              refine (HVA.out _ _ _ _ H0.out).mono ?_
              rintro e1 w1 ⟨rfl, hb⟩
              have H1 := Lib.hid (H0.out.below hb)
              clear hb H0 HVA
              obtain ⟨x0, x1, x2, -, xl⟩ := H1.out.da.db
              obtain ⟨y0, y1, y2, y3, yl⟩ := H1.out.eb
              go_wp2_with fail
              refine (HST.out _).mono ?_
              rintro e1 w2 ⟨rfl, hw2⟩
              obtain ⟨z, hz⟩ : ∃ z, z = w1.heap.size := ⟨_, rfl⟩
              have H2 := Lib.hid (show Ab w p q r d X e w2 from by rw [hw2]; exact H1.out.below ((Below.refl _ _).alloc (Nat.le_refl _) _))
              have Q2 := Lib.hid (show w2.cell? ⟨z, 2, none⟩ = some (.slice X.A2 d.F.length X.c2) ∧ z < w2.heap.size from by rw [hw2, hz]; exact ⟨by simp [go_sem], by simp⟩)
              rw [← hz]
              dsimp only [stV]
              clear x0 x1 x2 xl y0 y1 y2 y3 yl
              clear hz hw2 H1 HST
              have HSF := Lib.hid (HS1.out z e.fr w2 Q2.out.2 Q2.out.1)
              rw [HDfr.out] at HSF
              obtain ⟨x0, x1, x2, -, xl⟩ := H2.out.da.db
              obtain ⟨y0, y1, y2, y3, yl⟩ := H2.out.eb
              go_wp2_with fail
              clear x0 x1 x2 xl y0 y1 y2 y3 yl
              refine HSF.out.mono ?_
              rintro e1 w3 ⟨rfl, hw⟩
              subst hw
              have HSF := Lib.hid (HS1.out z e.to w2 Q2.out.2 Q2.out.1)
              rw [HDto.out] at HSF
              obtain ⟨x0, x1, x2, -, xl⟩ := H2.out.da.db
              obtain ⟨y0, y1, y2, y3, yl⟩ := H2.out.eb
              go_wp2_with fail
              clear x0 x1 x2 xl y0 y1 y2 y3 yl
              refine HSF.out.mono ?_
              rintro e1 w3 ⟨rfl, hw⟩
              subst hw
              go_upto_region 11 with (fail)
              have HP0 := Lib.hid (show Nx w p q r d X e none none none w2 from Nx.start H2.out)
              have HP := Lib.hid HP0.out.drew
              have HCL := Lib.hid (fun W (a b : Option Value) (c : Option Nat) (k : Nx w p q r d X e a b c W) => spclone_any X.A d.l.length X.c d.l W k.ab.da.dr.pl (by have := HHL.out; omega))
              have HCF := Lib.hid (fun W (a b : Option Value) (c : Option Nat) (k : Nx w p q r d X e a b c W) => niclone_any X.A2 d.F.length X.c2 d.F W k.ab.da.dr.fl hn6)
              have hwv : wrap64 (d.vn + 1) = d.vn + 1 := IntWalk.wrap64_in _ (by have := HOK.out.rg.1; omega)
              have hwv2 : IntKind.i64.wrap (d.vn + 1) = d.vn + 1 := IntWalk.i64_in _ (by have := HOK.out.rg.1; omega)
              have HLF := Lib.hid (And.intro (rfl : d.l.length = d.l.length) (rfl : d.F.length = d.F.length))
              go_cut [8] (fun s8 wx => ∃ (y : Nat) (Y : Dx), s8 = .pointer (some ⟨y, 0, none⟩) ∧ Hid (Ny w p q r y d X e Y wx))
              case first =>
                have HSK := Lib.hid (fun W' (hb : Below (p + 1) w2 W') => H2.out.k3 hb)
                have HBZ := Lib.hid (Below.refl (p + 1) w2)
                have hpl := H2.out.da.db.lt
                go_region_held3 (fun W => K3 p d X W)
                  ((refine HSK.out _ ?_; repeat' (first | with_reducible exact HBZ.out | with_reducible refine dal ?_ ?_ | with_reducible refine dst ?_ ?_ | with_reducible refine ddr ?_ | omega | (simp; omega))))
                  (first
                    | (go_at_call 38; (first | (have HV := Lib.hid HP.out; with_reducible refine (HCL.out _ _ _ _ HV.out).mono ?_) | (have HV := Lib.hid (HP.out.ax 25); with_reducible refine (HCL.out _ _ _ _ HV.out).mono ?_) | (have HV := Lib.hid (HP0.out.ax 25).drew; with_reducible refine (HCL.out _ _ _ _ HV.out).mono ?_)); rintro e1 w3 ⟨v, rfl, ho, hb⟩; obtain ⟨A, c, rfl⟩ := own_form ho; have HP := Lib.hid (HV.out.cl ho hb); have HSK := Lib.hid (fun W' (hb : Below (p + 1) w3 W') => HP.out.ab.k3 hb); have HBZ := Lib.hid (Below.refl (p + 1) w3); have hpl := HP.out.ab.da.db.lt; (try (obtain ⟨⟨b0, b1, b2, bl⟩, g0, g1, g2⟩ := HP.out.xf.1.all; have hxr := HP.out.xf.2; have hrq := HP.out.ab.ne)); clear HV ho hb)
                    | (go_at_call 39; (first | (have HV := Lib.hid HP.out; with_reducible refine (HCF.out _ _ _ _ HV.out).mono ?_) | (have HV := Lib.hid (HP.out.ax 25); with_reducible refine (HCF.out _ _ _ _ HV.out).mono ?_) | (have HV := Lib.hid (HP0.out.ax 25).drew; with_reducible refine (HCF.out _ _ _ _ HV.out).mono ?_)); rintro e1 w3 ⟨v, rfl, ho, hb⟩; obtain ⟨A2, c2, rfl⟩ := own_form ho; have HP := Lib.hid (HV.out.cf ho hb); have HSK := Lib.hid (fun W' (hb : Below (p + 1) w3 W') => HP.out.ab.k3 hb); have HBZ := Lib.hid (Below.refl (p + 1) w3); have hpl := HP.out.ab.da.db.lt; (try (obtain ⟨⟨b0, b1, b2, bl⟩, g0, g1, g2⟩ := HP.out.xf.1.all; have hxr := HP.out.xf.2; have hrq := HP.out.ab.ne)); clear HV ho hb))
                all_goals
                  go_wp2_with fail
                  go_meet
                  (try rw [hwv2])
                  first
                  | exact ⟨_, ⟨A, c, A2, c2⟩, rfl, Lib.hid (ny_1 HP.out 25)⟩
                  | exact ⟨_, ⟨A, c, A2, c2⟩, rfl, Lib.hid (ny_2 HP.out)⟩
              case rest =>
                clear HP0 HP H2 HCL HCF Q2 HS1 HDfr HDto
                obtain ⟨y, Y, rfl, HN⟩ := hcut
                have HSP := Lib.hid (show Calls Try.prog 41 #[dv ⟨d.vn + 1, d.l, d.F⟩ Y, e.v] wc (DE (r + 1) wc (if meE d e = 0 then Dd.mk (d.vn + 1) (meL d.l (min (ixS d.l e.fr) (ixS d.l e.to)).toNat e) (d.F.set e.fr.toNat e.to) else zD10) (meE d e)) from dmerge_any (r + 1) ⟨d.vn + 1, d.l, d.F⟩ Y e wc (Nat.succ_le_of_lt HN.out.ab.rb.lt) HN.out.fl HN.out.ff HN.out.d1 HHL.out HSL.out.1)
                rw [← HEX.out.2, ← HEX.out.1] at HSP
                generalize wc = w5 at *
                obtain ⟨x0, x1, x2, -, xl⟩ := HN.out.xb
                obtain ⟨y0, y1, y2, y3, yl⟩ := HN.out.ab.eb
                dsimp only at x0 x1 x2
                go_wp2_with fail
                clear x0 x1 x2 xl y0 y1 y2 y3 yl
                refine HSP.out.mono ?_
                rintro e1 w6 ⟨Z, rfl, hnw, hdr, hb⟩
                have HFI := Lib.hid (HN.out.ab.fin hb)
                have HO := Lib.hid (fin_out (w := w) HPP.out.1.2.2 HFI.out.2 hnw hdr (Nat.lt_succ_self r) x)
                obtain ⟨⟨r0, r1, r2, rl⟩, g0, g1, g2⟩ := HFI.out.1.all
                clear hnw hdr hb HSP HEX
                go_wp2
                exact bodyPost_ret (v := .tuple #[dv R Z, .int .i64 x]) (by simp only [results, Try.results19]; go_simp <;> rfl) rfl HO.out
          · have HDto := Lib.hid (decide_eq_false ht)
            have HRE := Lib.hid (show x = 4 ∧ R = zD10 from by
              have h7 : apE d e = 4 := by rw [apE_N (by rw [apN_4 hv h6 hk (.inr ht)]; decide), apN_4 hv h6 hk (.inr ht)]
              exact ⟨HRX.out.2.trans h7, by rw [HRX.out.1, apD_no (by rw [h7]; decide)]⟩)
            clear hv h6 hk hf ht
            rcases hkk with k1 | ⟨k1, k2⟩
            all_goals
              go_enter Try.func19, Try.ntmps19
              go_wp2_with fail
              have H0 := Lib.hid (show Ab w p q r d X e (((w.alloc (.cells #[.int .i64 d.vn, .slice X.A d.l.length X.c, .slice X.A2 d.F.length X.c2] 25)).alloc (.cells #[.int .i64 e.kd, .int .i64 e.fr, .int .i64 e.to, .int .i64 e.md] 27)).alloc (.cells #[.int .i64 0, .slice none 0 0, .slice none 0 0] 25)) from by rw [HPP.out.1.1, HPP.out.1.2.1, HPP.out.1.2.2]; exact H0.out)
              rw [← HPP.out.1.2.2, ← HPP.out.1.2.1, ← HPP.out.1.1]
              generalize ((w.alloc (.cells #[.int .i64 d.vn, .slice X.A d.l.length X.c, .slice X.A2 d.F.length X.c2] 25)).alloc (.cells #[.int .i64 e.kd, .int .i64 e.fr, .int .i64 e.to, .int .i64 e.md] 27)).alloc (.cells #[.int .i64 0, .slice none 0 0, .slice none 0 0] 25) = w0 at *
              refine (HVA.out _ _ _ _ H0.out).mono ?_
              rintro e1 w1 ⟨rfl, hb⟩
              have H1 := Lib.hid (H0.out.below hb)
              clear hb H0 HVA
              obtain ⟨x0, x1, x2, -, xl⟩ := H1.out.da.db
              obtain ⟨y0, y1, y2, y3, yl⟩ := H1.out.eb
              go_wp2_with fail
              refine (HST.out _).mono ?_
              rintro e1 w2 ⟨rfl, hw2⟩
              obtain ⟨z, hz⟩ : ∃ z, z = w1.heap.size := ⟨_, rfl⟩
              have H2 := Lib.hid (show Ab w p q r d X e w2 from by rw [hw2]; exact H1.out.below ((Below.refl _ _).alloc (Nat.le_refl _) _))
              have Q2 := Lib.hid (show w2.cell? ⟨z, 2, none⟩ = some (.slice X.A2 d.F.length X.c2) ∧ z < w2.heap.size from by rw [hw2, hz]; exact ⟨by simp [go_sem], by simp⟩)
              rw [← hz]
              dsimp only [stV]
              clear x0 x1 x2 xl y0 y1 y2 y3 yl
              clear hz hw2 H1 HST
              have HSF := Lib.hid (HS1.out z e.fr w2 Q2.out.2 Q2.out.1)
              rw [HDfr.out] at HSF
              obtain ⟨x0, x1, x2, -, xl⟩ := H2.out.da.db
              obtain ⟨y0, y1, y2, y3, yl⟩ := H2.out.eb
              go_wp2_with fail
              clear x0 x1 x2 xl y0 y1 y2 y3 yl
              refine HSF.out.mono ?_
              rintro e1 w3 ⟨rfl, hw⟩
              subst hw
              have HSF := Lib.hid (HS1.out z e.to w2 Q2.out.2 Q2.out.1)
              rw [HDto.out] at HSF
              obtain ⟨x0, x1, x2, -, xl⟩ := H2.out.da.db
              obtain ⟨y0, y1, y2, y3, yl⟩ := H2.out.eb
              go_wp2_with fail
              clear x0 x1 x2 xl y0 y1 y2 y3 yl
              refine HSF.out.mono ?_
              rintro e1 w3 ⟨rfl, hw⟩
              subst hw
              obtain ⟨⟨r0, r1, r2, rl⟩, g0, g1, g2⟩ := H2.out.rb.all
              have HO := Lib.hid (H2.out.out0 4)
              go_wp2
              exact bodyPost_ret (v := .tuple #[.agg #[.int .i64 0, .slice none 0 0, .slice none 0 0], .int .i64 4]) (by simp only [results, Try.results19]; go_simp <;> rfl) rfl (by rw [HRE.out.1, HRE.out.2]; exact HO.out)
        · have HDfr := Lib.hid (decide_eq_false hf)
          have HRE := Lib.hid (show x = 4 ∧ R = zD10 from by
            have h7 : apE d e = 4 := by rw [apE_N (by rw [apN_4 hv h6 hk (.inl hf)]; decide), apN_4 hv h6 hk (.inl hf)]
            exact ⟨HRX.out.2.trans h7, by rw [HRX.out.1, apD_no (by rw [h7]; decide)]⟩)
          clear hv h6 hk hf
          rcases hkk with k1 | ⟨k1, k2⟩
          all_goals
            go_enter Try.func19, Try.ntmps19
            go_wp2_with fail
            have H0 := Lib.hid (show Ab w p q r d X e (((w.alloc (.cells #[.int .i64 d.vn, .slice X.A d.l.length X.c, .slice X.A2 d.F.length X.c2] 25)).alloc (.cells #[.int .i64 e.kd, .int .i64 e.fr, .int .i64 e.to, .int .i64 e.md] 27)).alloc (.cells #[.int .i64 0, .slice none 0 0, .slice none 0 0] 25)) from by rw [HPP.out.1.1, HPP.out.1.2.1, HPP.out.1.2.2]; exact H0.out)
            rw [← HPP.out.1.2.2, ← HPP.out.1.2.1, ← HPP.out.1.1]
            generalize ((w.alloc (.cells #[.int .i64 d.vn, .slice X.A d.l.length X.c, .slice X.A2 d.F.length X.c2] 25)).alloc (.cells #[.int .i64 e.kd, .int .i64 e.fr, .int .i64 e.to, .int .i64 e.md] 27)).alloc (.cells #[.int .i64 0, .slice none 0 0, .slice none 0 0] 25) = w0 at *
            refine (HVA.out _ _ _ _ H0.out).mono ?_
            rintro e1 w1 ⟨rfl, hb⟩
            have H1 := Lib.hid (H0.out.below hb)
            clear hb H0 HVA
            obtain ⟨x0, x1, x2, -, xl⟩ := H1.out.da.db
            obtain ⟨y0, y1, y2, y3, yl⟩ := H1.out.eb
            go_wp2_with fail
            refine (HST.out _).mono ?_
            rintro e1 w2 ⟨rfl, hw2⟩
            obtain ⟨z, hz⟩ : ∃ z, z = w1.heap.size := ⟨_, rfl⟩
            have H2 := Lib.hid (show Ab w p q r d X e w2 from by rw [hw2]; exact H1.out.below ((Below.refl _ _).alloc (Nat.le_refl _) _))
            have Q2 := Lib.hid (show w2.cell? ⟨z, 2, none⟩ = some (.slice X.A2 d.F.length X.c2) ∧ z < w2.heap.size from by rw [hw2, hz]; exact ⟨by simp [go_sem], by simp⟩)
            rw [← hz]
            dsimp only [stV]
            clear x0 x1 x2 xl y0 y1 y2 y3 yl
            clear hz hw2 H1 HST
            have HSF := Lib.hid (HS1.out z e.fr w2 Q2.out.2 Q2.out.1)
            rw [HDfr.out] at HSF
            obtain ⟨x0, x1, x2, -, xl⟩ := H2.out.da.db
            obtain ⟨y0, y1, y2, y3, yl⟩ := H2.out.eb
            go_wp2_with fail
            clear x0 x1 x2 xl y0 y1 y2 y3 yl
            refine HSF.out.mono ?_
            rintro e1 w3 ⟨rfl, hw⟩
            subst hw
            obtain ⟨⟨r0, r1, r2, rl⟩, g0, g1, g2⟩ := H2.out.rb.all
            have HO := Lib.hid (H2.out.out0 4)
            go_wp2
            exact bodyPost_ret (v := .tuple #[.agg #[.int .i64 0, .slice none 0 0, .slice none 0 0], .int .i64 4]) (by simp only [results, Try.results19]; go_simp <;> rfl) rfl (by rw [HRE.out.1, HRE.out.2]; exact HO.out)
      · have hk' : e.kd ≠ 1 ∧ e.kd ≠ 2 := by omega
        have HRE := Lib.hid (show x = 9 ∧ R = zD10 from by
          have h7 : apE d e = 9 := by rw [apE_N (by rw [apN_9 hv h6 hk']; decide), apN_9 hv h6 hk']
          exact ⟨HRX.out.2.trans h7, by rw [HRX.out.1, apD_no (by rw [h7]; decide)]⟩)
        have k1 : (e.kd != 1) = true := bne_iff_ne.2 hk'.1
        have k2 : (e.kd != 2) = true := bne_iff_ne.2 hk'.2
        clear hv h6 hk hk'
        go_enter Try.func19, Try.ntmps19
        go_wp2_with fail
        have H0 := Lib.hid (show Ab w p q r d X e (((w.alloc (.cells #[.int .i64 d.vn, .slice X.A d.l.length X.c, .slice X.A2 d.F.length X.c2] 25)).alloc (.cells #[.int .i64 e.kd, .int .i64 e.fr, .int .i64 e.to, .int .i64 e.md] 27)).alloc (.cells #[.int .i64 0, .slice none 0 0, .slice none 0 0] 25)) from by rw [HPP.out.1.1, HPP.out.1.2.1, HPP.out.1.2.2]; exact H0.out)
        rw [← HPP.out.1.2.2, ← HPP.out.1.2.1, ← HPP.out.1.1]
        generalize ((w.alloc (.cells #[.int .i64 d.vn, .slice X.A d.l.length X.c, .slice X.A2 d.F.length X.c2] 25)).alloc (.cells #[.int .i64 e.kd, .int .i64 e.fr, .int .i64 e.to, .int .i64 e.md] 27)).alloc (.cells #[.int .i64 0, .slice none 0 0, .slice none 0 0] 25) = w0 at *
        refine (HVA.out _ _ _ _ H0.out).mono ?_
        rintro e1 w1 ⟨rfl, hb⟩
        have H1 := Lib.hid (H0.out.below hb)
        clear hb H0 HVA
        obtain ⟨x0, x1, x2, -, xl⟩ := H1.out.da.db
        obtain ⟨y0, y1, y2, y3, yl⟩ := H1.out.eb
        obtain ⟨⟨r0, r1, r2, rl⟩, g0, g1, g2⟩ := H1.out.rb.all
        have HO := Lib.hid (H1.out.out0 9)
        go_wp2
        exact bodyPost_ret (v := .tuple #[.agg #[.int .i64 0, .slice none 0 0, .slice none 0 0], .int .i64 9]) (by simp only [results, Try.results19]; go_simp <;> rfl) rfl (by rw [HRE.out.1, HRE.out.2]; exact HO.out)
  · have HRE := Lib.hid (show x = vaD d ∧ R = zD10 from by
      have h7 : apE d e = vaD d := by rw [apE_N (by rw [apN_va hv]; exact hv), apN_va hv]
      exact ⟨HRX.out.2.trans h7, by rw [HRX.out.1, apD_no (by rw [h7]; exact hv)]⟩)
    have hne : (vaD d != 0) = true := bne_iff_ne.2 hv
    clear hv
    generalize vaD d = v at *
    go_enter Try.func19, Try.ntmps19
    go_wp2_with fail
    have H0 := Lib.hid (show Ab w p q r d X e (((w.alloc (.cells #[.int .i64 d.vn, .slice X.A d.l.length X.c, .slice X.A2 d.F.length X.c2] 25)).alloc (.cells #[.int .i64 e.kd, .int .i64 e.fr, .int .i64 e.to, .int .i64 e.md] 27)).alloc (.cells #[.int .i64 0, .slice none 0 0, .slice none 0 0] 25)) from by rw [HPP.out.1.1, HPP.out.1.2.1, HPP.out.1.2.2]; exact H0.out)
    rw [← HPP.out.1.2.2, ← HPP.out.1.2.1, ← HPP.out.1.1]
    generalize ((w.alloc (.cells #[.int .i64 d.vn, .slice X.A d.l.length X.c, .slice X.A2 d.F.length X.c2] 25)).alloc (.cells #[.int .i64 e.kd, .int .i64 e.fr, .int .i64 e.to, .int .i64 e.md] 27)).alloc (.cells #[.int .i64 0, .slice none 0 0, .slice none 0 0] 25) = w0 at *
    refine (HVA.out _ _ _ _ H0.out).mono ?_
    rintro e1 w1 ⟨rfl, hb⟩
    have H1 := Lib.hid (H0.out.below hb)
    clear hb H0 HVA
    obtain ⟨⟨r0, r1, r2, rl⟩, g0, g1, g2⟩ := H1.out.rb.all
    have HO := Lib.hid (H1.out.out0 v)
    go_wp2
    exact bodyPost_ret (v := .tuple #[.agg #[.int .i64 0, .slice none 0 0, .slice none 0 0], .int .i64 v]) (by simp only [results, Try.results19]; go_simp <;> rfl) rfl (by rw [HRE.out.1, HRE.out.2]; exact HO.out)
end Go.Proofs.Ytfkpkmcpepeaeaa
