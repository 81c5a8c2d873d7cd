/- What is proved here: in the statements of layer 10, awake is true; (plain) each route has exactly one owner; New gives a valid directory; directory.merge by a contract. -/
import Derived.Test.YtdilgeabcacbdaaJ10
import Derived.Test.YtdilgeabcacbdaaJ09
import Derived.Test.YtdilgeabcacbdaaJ06
namespace Go.Proofs.Ytdilgeabcacbdaa
open Go.RowKit
set_option linter.unusedVariables false

theorem vaD_dec {d : Dd} (h1 : rgD d) (h2 : cvD 0 d.l = true) (h3 : msD d.F.length d.l = true) (h4 : ∀ j, j < d.l.length → ∀ i, i < j → (sg d.l i).sh ≠ (sg d.l j).sh) (h5 : ∀ i, i < d.F.length → (-1 ≤ ig d.F i ∧ ig d.F i < d.F.length) ∧ (hasS d.l (i : Int) → ig d.F i = -1))
    (h6 : ∀ i, i < d.F.length → fwD d.F d.F.length (i : Int) < 0) : vaD d = 0 := by
  refine vaD_ok h1 h2 h3 ?_ ?_
  · have : ¬ duD d.l := fun ⟨i, j, hij, hj, he⟩ => h4 j hj i hij he
    simp [duB, this]
  · have : foD d.l d.F := ⟨h5, h6⟩
    simp [foB, this]
theorem aD_4 : (nwD 3 2).l.length = 2 ∧ (nwD 3 2).F.length = 3 ∧ nwE 3 2 = 0 := by decide +kernel
theorem aD_0 : vaD (nwD 3 2) = 0 := vaD_dec (by unfold rgD; decide +kernel) (by decide +kernel) (by decide +kernel) (by decide +kernel) (by decide +kernel) (by decide +kernel)
theorem aD_1 : ownD (nwD 3 2) 32767 = 0 := by unfold ownD; rw [if_pos aD_0]; decide +kernel
theorem aD_2 : ownD (nwD 3 2) 32768 = 1 := by unfold ownD; rw [if_pos aD_0]; decide +kernel
theorem aD_3 : homD (nwD 3 2) 2 = -1 := by unfold homD; rw [if_pos ⟨aD_0, by unfold slotP; decide +kernel⟩]; decide +kernel
/-- A directory in a box, with its lists. -/
structure DD (w : World) (p : Nat) (d : Dd) (X : Dx) (W : World) : Prop where
  db : DB W p d X
  dr : DR W W.heap.size d X
  old : w.heap.size ≤ p
  bel : Below w.heap.size w W
theorem DD.up {w W W' : World} {p : Nat} {d : Dd} {X : Dx} (h : DD w p d X W) (hb : Below W.heap.size W W') : DD w p d X W' := ⟨h.db.up hb, h.dr.up hb, h.old, h.bel.trans (hb.mono h.bel.size)⟩
theorem DD.start {w W : World} {d : Dd} {X : Dx} (hr : DR W W.heap.size d X) (hb : Below w.heap.size w W) (t : TypeId) : DD w W.heap.size d X (W.alloc (.cells #[.int .i64 d.vn, .slice X.A d.l.length X.c, .slice X.A2 d.F.length X.c2] t)) :=
  ⟨DB.start W d X t, hr.alloc _, hb.size, hb.alloc hb.size _⟩

set_option maxHeartbeats 2000000 in
theorem awake10_any (w : World) : Calls Try.prog 23 #[] w fun e w' => e = .returned (.bool true) ∧ Below w.heap.size w w' := by
  obtain ⟨D, hD⟩ : ∃ D, D = nwD 3 2 := ⟨_, rfl⟩
  have HN := Lib.hid (fun W => show Calls Try.prog 19 #[.int .i64 3, .int .i64 2] W (DE W.heap.size W D 0) from by
    have h := dnew_any 3 2 W
    rw [aD_4.2.2, ← hD] at h
    exact h)
  have HO1 := Lib.hid (fun X W (k : DR W W.heap.size D X) => show Calls Try.prog 32 #[dv D X, .int .i64 32767] W (VlR W 0) from by
    have h := downer_any D X 32767 W k
    rw [hD, aD_1, ← hD] at h
    exact h)
  have HO2 := Lib.hid (fun X W (k : DR W W.heap.size D X) => show Calls Try.prog 32 #[dv D X, .int .i64 32768] W (VlR W 1) from by
    have h := downer_any D X 32768 W k
    rw [hD, aD_2, ← hD] at h
    exact h)
  have HH := Lib.hid (fun X W (k : DR W W.heap.size D X) => show Calls Try.prog 33 #[dv D X, .int .i64 2] W (VlR W (-1)) from by
    have h := dhome_any D X 2 W k (by rw [hD, aD_4.2.1]; omega)
    rw [hD, aD_3, ← hD] at h
    exact h)
  have hl1 : ((D.l.length : Int) == 2) = true := by rw [hD, aD_4.1]; rfl
  have hl2 : (D.l.length == 2) = true := by rw [hD, aD_4.1]; rfl
  clear hD
  go_enter Try.func23, Try.ntmps23
  go_wp2_with fail
  refine (HN.out _).mono ?_
  rintro e w1 ⟨X, rfl, -, hdr, hb⟩
  have H1 := Lib.hid (DD.start (w := w) hdr hb 47)
  clear hdr hb
  go_wp2_with fail
  generalize w1.heap.size = p at *
  generalize w1.alloc (.cells #[.int .i64 D.vn, .slice X.A D.l.length X.c, .slice X.A2 D.F.length X.c2] 47) = w2 at *
  refine (HO1.out X _ H1.out.dr).mono ?_
  rintro e w3 ⟨rfl, hb⟩
  have H2 := Lib.hid (H1.out.up hb)
  clear hb H1
  obtain ⟨⟨x0, x1, x2, xl⟩, -, -, -⟩ := H2.out.db.all
  go_wp2_with fail
  clear x0 x1 x2 xl
  refine (HO2.out X _ H2.out.dr).mono ?_
  rintro e w4 ⟨rfl, hb⟩
  have H3 := Lib.hid (H2.out.up hb)
  clear hb H2
  obtain ⟨⟨x0, x1, x2, xl⟩, -, -, -⟩ := H3.out.db.all
  go_wp2_with fail
  clear x0 x1 x2 xl
  refine (HH.out X _ H3.out.dr).mono ?_
  rintro e w5 ⟨rfl, hb⟩
  have HB := Lib.hid (H3.out.up hb).bel
  clear hb H3
  go_wp2
  go_ret
  exact ⟨rfl, HB.out⟩
end Go.Proofs.Ytdilgeabcacbdaa
namespace Go.Proofs.Ytdilgeabcacbdaa
set_option linter.unusedVariables false

theorem ch_ge {n m : Int} {l : List Sp} (h : chN n l m) : ∀ y ∈ l, n ≤ y.lo := by
  induction l generalizing n with
  | nil => intro y hy; cases hy
  | cons x l ih =>
    obtain ⟨h1, h2, h3, h4⟩ := h
    intro y hy
    rw [List.mem_cons] at hy
    rcases hy with rfl | hy
    · omega
    · have := ih h4 y hy; omega
/-- The span of a route. -/
theorem ch_own {n m r : Int} {l : List Sp} (h : chN n l m) (h1 : n ≤ r) (h2 : r < m) : ∃ x ∈ l, (x.lo ≤ r ∧ r ≤ x.hi) ∧ owN l r = x.sh ∧ ∀ y ∈ l, y.lo ≤ r → r ≤ y.hi → y = x := by
  induction l generalizing n with
  | nil => simp only [chN] at h; omega
  | cons x l ih =>
    obtain ⟨c1, c2, c3, c4⟩ := h
    by_cases hr : r ≤ x.hi
    · refine ⟨x, by simp, ⟨by omega, hr⟩, by rw [owN, if_pos ⟨by omega, hr⟩], fun y hy e1 e2 => ?_⟩
      rw [List.mem_cons] at hy
      rcases hy with rfl | hy
      · rfl
      · have := ch_ge c4 y hy; omega
    · obtain ⟨z, hz, k1, k2, k3⟩ := ih c4 (by omega)
      refine ⟨z, by simp [hz], k1, by rw [owN, if_neg (by omega)]; exact k2, fun y hy e1 e2 => ?_⟩
      rw [List.mem_cons] at hy
      rcases hy with rfl | hy
      · omega
      · exact k3 y hy e1 e2
theorem nw_va {n m : Nat} (h1 : 1 ≤ m) (h2 : m ≤ n) (h3 : n ≤ 6) : vaD (nwD n m) = 0 := by
  have hE : nwE n m = 0 := by unfold nwE; rw [if_pos (by omega)]
  have e : nwD n m = ⟨1, nwL m m, List.replicate n (-1)⟩ := by unfold nwD; rw [if_pos hE]; simp
  rw [e]
  clear hE e
  have hn : n = 1 ∨ n = 2 ∨ n = 3 ∨ n = 4 ∨ n = 5 ∨ n = 6 := by omega
  have hm : m = 1 ∨ m = 2 ∨ m = 3 ∨ m = 4 ∨ m = 5 ∨ m = 6 := by omega
  rcases hn with rfl | rfl | rfl | rfl | rfl | rfl <;> rcases hm with rfl | rfl | rfl | rfl | rfl | rfl
  all_goals first
    | (exfalso; omega)
    | exact vaD_dec (by unfold rgD; decide +kernel) (by decide +kernel) (by decide +kernel) (by decide +kernel) (by decide +kernel) (by decide +kernel)
end Go.Proofs.Ytdilgeabcacbdaa
namespace Go.Proofs.Ytdilgeabcacbdaa
open Go.RowKit
set_option linter.unusedVariables false

abbrev MgK (p q : Nat) (d : Dd) (X : Dx) (e : Ed) (W : World) : Prop := W.cell? ⟨p, 1, none⟩ = some (.slice X.A d.l.length X.c) ∧ W.cell? ⟨q, 1, none⟩ = some (.int .i64 e.fr) ∧ W.cell? ⟨q, 2, none⟩ = some (.int .i64 e.to)
theorem Sb.mgk {w W : World} {base p q r : Nat} {d : Dd} {X : Dx} {e : Ed} (h : Sb w base p q r d X e W) : MgK p q d X e W := ⟨h.db.c1, h.eb.c1, h.eb.c2⟩
theorem mel_eq {l : List Sp} {f : Nat} (hf : f + 1 < l.length) (e : Ed) : (l.set f ⟨(sg l f).lo, (sg l (f + 1)).hi, e.to⟩).eraseIdx (f + 1) = meL l f e := by
  unfold meL
  rw [List.eraseIdx_eq_take_drop_succ, List.drop_set_of_lt (by omega), List.take_succ_eq_append_getElem (by simp; omega), List.take_set, List.set_eq_of_length_le (by simp; omega)]
  simp
theorem scs_set0 {l : List Sp} {i : Nat} (hi : i < l.length) (x : Int) : (scs l).set (i * 3) (.int .i64 x) = scs (l.set i ⟨x, (sg l i).hi, (sg l i).sh⟩) := by
  induction l generalizing i with
  | nil => simp at hi
  | cons y l ih =>
    cases i with
    | zero => simp [scs_cons, Sp.l, sg]
    | succ i =>
      have := ih (i := i) (by simpa using hi)
      rw [scs_cons, show (i + 1) * 3 = (i * 3) + 1 + 1 + 1 by omega, List.set_cons_succ, scs_cons, Sp.l]
      simp only [List.cons_append, List.nil_append, List.set_cons_succ]
      rw [this]
      simp [sg]
theorem scs_set2 {l : List Sp} {i : Nat} (hi : i < l.length) (x : Int) : (scs l).set (i * 3 + 2) (.int .i64 x) = scs (l.set i ⟨(sg l i).lo, (sg l i).hi, x⟩) := by
  induction l generalizing i with
  | nil => simp at hi
  | cons y l ih =>
    cases i with
    | zero => simp [scs_cons, Sp.l, sg]
    | succ i =>
      have := ih (i := i) (by simpa using hi)
      rw [scs_cons, show (i + 1) * 3 + 2 = (i * 3 + 2) + 1 + 1 + 1 by omega, List.set_cons_succ, scs_cons, Sp.l]
      simp only [List.cons_append, List.nil_append, List.set_cons_succ]
      rw [this]
      simp [sg]
theorem sg_set {l : List Sp} {i : Nat} (hi : i < l.length) (x : Sp) : sg (l.set i x) i = x := by simp [sg, hi]
/-- A span stored into the list of spans. -/
theorem Sb.setL3 {w W : World} {base p q r : Nat} {d : Dd} {X : Dx} {e : Ed} (h : Sb w base p q r d X e W) {g : Nat} (hg : X.A = some ⟨g, 0, none⟩) {i : Nat} (hi : i < d.l.length) (Y : Sp) :
    Sb w base p q r ⟨d.vn, d.l.set i Y, d.F⟩ X e (((W.setCell ⟨g, i * 3, none⟩ (.int .i64 Y.lo)).setCell ⟨g, i * 3 + 1, none⟩ (.int .i64 Y.hi)).setCell ⟨g, i * 3 + 2, none⟩ (.int .i64 Y.sh)) := by
  have k1 := h.setL hg (i * 3) (.int .i64 Y.lo) (l' := d.l.set i ⟨Y.lo, (sg d.l i).hi, (sg d.l i).sh⟩) (by simp) (scs_set0 hi Y.lo)
  have hi1 : i < (d.l.set i ⟨Y.lo, (sg d.l i).hi, (sg d.l i).sh⟩).length := by simpa using hi
  have k2 := k1.setL hg (i * 3 + 1) (.int .i64 Y.hi) (l' := d.l.set i ⟨Y.lo, Y.hi, (sg d.l i).sh⟩) (by simp) (by
    have := scs_set1 hi1 Y.hi
    rw [sg_set hi, List.set_set] at this
    exact this)
  have hi2 : i < (d.l.set i ⟨Y.lo, Y.hi, (sg d.l i).sh⟩).length := by simpa using hi
  exact k2.setL hg (i * 3 + 2) (.int .i64 Y.sh) (l' := d.l.set i Y) (by simp) (by
    have := scs_set2 hi2 Y.sh
    rw [sg_set hi, List.set_set] at this
    exact this)
abbrev MgS (p q g f u : Nat) (d : Dd) (X : Dx) (e : Ed) (W : World) : Prop := W.cell? ⟨p, 1, none⟩ = some (.slice (some ⟨g, 0, none⟩) d.l.length X.c) ∧ W.cell? ⟨q, 2, none⟩ = some (.int .i64 e.to) ∧ W.cell? ⟨g, f * 3, none⟩ = some (.int .i64 (sg d.l f).lo) ∧ W.cell? ⟨g, u * 3 + 1, none⟩ = some (.int .i64 (sg d.l u).hi)
theorem MgS.set {p q g f u : Nat} {d : Dd} {X : Dx} {e : Ed} {W : World} (h : MgS p q g f u d X e W) (hu : u = f + 1) (hp : p ≠ g) (hq : q ≠ g) (u' v : Value) : MgS p q g f u d X e (((W.setCell ⟨g, f * 3, none⟩ (.int .i64 (sg d.l f).lo)).setCell ⟨g, f * 3 + 1, none⟩ u').setCell ⟨g, f * 3 + 2, none⟩ v) := by
  obtain ⟨h1, h2, h3, h4⟩ := h
  have o : ∀ (a b : Addr) (u : Value) (W : World), a ≠ b → (W.setCell b u).cell? a = W.cell? a := fun a b u W hn => World.cell?_setCell_other W b a u (fun e => hn (by first | exact e | exact e.symm))
  have n1 : ∀ j, (⟨p, 1, none⟩ : Addr) ≠ ⟨g, j, none⟩ := fun j e => hp (by injection e)
  have n2 : ∀ j, (⟨q, 2, none⟩ : Addr) ≠ ⟨g, j, none⟩ := fun j e => hq (by injection e)
  have n3 : ∀ i j, i ≠ j → (⟨g, i, none⟩ : Addr) ≠ ⟨g, j, none⟩ := fun i j hn e => hn (by injection e)
  refine ⟨by rw [o _ _ _ _ (n1 _), o _ _ _ _ (n1 _), o _ _ _ _ (n1 _)]; exact h1, by rw [o _ _ _ _ (n2 _), o _ _ _ _ (n2 _), o _ _ _ _ (n2 _)]; exact h2, ?_, by rw [o _ _ _ _ (n3 _ _ (by omega)), o _ _ _ _ (n3 _ _ (by omega)), o _ _ _ _ (n3 _ _ (by omega))]; exact h4⟩
  rw [o _ _ _ _ (n3 _ _ (by omega)), o _ _ _ _ (n3 _ _ (by omega))]
  simp [go_sem, h3]
set_option maxHeartbeats 8000000 in
set_option maxRecDepth 20000 in
theorem dmerge_any (base : Nat) (d : Dd) (X : Dx) (e : Ed) (w : World) (hb : base ≤ w.heap.size) (hol : w.ownsRow base 63 3 (.slice X.A d.l.length X.c) d.l.length (scs d.l)) (hof : w.ownsRow base 3 1 (.slice X.A2 d.F.length X.c2) d.F.length (ics d.F))
    (hd : ∀ k, (Value.slice X.A d.l.length X.c).ownBlock = some k → (Value.slice X.A2 d.F.length X.c2).ownBlock ≠ some k) (hl : d.l.length ≤ 90) (hfr : slotP d.F.length e.fr) :
    Calls Try.prog 58 #[dv d X, e.v] w (DE base w (if meE d e = 0 then ⟨d.vn, meL d.l (min (ixS d.l e.fr) (ixS d.l e.to)).toNat e, d.F.set e.fr.toNat e.to⟩ else zD) (meE d e)) := by
  have H0 := Lib.hid (Sb.start d X e hb hol hof hd)
  have HF1 := Lib.hid (fun p q r W (k : Sb w base p q r d X e W) => sfind_any X.A d.l.length X.c d.l e.fr W k.dr.pl)
  have HF2 := Lib.hid (fun p q r W (k : Sb w base p q r d X e W) => sfind_any X.A d.l.length X.c d.l e.to W k.dr.pl)
  have HHL := Lib.hid hl
  have HFR := Lib.hid hfr
  obtain ⟨p, hp⟩ : ∃ p, p = w.heap.size := ⟨_, rfl⟩
  obtain ⟨q, hq⟩ : ∃ q, q = w.heap.size + 1 := ⟨_, rfl⟩
  obtain ⟨r, hr⟩ : ∃ r, r = w.heap.size + 1 + 1 := ⟨_, rfl⟩
  have HPP := Lib.hid (show (p = w.heap.size ∧ q = w.heap.size + 1 ∧ r = w.heap.size + 1 + 1) ∧ (¬ p = q ∧ ¬ q = p ∧ ¬ p = r ∧ ¬ r = p ∧ ¬ q = r ∧ ¬ r = q) by omega)
  obtain ⟨R, hR⟩ : ∃ R, R = if meE d e = 0 then Dd.mk d.vn (meL d.l (min (ixS d.l e.fr) (ixS d.l e.to)).toNat e) (d.F.set e.fr.toNat e.to) else zD := ⟨_, rfl⟩
  obtain ⟨x, hx⟩ : ∃ x, x = meE d e := ⟨_, rfl⟩
  rw [← hR, ← hx]
  have HRX := Lib.hid (And.intro hR hx)
  clear hR hx hp hq hr hb hol hof hd hl hfr
  have HB := Lib.hid (And.intro (ixS_ge d.l e.fr) (ixS_ge d.l e.to))
  have HR7 := Lib.hid (fun (h : (ixS d.l e.fr < 0 ∨ ixS d.l e.to < 0) ∨ (ixS d.l e.fr - ixS d.l e.to ≠ 1 ∧ ixS d.l e.to - ixS d.l e.fr ≠ 1)) => show x = 7 ∧ R = zD from by
    have h7 : meE d e = 7 := meE_7 h
    exact ⟨HRX.out.2.trans h7, by rw [HRX.out.1, if_neg (by rw [h7]; decide)]⟩)
  by_cases h1 : ixS d.l e.fr < 0
  · have HRE := Lib.hid (HR7.out (.inl (.inl h1)))
    have hy := HB.out.2.1
    rw [(ixS_neg (show ¬ 0 ≤ ixS d.l e.fr by omega)).1] at HF1
    clear h1
    generalize ixS d.l e.to = y at *
    have hy' : ¬ y < -1 := by omega
    go_enter Try.func58, Try.ntmps58
    go_upto_region 1 with (fail)
    have H0 := Lib.hid (show Sb w base p q r d X e (((w.alloc (.cells #[.int .i64 d.vn, .slice X.A d.l.length X.c, .slice X.A2 d.F.length X.c2] 47)).alloc (.cells #[.int .i64 e.kd, .int .i64 e.fr, .int .i64 e.to, .int .i64 e.md] 49)).alloc (.cells #[.int .i64 0, .slice none 0 0, .slice none 0 0] 47)) from by rw [HPP.out.1.1, HPP.out.1.2.1, HPP.out.1.2.2]; exact H0.out)
    rw [← HPP.out.1.2.2, ← HPP.out.1.2.1, ← HPP.out.1.1]
    generalize ((w.alloc (.cells #[.int .i64 d.vn, .slice X.A d.l.length X.c, .slice X.A2 d.F.length X.c2] 47)).alloc (.cells #[.int .i64 e.kd, .int .i64 e.fr, .int .i64 e.to, .int .i64 e.md] 49)).alloc (.cells #[.int .i64 0, .slice none 0 0, .slice none 0 0] 47) = w0 at *
    have HK0 := Lib.hid H0.out.mgk
    have HP := Lib.hid (H0.out.below (Below.refl _ _).drew)
    have HK := Lib.hid HP.out.mgk
    clear H0
    go_region_held3 (fun W => MgK p q d X e W)
      (first | with_reducible exact HK.out | with_reducible exact HK0.out)
      (first
        | (go_at_call 53; (with_reducible refine (HF1.out _ _ _ _ HP.out).mono ?_); rintro e1 w1 ⟨rfl, hb⟩; have HP := Lib.hid (HP.out.below hb); have HK := Lib.hid HP.out.mgk; clear hb)
        | (go_at_call 53; (with_reducible refine (HF2.out _ _ _ _ HP.out).mono ?_); rintro e1 w1 ⟨rfl, hb⟩; have HP := Lib.hid (HP.out.below hb); have HK := Lib.hid HP.out.mgk; clear hb))
    all_goals
      obtain ⟨⟨r0, r1, r2, rl⟩, g0, g1, g2⟩ := HP.out.rb.all
      have HO := Lib.hid (HP.out.out0 7)
      go_wp2
      exact bodyPost_ret (v := .tuple #[.agg #[.int .i64 0, .slice none 0 0, .slice none 0 0], .int .i64 7]) (by simp only [results, Try.results58]; go_simp <;> rfl) rfl (by rw [HRE.out.1, HRE.out.2]; exact HO.out)
  · by_cases h2 : ixS d.l e.to < 0
    · have HRE := Lib.hid (HR7.out (.inl (.inr h2)))
      rw [(ixS_neg (show ¬ 0 ≤ ixS d.l e.to by omega)).1] at HF2
      generalize ixS d.l e.fr = y at *
      have hy' : -1 < y := by omega
      clear h2
      go_enter Try.func58, Try.ntmps58
      go_upto_region 1 with (fail)
      have H0 := Lib.hid (show Sb w base p q r d X e (((w.alloc (.cells #[.int .i64 d.vn, .slice X.A d.l.length X.c, .slice X.A2 d.F.length X.c2] 47)).alloc (.cells #[.int .i64 e.kd, .int .i64 e.fr, .int .i64 e.to, .int .i64 e.md] 49)).alloc (.cells #[.int .i64 0, .slice none 0 0, .slice none 0 0] 47)) from by rw [HPP.out.1.1, HPP.out.1.2.1, HPP.out.1.2.2]; exact H0.out)
      rw [← HPP.out.1.2.2, ← HPP.out.1.2.1, ← HPP.out.1.1]
      generalize ((w.alloc (.cells #[.int .i64 d.vn, .slice X.A d.l.length X.c, .slice X.A2 d.F.length X.c2] 47)).alloc (.cells #[.int .i64 e.kd, .int .i64 e.fr, .int .i64 e.to, .int .i64 e.md] 49)).alloc (.cells #[.int .i64 0, .slice none 0 0, .slice none 0 0] 47) = w0 at *
      have HK0 := Lib.hid H0.out.mgk
      have HP := Lib.hid (H0.out.below (Below.refl _ _).drew)
      have HK := Lib.hid HP.out.mgk
      clear H0
      go_region_held3 (fun W => MgK p q d X e W)
        (first | with_reducible exact HK.out | with_reducible exact HK0.out)
        (first
          | (go_at_call 53; (with_reducible refine (HF1.out _ _ _ _ HP.out).mono ?_); rintro e1 w1 ⟨rfl, hb⟩; have HP := Lib.hid (HP.out.below hb); have HK := Lib.hid HP.out.mgk; clear hb)
          | (go_at_call 53; (with_reducible refine (HF2.out _ _ _ _ HP.out).mono ?_); rintro e1 w1 ⟨rfl, hb⟩; have HP := Lib.hid (HP.out.below hb); have HK := Lib.hid HP.out.mgk; clear hb))
      all_goals
        obtain ⟨⟨r0, r1, r2, rl⟩, g0, g1, g2⟩ := HP.out.rb.all
        have HO := Lib.hid (HP.out.out0 7)
        go_wp2
        exact bodyPost_ret (v := .tuple #[.agg #[.int .i64 0, .slice none 0 0, .slice none 0 0], .int .i64 7]) (by simp only [results, Try.results58]; go_simp <;> rfl) rfl (by rw [HRE.out.1, HRE.out.2]; exact HO.out)
    · have hb1 := HB.out.1.2
      have hb2 := HB.out.2.2
      by_cases h3 : ixS d.l e.fr - ixS d.l e.to ≠ 1 ∧ ixS d.l e.to - ixS d.l e.fr ≠ 1
      · have HRE := Lib.hid (HR7.out (.inr h3))
        have hl90 := HHL.out
        generalize ixS d.l e.fr = y at *
        generalize ixS d.l e.to = z at *
        have hm0 : ¬ min y z < 0 := by omega
        have hm1 : 0 ≤ min y z := by omega
        have hne : (wrap64 (max y z - min y z) != 1) = true := bne_iff_ne.2 (by rw [IntWalk.wrap64_in _ (by omega)]; omega)
        clear h3 hb1 hb2 hl90 h1 h2
        go_enter Try.func58, Try.ntmps58
        go_upto_region 1 with (fail)
        have H0 := Lib.hid (show Sb w base p q r d X e (((w.alloc (.cells #[.int .i64 d.vn, .slice X.A d.l.length X.c, .slice X.A2 d.F.length X.c2] 47)).alloc (.cells #[.int .i64 e.kd, .int .i64 e.fr, .int .i64 e.to, .int .i64 e.md] 49)).alloc (.cells #[.int .i64 0, .slice none 0 0, .slice none 0 0] 47)) from by rw [HPP.out.1.1, HPP.out.1.2.1, HPP.out.1.2.2]; exact H0.out)
        rw [← HPP.out.1.2.2, ← HPP.out.1.2.1, ← HPP.out.1.1]
        generalize ((w.alloc (.cells #[.int .i64 d.vn, .slice X.A d.l.length X.c, .slice X.A2 d.F.length X.c2] 47)).alloc (.cells #[.int .i64 e.kd, .int .i64 e.fr, .int .i64 e.to, .int .i64 e.md] 49)).alloc (.cells #[.int .i64 0, .slice none 0 0, .slice none 0 0] 47) = w0 at *
        have HK0 := Lib.hid H0.out.mgk
        have HP := Lib.hid (H0.out.below (Below.refl _ _).drew)
        have HK := Lib.hid HP.out.mgk
        clear H0
        go_region_held3 (fun W => MgK p q d X e W)
          (first | with_reducible exact HK.out | with_reducible exact HK0.out)
          (first
            | (go_at_call 53; (with_reducible refine (HF1.out _ _ _ _ HP.out).mono ?_); rintro e1 w1 ⟨rfl, hb⟩; have HP := Lib.hid (HP.out.below hb); have HK := Lib.hid HP.out.mgk; clear hb)
            | (go_at_call 53; (with_reducible refine (HF2.out _ _ _ _ HP.out).mono ?_); rintro e1 w1 ⟨rfl, hb⟩; have HP := Lib.hid (HP.out.below hb); have HK := Lib.hid HP.out.mgk; clear hb))
        all_goals
          obtain ⟨⟨r0, r1, r2, rl⟩, g0, g1, g2⟩ := HP.out.rb.all
          have HO := Lib.hid (HP.out.out0 7)
          go_wp2
          exact bodyPost_ret (v := .tuple #[.agg #[.int .i64 0, .slice none 0 0, .slice none 0 0], .int .i64 7]) (by simp only [results, Try.results58]; go_simp <;> rfl) rfl (by rw [HRE.out.1, HRE.out.2]; exact HO.out)
      · obtain ⟨f, hmn⟩ : ∃ f : Nat, min (ixS d.l e.fr) (ixS d.l e.to) = (f : Int) := ⟨(min (ixS d.l e.fr) (ixS d.l e.to)).toNat, by omega⟩
        obtain ⟨u, hu⟩ : ∃ u : Nat, u = f + 1 := ⟨_, rfl⟩
        have HUF := Lib.hid hu
        have hmx : max (ixS d.l e.fr) (ixS d.l e.to) = (u : Int) := by omega
        have hf : u < d.l.length := by omega
        have hf0 : f < d.l.length := by omega
        have hf1 : (f : Int) < (d.l.length : Int) := by omega
        have hf2 : (u : Int) < (d.l.length : Int) := by omega
        have HRE := Lib.hid (show x = 0 ∧ R = Dd.mk d.vn (meL d.l f e) (d.F.set e.fr.toNat e.to) from by
          have h7 : meE d e = 0 := meE_0 (by omega) (by omega) (by omega)
          exact ⟨HRX.out.2.trans h7, by rw [HRX.out.1, if_pos h7, hmn]; rfl⟩)
        have HEQ := Lib.hid (show (d.l.set f ⟨(sg d.l f).lo, (sg d.l u).hi, e.to⟩).eraseIdx u = meL d.l f e from by rw [hu]; exact mel_eq (by omega) e)
        generalize ixS d.l e.fr = y at *
        generalize ixS d.l e.to = z at *
        have hw1 : wrap64 ((u : Int) - (f : Int)) = 1 := by rw [IntWalk.wrap64_in _ (by omega)]; omega
        clear h1 h2 h3 hb1 hb2 hu
        go_enter Try.func58, Try.ntmps58
        go_upto_region 1 with (fail)
        have H0 := Lib.hid (show Sb w base p q r d X e (((w.alloc (.cells #[.int .i64 d.vn, .slice X.A d.l.length X.c, .slice X.A2 d.F.length X.c2] 47)).alloc (.cells #[.int .i64 e.kd, .int .i64 e.fr, .int .i64 e.to, .int .i64 e.md] 49)).alloc (.cells #[.int .i64 0, .slice none 0 0, .slice none 0 0] 47)) from by rw [HPP.out.1.1, HPP.out.1.2.1, HPP.out.1.2.2]; exact H0.out)
        rw [← HPP.out.1.2.2, ← HPP.out.1.2.1, ← HPP.out.1.1]
        generalize ((w.alloc (.cells #[.int .i64 d.vn, .slice X.A d.l.length X.c, .slice X.A2 d.F.length X.c2] 47)).alloc (.cells #[.int .i64 e.kd, .int .i64 e.fr, .int .i64 e.to, .int .i64 e.md] 49)).alloc (.cells #[.int .i64 0, .slice none 0 0, .slice none 0 0] 47) = w0 at *
        have HK0 := Lib.hid H0.out.mgk
        have HP := Lib.hid (H0.out.below (Below.refl _ _).drew)
        have HK := Lib.hid HP.out.mgk
        clear H0
        go_region_held3 (fun W => MgK p q d X e W)
          (first | with_reducible exact HK.out | with_reducible exact HK0.out)
          (first
            | (go_at_call 53; (with_reducible refine (HF1.out _ _ _ _ HP.out).mono ?_); rintro e1 w1 ⟨rfl, hb⟩; have HP := Lib.hid (HP.out.below hb); have HK := Lib.hid HP.out.mgk; clear hb)
            | (go_at_call 53; (with_reducible refine (HF2.out _ _ _ _ HP.out).mono ?_); rintro e1 w1 ⟨rfl, hb⟩; have HP := Lib.hid (HP.out.below hb); have HK := Lib.hid HP.out.mgk; clear hb))
        go_upto_region 5 with (fail)
        obtain ⟨g, hgA⟩ := own_addr HP.out.ol (Nat.lt_of_le_of_lt (Nat.zero_le _) hf0)
        have HGA := Lib.hid hgA
        have ho := HP.out.ol
        rw [hgA] at ho
        obtain ⟨b, o, hA, hbl, c0, c1, c2⟩ := HP.out.dr.pl.atg hf0
        rw [hgA] at hA
        injection hA with hA
        injection hA with e1 e2
        subst e1; subst e2
        obtain ⟨b, o, hA, -, z0, z1, z2⟩ := HP.out.dr.pl.atg hf
        rw [hgA] at hA
        injection hA with hA
        injection hA with e1 e2
        subst e1; subst e2
        rw [Nat.zero_add] at c0 c1 c2 z0 z1 z2
        obtain ⟨x0, x1, x2, -, xl⟩ := HP.out.db
        obtain ⟨y0, y1, y2, y3, yl⟩ := HP.out.eb
        rw [hgA] at x1
        have f0 := ho.frozenAt (f * 3)
        have f1 := ho.frozenAt (f * 3 + 1)
        have f2 := ho.frozenAt (f * 3 + 2)
        have hgl := (ho.lt g rfl).2
        have hgne := HP.out.ll g (by rw [hgA]; rfl)
        have HGN := Lib.hid hgne
        clear ho hgA hgne HK HK0
        have HA1 := Lib.hid (show MgS p q g f u d X e w1 from ⟨x1, y2, c0, z1⟩)
        have HA2 := Lib.hid (show MgS p q g f u d X e w1.drew from ⟨x1, y2, c0, z1⟩)
        have HA3 := Lib.hid (show MgS p q g f u d X e ((((w1.setCell ⟨g, f * 3, none⟩ (.int .i64 (sg d.l f).lo)).setCell ⟨g, f * 3 + 1, none⟩ (.int .i64 (sg d.l u).hi)).setCell ⟨g, f * 3 + 2, none⟩ (.int .i64 e.to))).drew from HA1.out.set HUF.out HGN.out.1.symm HGN.out.2.1.symm _ _)
        have HA4 := Lib.hid (show MgS p q g f u d X e ((((w1.drew.setCell ⟨g, f * 3, none⟩ (.int .i64 (sg d.l f).lo)).setCell ⟨g, f * 3 + 1, none⟩ (.int .i64 (sg d.l u).hi)).setCell ⟨g, f * 3 + 2, none⟩ (.int .i64 e.to))) from HA1.out.set HUF.out HGN.out.1.symm HGN.out.2.1.symm _ _)
        have H5 := Lib.hid ((HP.out.setL3 HGA.out hf0 ⟨(sg d.l f).lo, (sg d.l u).hi, e.to⟩).below (Below.refl _ _).drew)
        dsimp only at H5
        have d0 : w1.drew.cell? ⟨g, f * 3, none⟩ = some (.int .i64 (sg d.l f).lo) := c0
        have d1 : w1.drew.cell? ⟨g, f * 3 + 1, none⟩ = some (.int .i64 (sg d.l f).hi) := c1
        have d2 : w1.drew.cell? ⟨g, f * 3 + 2, none⟩ = some (.int .i64 (sg d.l f).sh) := c2
        have h0 : w1.drew.frozen? ⟨g, f * 3, none⟩ = false := f0
        have h1 : w1.drew.frozen? ⟨g, f * 3 + 1, none⟩ = false := f1
        have h2 : w1.drew.frozen? ⟨g, f * 3 + 2, none⟩ = false := f2
        have hgl' : g < w1.drew.heap.size := hgl
        clear x0 x1 x2 xl y0 y1 y2 y3 yl z0 z1 z2 hbl
        go_region_held3 (fun W => MgS p q g f u d X e W)
          (first | with_reducible exact HA1.out | with_reducible exact HA2.out | with_reducible exact HA3.out | with_reducible exact HA4.out)
          (first | (fail))
        clear d0 d1 d2 h0 h1 h2 hgl' c0 c1 c2 f0 f1 f2 hgl
        first
          | generalize ((((w1.setCell ⟨g, f * 3, none⟩ (.int .i64 (sg d.l f).lo)).setCell ⟨g, f * 3 + 1, none⟩ (.int .i64 (sg d.l u).hi)).setCell ⟨g, f * 3 + 2, none⟩ (.int .i64 e.to))).drew = w5 at *
          | (have H5 := Lib.hid (show Sb w base p q r ⟨d.vn, d.l.set f ⟨(sg d.l f).lo, (sg d.l u).hi, e.to⟩, d.F⟩ X e (((w1.drew.setCell ⟨g, f * 3, none⟩ (.int .i64 (sg d.l f).lo)).setCell ⟨g, f * 3 + 1, none⟩ (.int .i64 (sg d.l u).hi)).setCell ⟨g, f * 3 + 2, none⟩ (.int .i64 e.to)) from H5.out); generalize (((w1.drew.setCell ⟨g, f * 3, none⟩ (.int .i64 (sg d.l f).lo)).setCell ⟨g, f * 3 + 1, none⟩ (.int .i64 (sg d.l u).hi)).setCell ⟨g, f * 3 + 2, none⟩ (.int .i64 e.to)) = w5 at *)
        clear HA1 HA2 HA3 HA4
        obtain ⟨l1, hl1⟩ : ∃ l1, l1 = d.l.set f ⟨(sg d.l f).lo, (sg d.l u).hi, e.to⟩ := ⟨_, rfl⟩
        have HLL := Lib.hid (show l1.length = d.l.length by rw [hl1]; simp)
        rw [← hl1] at H5 HEQ
        clear hl1
        have hl90 := HHL.out
        have HIN := Lib.hid (sdelete_any base (.slice (some ⟨g, 0, none⟩) l1.length X.c) l1 u w5 (by have := HLL.out; omega) (by have := HLL.out; omega) (by have := H5.out.ol; rw [HGA.out] at this; exact this) (Nat.le_trans H5.out.pq.1 H5.out.bel.size))
        have hwf : wrap64 ((u : Int) + 1) = (u : Int) + 1 := IntWalk.wrap64_in _ (by omega)
        have x1 : w5.cell? ⟨p, 1, none⟩ = some (.slice X.A l1.length X.c) := H5.out.db.c1
        rw [HGA.out, HLL.out] at x1
        rw [HLL.out] at HIN
        have xl : p < w5.heap.size := H5.out.db.lt
        clear hl90
        go_wp2_with fail
        clear x1 xl hwf
        refine HIN.out.mono ?_
        rintro e1 w7 ⟨A, c, rfl, hown, hgr, hnb⟩
        clear HIN
        obtain ⟨l2, hl2⟩ : ∃ l2, l2 = l1.eraseIdx u := ⟨_, rfl⟩
        have hl3 : l2.length = l1.length - 1 := by have := HLL.out; rw [hl2, List.length_eraseIdx, if_pos (by omega)]
        have HL2 := Lib.hid (show l2 = meL d.l f e from by rw [hl2]; exact HEQ.out)
        rw [← hl2, ← hl3] at hown
        rw [← hl3] at hnb ⊢
        have H8 := Lib.hid (H5.out.newL HGA.out hgr hown hnb)
        have x1 : w7.cell? ⟨p, 1, none⟩ = some (.slice X.A l1.length X.c) := (H5.out.db.grown hgr HGN.out.1.symm).c1
        have xf := (H5.out.db.grown hgr HGN.out.1.symm).fr 1
        have xl := (H5.out.db.grown hgr HGN.out.1.symm).lt
        clear hown hgr hnb hl2 hl3 H5 HEQ
        go_upto_region 7 with (fail)
        clear x1 xf xl
        generalize w7.setCell ⟨p, 1, none⟩ (.slice A l2.length c) = w8 at *
        obtain ⟨t, ht⟩ := Int.eq_ofNat_of_zero_le HFR.out.1
        have htl : t < d.F.length := by have := HFR.out.2; omega
        have htl' : (t : Int) < (d.F.length : Int) := by omega
        obtain ⟨gF, hgF⟩ := own_addr H8.out.of (show 0 < d.F.length by omega)
        have HGF := Lib.hid hgF
        have x2 : w8.cell? ⟨p, 2, none⟩ = some (.slice X.A2 d.F.length X.c2) := H8.out.db.c2
        have xl : p < w8.heap.size := H8.out.db.lt
        have y1 := H8.out.eb.c1
        have y2 := H8.out.eb.c2
        have hoF := H8.out.of
        obtain ⟨b, o, hA, hbl, c0⟩ := H8.out.dr.fl.atg htl
        dsimp only at hgF hoF hA c0
        rw [hgF] at x2 hA hoF
        injection hA with hA
        injection hA with e1 e2
        subst e1; subst e2
        rw [Nat.zero_add] at c0
        have cf := hoF.frozenAt t
        rw [ht] at y1
        have HT := Lib.hid ht
        clear hgF hoF ht
        have H9 := Lib.hid (H8.out.setF HGF.out t e.to)
        go_upto_region 8 with (fail)
        clear x2 xl y1 y2 c0 cf hbl H8
        generalize w8.setCell ⟨gF, t, none⟩ (.int .i64 e.to) = w9 at *
        have HO := Lib.hid (H9.out.out 0)
        obtain ⟨x0, x1, x2, -, xl⟩ := H9.out.db
        obtain ⟨⟨r0, r1, r2, rl⟩, g0, g1, g2⟩ := H9.out.rb.all
        obtain ⟨-, hpq, hqp, hpr, hrp, hqr, hrq⟩ := HPP.out
        dsimp only at x0 x1 x2
        have HDD := Lib.hid (show Dd.mk d.vn l2 (d.F.set t e.to) = R from by rw [HRE.out.2, HL2.out, HT.out]; rfl)
        generalize d.F.set t e.to = F2 at *
        go_wp2
        exact bodyPost_ret (v := .tuple #[.agg #[.int .i64 d.vn, .slice A l2.length c, .slice X.A2 F2.length X.c2], .int .i64 0]) (by simp only [results, Try.results58]; go_simp <;> rfl) rfl (by rw [HRE.out.1, ← HDD.out]; exact HO.out)
end Go.Proofs.Ytdilgeabcacbdaa
