/- What is proved here: a source of the statements' base and a directory in a box beside it; (plain) the ways of forwards behind a split and a merge; (plain) a change of a valid directory gives a valid one. -/
import Derived.Test.YtdilgeabcacbdaaJ06
import Derived.Test.YtdilgeabcacbdaaJ03
namespace Go.Proofs.Ytdilgeabcacbdaa
open Go.RowKit
set_option linter.unusedVariables false

section
variable {w W W' : World} {B B' g p : Nat} {d : Dd} {X : Dx}
theorem Pl.grownO {n c : Nat} {A : Option Addr} {l : List Sp} (h : Pl W B (.slice A n c) l) (ho : ∀ a, A = some a → 0 < n → a.block ≠ g) (hB : B ≤ W.heap.size) (hg : W.grownBy W' (some g)) : Pl W' B (.slice A n c) l := by
  obtain ⟨h1, h2, h3⟩ := h.len
  subst h1
  refine ⟨A, c, rfl, h2, h3, h.rd.1, fun hn => ?_⟩
  obtain ⟨b, o, e, hb, hc⟩ := h.rd.2 hn
  have := ho _ e hn
  exact ⟨b, o, e, hb, fun j u hu => (hg.cell_far ⟨b, o + j, none⟩ (by show b < _; omega) (fun e' => by injection e' with e'; exact this e')).trans (hc j u hu)⟩
theorem Fl.grownO {n c : Nat} {A : Option Addr} {l : List Int} (h : Fl W B (.slice A n c) l) (ho : ∀ a, A = some a → 0 < n → a.block ≠ g) (hB : B ≤ W.heap.size) (hg : W.grownBy W' (some g)) : Fl W' B (.slice A n c) l := by
  obtain ⟨h1, h2, h3⟩ := h.len
  subst h1
  refine ⟨A, c, rfl, h2, h3, h.rd.1, fun hn => ?_⟩
  obtain ⟨b, o, e, hb, hc⟩ := h.rd.2 hn
  have := ho _ e hn
  exact ⟨b, o, e, hb, fun j u hu => (hg.cell_far ⟨b, o + j, none⟩ (by show b < _; omega) (fun e' => by injection e' with e'; exact this e')).trans (hc j u hu)⟩
theorem DR.grownO (h : DR W B d X) (ho : DOff d X g) (hB : B ≤ W.heap.size) (hg : W.grownBy W' (some g)) : DR W' B d X := ⟨h.pl.grownO ho.o1 hB hg, h.fl.grownO ho.o2 hB hg⟩
end
/-- A source and a directory in a box. -/
structure DsAt (w : World) (B g p : Nat) (d : Dd) (X : Dx) (W : World) : Prop where
  src : SrcAt W B g
  db : DB W p d X
  dr : DR W W.heap.size d X
  op : DOff d X p
  og : DOff d X g
  ne : p ≠ g ∧ w.heap.size ≤ p ∧ w.heap.size ≤ g ∧ B ≤ w.heap.size
  bel : Below w.heap.size w W
section
variable {w W W' : World} {B g p : Nat} {d : Dd} {X : Dx}
theorem DsAt.below (h : DsAt w B g p d X W) (hb : Below W.heap.size W W') : DsAt w B g p d X W' :=
  ⟨h.src.below hb, h.db.up hb, h.dr.up hb, h.op, h.og, h.ne, h.bel.trans (hb.mono h.bel.size)⟩
theorem DsAt.turn (h : DsAt w B g p d X W) (hs : SrcAt W' B g) (hg : W.grownBy W' (some g)) : DsAt w B g p d X W' :=
  ⟨hs, h.db.grown hg h.ne.1, (h.dr.grownO h.og (Nat.le_refl _) hg).more hg.size, h.op, h.og, h.ne, h.bel.grown hg h.bel.size (fun k e => by injection e with e; subst e; exact h.ne.2.2.1)⟩
/-- Another directory is stored. -/
theorem DsAt.put (h : DsAt w B g p d X W) {d' : Dd} {Y : Dx} (hr : DR W W.heap.size d' Y) (o1 : DOff d' Y p) (o2 : DOff d' Y g) :
    DsAt w B g p d' Y (((W.setCell ⟨p, 0, none⟩ (.int .i64 d'.vn)).setCell ⟨p, 1, none⟩ (.slice Y.A d'.l.length Y.c)).setCell ⟨p, 2, none⟩ (.slice Y.A2 d'.F.length Y.c2)) := by
  have hn := h.ne
  have hB : B ≤ p := by omega
  exact ⟨((h.src.other (p := ⟨p, 0, none⟩) hn.1 hB _).other (p := ⟨p, 1, none⟩) hn.1 hB _).other (p := ⟨p, 2, none⟩) hn.1 hB _, h.db.set d' Y, (((hr.offp (q := ⟨p, 0, none⟩) o1 _).offp (q := ⟨p, 1, none⟩) o1 _).offp (q := ⟨p, 2, none⟩) o1 _).more (by simp), o1, o2, h.ne,
    ((h.bel.setCell (p := ⟨p, 0, none⟩) hn.2.1 _).setCell (p := ⟨p, 1, none⟩) hn.2.1 _).setCell (p := ⟨p, 2, none⟩) hn.2.1 _⟩
theorem DsAt.start (hs : SrcAt W B g) (hd : DR W W.heap.size d X) (ho : DOff d X g) (hg : w.heap.size ≤ g) (hB : B ≤ w.heap.size) (hb : Below w.heap.size w W) (t : TypeId) :
    DsAt w B g W.heap.size d X (W.alloc (.cells #[.int .i64 d.vn, .slice X.A d.l.length X.c, .slice X.A2 d.F.length X.c2] t)) :=
  ⟨hs.alloc _, DB.start W d X t, hd.alloc _, hd.offs (Nat.le_refl _), ho, ⟨by have := hs.2.1; omega, hb.size, hg, hB⟩, hb.alloc hb.size _⟩
end
end Go.Proofs.Ytdilgeabcacbdaa
namespace Go.Proofs.Ytdilgeabcacbdaa
set_option linter.unusedVariables false

theorem pig (n : Nat) : ∀ (s : Nat) (f : Nat → Nat), (∀ v, v < s → f v < n) → (∀ u v, u < v → v < s → f u ≠ f v) → s ≤ n := by
  induction n with
  | zero =>
    intro s f h _
    cases s with
    | zero => exact Nat.le_refl _
    | succ s => have := h 0 (by omega); omega
  | succ n ih =>
    intro s f h hi
    cases s with
    | zero => omega
    | succ s =>
      have := ih s (fun v => if f v = n then f s else f v) (fun v hv => by
        have h1 := h v (by omega)
        have h2 := h s (by omega)
        have h3 := hi v s hv (by omega)
        show (if f v = n then f s else f v) < n
        split <;> omega) (fun u v huv hv => by
        have h1 := hi u v huv (by omega)
        have h2 := hi u s (by omega) (by omega)
        have h3 := hi v s (by omega) (by omega)
        show (if f u = n then f s else f u) ≠ (if f v = n then f s else f v)
        split <;> split <;> omega)
      omega
theorem fwD_add (F : List Int) (j k : Nat) (a : Int) : fwD F (j + k) a = fwD F k (fwD F j a) := by
  induction j generalizing a with
  | zero => rw [Nat.zero_add]; rfl
  | succ j ih =>
    by_cases h : a < 0
    · rw [fwD_neg _ h, fwD_neg _ h, fwD_neg _ h]
    · rw [show j + 1 + k = j + k + 1 by omega, fwD_pos _ (by omega), fwD_pos _ (by omega), ih]
theorem fwD_up {F : List Int} {j k : Nat} {a : Int} (h : fwD F j a < 0) (hk : j ≤ k) : fwD F k a < 0 := by
  obtain ⟨m, rfl⟩ : ∃ m, k = j + m := ⟨k - j, by omega⟩
  rw [fwD_add, fwD_neg _ h]
  exact h
theorem fwD_lt {F : List Int} (hb : ∀ i, i < F.length → -1 ≤ ig F i ∧ ig F i < F.length) (k : Nat) {a : Int} (ha : a < F.length) : fwD F k a < F.length := by
  induction k generalizing a with
  | zero => exact ha
  | succ k ih =>
    by_cases h : a < 0
    · rw [fwD_neg _ h]; exact ha
    · rw [fwD_pos _ (by omega)]
      exact ih (hb a.toNat (by omega)).2
theorem fwD_least {F : List Int} {a : Int} (m : Nat) (h : fwD F m a < 0) : ∃ T, fwD F T a < 0 ∧ ∀ t, t < T → 0 ≤ fwD F t a := by
  induction m with
  | zero => exact ⟨0, h, fun t ht => by omega⟩
  | succ m ih =>
    by_cases hm : fwD F m a < 0
    · exact ih hm
    · refine ⟨m + 1, h, fun t ht => ?_⟩
      apply Classical.byContradiction
      intro hc
      exact hm (fwD_up (by omega : fwD F t a < 0) (by omega))
/-- A way that ends ends within as many steps as there are slots. -/
theorem fw_le {F : List Int} (hb : ∀ i, i < F.length → -1 ≤ ig F i ∧ ig F i < F.length) {m : Nat} {a : Int} (ha : a < F.length) (h : fwD F m a < 0) : fwD F F.length a < 0 := by
  obtain ⟨T, hT, hl⟩ := fwD_least m h
  have := pig F.length T (fun v => (fwD F v a).toNat) (fun v hv => by
    have h1 := hl v hv
    have h2 := fwD_lt hb v ha
    show (fwD F v a).toNat < F.length
    omega) (fun u v huv hv => by
    have h1 := hl u (by omega)
    have h2 := hl v hv
    intro he
    have he' : fwD F u a = fwD F v a := by
      have : (fwD F u a).toNat = (fwD F v a).toNat := he
      omega
    have h3 : fwD F (u + (T - v)) a = fwD F T a := by rw [fwD_add, he', ← fwD_add]; congr 1; omega
    have h4 := hl (u + (T - v)) (by omega)
    omega)
  exact fwD_up hT this
theorem fw_split {F : List Int} {t k : Nat} (ht : t < F.length) {a : Int} (h : fwD F k a < 0) : fwD (F.set t (-1)) k a < 0 := by
  induction k generalizing a with
  | zero => exact h
  | succ k ih =>
    by_cases ha : a < 0
    · rw [fwD_neg _ ha]; exact ha
    · rw [fwD_pos _ (by omega), ig_set ht]
      by_cases e : a.toNat = t
      · rw [if_pos e, fwD_neg _ (by omega)]; omega
      · rw [if_neg e]
        rw [fwD_pos _ (by omega)] at h
        exact ih h
theorem fw_merge {F : List Int} {t k : Nat} (ht : t < F.length) {x : Int} (hx : 0 ≤ x) (hxt : x.toNat ≠ t) (hF : ig F x.toNat = -1) {a : Int} (h : fwD F k a < 0) : fwD (F.set t x) (k + 2) a < 0 := by
  induction k generalizing a with
  | zero => exact fwD_up (j := 0) h (by omega)
  | succ k ih =>
    by_cases ha : a < 0
    · rw [fwD_neg _ ha]; exact ha
    · rw [fwD_pos (k + 2) (by omega), ig_set ht]
      by_cases e : a.toNat = t
      · rw [if_pos e, fwD_pos _ hx, ig_set ht, if_neg hxt, hF, fwD_neg _ (by omega)]; omega
      · rw [if_neg e]
        rw [fwD_pos _ (by omega)] at h
        exact ih h
end Go.Proofs.Ytdilgeabcacbdaa
namespace Go.Proofs.Ytdilgeabcacbdaa
set_option linter.unusedVariables false

/-- Spans from n on, up to before m. -/
def chN : Int → List Sp → Int → Prop
  | n, [], m => n = m
  | n, x :: l, m => x.lo = n ∧ x.lo ≤ x.hi ∧ x.hi ≤ 65535 ∧ chN (x.hi + 1) l m
theorem cv_ch (n : Int) (l : List Sp) : cvD n l = true ↔ chN n l 65536 := by
  induction l generalizing n with
  | nil => simp [cvD, chN]
  | cons x l ih => simp [cvD, chN, ih]
theorem ch_app (n : Int) (a b : List Sp) (m : Int) : chN n (a ++ b) m ↔ ∃ k, chN n a k ∧ chN k b m := by
  induction a generalizing n with
  | nil => simp [chN]
  | cons x a ih =>
    simp only [List.cons_append, chN, ih]
    constructor
    · rintro ⟨h1, h2, h3, k, h4, h5⟩
      exact ⟨k, ⟨h1, h2, h3, h4⟩, h5⟩
    · rintro ⟨k, ⟨h1, h2, h3, h4⟩, h5⟩
      exact ⟨h1, h2, h3, k, h4, h5⟩
theorem sg_split {l : List Sp} {i : Nat} (h : i < l.length) : l = l.take i ++ sg l i :: l.drop (i + 1) := by
  rw [sg_get h, ← List.drop_eq_getElem_cons h, List.take_append_drop]
/-- A valid list of spans. -/
structure OkL (n : Nat) (l : List Sp) : Prop where
  ch : chN 0 l 65536
  ms : ∀ x ∈ l, slotP n x.sh
  nd : (l.map (·.sh)).Nodup
theorem nd_du {l : List Sp} : (l.map (·.sh)).Nodup ↔ ¬ duD l := by
  unfold List.Nodup
  rw [List.pairwise_iff_getElem]
  constructor
  · rintro h ⟨i, j, hij, hj, e⟩
    have := h i j (by simp; omega) (by simpa using hj) hij
    rw [List.getElem_map, List.getElem_map, ← sg_get, ← sg_get] at this
    exact this e
  · intro h i j hi hj hij e
    rw [List.getElem_map, List.getElem_map, ← sg_get, ← sg_get] at e
    exact h ⟨i, j, hij, by simpa using hj, e⟩
theorem OkD.okl {d : Dd} (h : OkD d) : OkL d.F.length d.l := by
  refine ⟨(cv_ch _ _).1 ((cvD_iff _).2 ⟨h.sp, h.en⟩), fun x hx => ?_, nd_du.2 h.du⟩
  obtain ⟨k, hk, rfl⟩ := List.getElem_of_mem hx
  have := h.ms k hk
  rwa [sg_get hk] at this
theorem OkL.okd {d : Dd} (h : OkL d.F.length d.l) (hr : rgD d) (hf : foD d.l d.F) : OkD d := by
  have h1 := (cvD_iff _).1 ((cv_ch _ _).2 h.ch)
  exact ⟨hr, h1.1, h1.2, fun k hk => h.ms _ (sg_mem hk), nd_du.1 h.nd, hf.1, hf.2⟩
/-- A split. -/
theorem OkL.split {n : Nat} {A B : List Sp} {x : Sp} {md t9 : Int} (h : OkL n (A ++ x :: B)) (h1 : x.lo ≤ md ∧ md < x.hi) (h2 : slotP n t9) (h3 : ∀ y ∈ A ++ x :: B, y.sh ≠ t9) : OkL n (A ++ ⟨x.lo, md, x.sh⟩ :: ⟨md + 1, x.hi, t9⟩ :: B) := by
  obtain ⟨k, c1, c2, c3, c4, c5⟩ := (ch_app _ _ _ _).1 h.ch
  refine ⟨(ch_app _ _ _ _).2 ⟨k, c1, c2, h1.1, by show md ≤ 65535; omega, rfl, by show md + 1 ≤ x.hi; omega, c4, c5⟩, fun y hy => ?_, ?_⟩
  · rw [List.mem_append, List.mem_cons, List.mem_cons] at hy
    rcases hy with hy | rfl | rfl | hy
    · exact h.ms y (by simp [hy])
    · exact h.ms x (by simp)
    · exact h2
    · exact h.ms y (by simp [hy])
  · have e : (A ++ (⟨x.lo, md, x.sh⟩ : Sp) :: ⟨md + 1, x.hi, t9⟩ :: B).map (·.sh) = (A.map (·.sh) ++ [x.sh]) ++ t9 :: B.map (·.sh) := by simp
    rw [e]
    refine (List.perm_middle.nodup_iff).2 (List.nodup_cons.2 ⟨fun hm => ?_, ?_⟩)
    · have hm' : t9 ∈ (A ++ x :: B).map (·.sh) := by simpa using hm
      obtain ⟨y, hy, he⟩ := List.mem_map.1 hm'
      exact h3 y hy he
    · have := h.nd
      simpa using this
/-- A merge. -/
theorem OkL.merge {n : Nat} {A B : List Sp} {x y : Sp} {t9 : Int} (h : OkL n (A ++ x :: y :: B)) (h1 : t9 = x.sh ∨ t9 = y.sh) : OkL n (A ++ ⟨x.lo, y.hi, t9⟩ :: B) := by
  obtain ⟨k, c1, c2, c3, c4, c5, c6, c7, c8⟩ := (ch_app _ _ _ _).1 h.ch
  refine ⟨(ch_app _ _ _ _).2 ⟨k, c1, c2, by show x.lo ≤ y.hi; omega, c7, c8⟩, fun z hz => ?_, ?_⟩
  · rw [List.mem_append, List.mem_cons] at hz
    rcases hz with hz | rfl | hz
    · exact h.ms z (by simp [hz])
    · rcases h1 with rfl | rfl
      · exact h.ms x (by simp)
      · exact h.ms y (by simp)
    · exact h.ms z (by simp [hz])
  · have hn := h.nd
    have e : (A ++ (⟨x.lo, y.hi, t9⟩ : Sp) :: B).map (·.sh) = A.map (·.sh) ++ t9 :: B.map (·.sh) := by simp
    have e2 : (A ++ x :: y :: B).map (·.sh) = A.map (·.sh) ++ x.sh :: y.sh :: B.map (·.sh) := by simp
    rw [e]
    rw [e2] at hn
    rcases h1 with rfl | rfl
    · exact List.Pairwise.sublist (List.Sublist.append_left (List.Sublist.cons_cons _ (List.sublist_cons_self _ _)) _) hn
    · exact List.Pairwise.sublist (List.Sublist.append_left (List.sublist_cons_self _ _) _) hn
end Go.Proofs.Ytdilgeabcacbdaa
