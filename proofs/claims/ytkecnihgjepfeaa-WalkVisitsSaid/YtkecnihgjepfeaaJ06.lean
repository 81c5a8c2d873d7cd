/- What is proved here: a source of the statements' base and a directory in a box beside it; (plain) the ways of forwards behind a split and a merge; (plain) a change of a valid directory gives a valid one; (plain) moves that keep 'nothing below B is turned', for the keep argument of a drawn region; what a loop holds that builds a new directory in a box. -/
import Derived.Test.YtkecnihgjepfeaaJ05
import Derived.Test.YtkecnihgjepfeaaJ01
import Derived.Test.YtkecnihgjepfeaaJ02
import Derived.Test.YtkecnihgjepfeaaRows
import Derived.WalkKit
import Derived.Outline
import Derived.IntWalk
import Derived.OwnWalk
namespace Go.Proofs.Ytkecnihgjepfeaa
open Go.RowKit
set_option linter.unusedVariables false

section
variable {w W W' : World} {B B' g p : Nat} {d : Dd} {X : Dx}
theorem Pl.grownO {n c : Nat} {A : Option Addr} {l : List Sp} (h : Pl W B (.slice A n c) l) (ho : ∀ a, A = some a → 0 < n → a.block ≠ g) (hB : B ≤ W.heap.size) (hg : W.grownBy W' (some g)) : Pl W' B (.slice A n c) l := by
  obtain ⟨h1, h2, h3⟩ := h.len
  subst h1
  refine ⟨A, c, rfl, h2, h3, h.rd.1, fun hn => ?_⟩
  obtain ⟨b, o, e, hb, hc⟩ := h.rd.2 hn
  have := ho _ e hn
  exact ⟨b, o, e, hb, fun j u hu => (hg.cell_far ⟨b, o + j, none⟩ (by show b < _; omega) (fun e' => by injection e' with e'; exact this e')).trans (hc j u hu)⟩
theorem Fl.grownO {n c : Nat} {A : Option Addr} {l : List Int} (h : Fl W B (.slice A n c) l) (ho : ∀ a, A = some a → 0 < n → a.block ≠ g) (hB : B ≤ W.heap.size) (hg : W.grownBy W' (some g)) : Fl W' B (.slice A n c) l := by
  obtain ⟨h1, h2, h3⟩ := h.len
  subst h1
  refine ⟨A, c, rfl, h2, h3, h.rd.1, fun hn => ?_⟩
  obtain ⟨b, o, e, hb, hc⟩ := h.rd.2 hn
  have := ho _ e hn
  exact ⟨b, o, e, hb, fun j u hu => (hg.cell_far ⟨b, o + j, none⟩ (by show b < _; omega) (fun e' => by injection e' with e'; exact this e')).trans (hc j u hu)⟩
theorem DR.grownO (h : DR W B d X) (ho : DOff d X g) (hB : B ≤ W.heap.size) (hg : W.grownBy W' (some g)) : DR W' B d X := ⟨h.pl.grownO ho.o1 hB hg, h.fl.grownO ho.o2 hB hg⟩
end
/-- A source and a directory in a box. -/
structure DsAt (w : World) (B g p : Nat) (d : Dd) (X : Dx) (W : World) : Prop where
  src : SrcAt W B g
  db : Db10 W p d X
  dr : DR W W.heap.size d X
  op : DOff d X p
  og : DOff d X g
  ne : p ≠ g ∧ w.heap.size ≤ p ∧ w.heap.size ≤ g ∧ B ≤ w.heap.size
  bel : Below w.heap.size w W
section
variable {w W W' : World} {B g p : Nat} {d : Dd} {X : Dx}
theorem DsAt.below (h : DsAt w B g p d X W) (hb : Below W.heap.size W W') : DsAt w B g p d X W' :=
  ⟨h.src.below hb, h.db.up hb, h.dr.up hb, h.op, h.og, h.ne, h.bel.trans (hb.mono h.bel.size)⟩
theorem DsAt.turn (h : DsAt w B g p d X W) (hs : SrcAt W' B g) (hg : W.grownBy W' (some g)) : DsAt w B g p d X W' :=
  ⟨hs, h.db.grown hg h.ne.1, (h.dr.grownO h.og (Nat.le_refl _) hg).more hg.size, h.op, h.og, h.ne, h.bel.grown hg h.bel.size (fun k e => by injection e with e; subst e; exact h.ne.2.2.1)⟩
/-- Another directory is stored. -/
theorem DsAt.put (h : DsAt w B g p d X W) {d' : Dd} {Y : Dx} (hr : DR W W.heap.size d' Y) (o1 : DOff d' Y p) (o2 : DOff d' Y g) :
    DsAt w B g p d' Y (((W.setCell ⟨p, 0, none⟩ (.int .i64 d'.vn)).setCell ⟨p, 1, none⟩ (.slice Y.A d'.l.length Y.c)).setCell ⟨p, 2, none⟩ (.slice Y.A2 d'.F.length Y.c2)) := by
  have hn := h.ne
  have hB : B ≤ p := by omega
  exact ⟨((h.src.other (p := ⟨p, 0, none⟩) hn.1 hB _).other (p := ⟨p, 1, none⟩) hn.1 hB _).other (p := ⟨p, 2, none⟩) hn.1 hB _, h.db.set d' Y, (((hr.offp (q := ⟨p, 0, none⟩) o1 _).offp (q := ⟨p, 1, none⟩) o1 _).offp (q := ⟨p, 2, none⟩) o1 _).more (by simp), o1, o2, h.ne,
    ((h.bel.setCell (p := ⟨p, 0, none⟩) hn.2.1 _).setCell (p := ⟨p, 1, none⟩) hn.2.1 _).setCell (p := ⟨p, 2, none⟩) hn.2.1 _⟩
theorem DsAt.start (hs : SrcAt W B g) (hd : DR W W.heap.size d X) (ho : DOff d X g) (hg : w.heap.size ≤ g) (hB : B ≤ w.heap.size) (hb : Below w.heap.size w W) (t : TypeId) :
    DsAt w B g W.heap.size d X (W.alloc (.cells #[.int .i64 d.vn, .slice X.A d.l.length X.c, .slice X.A2 d.F.length X.c2] t)) :=
  ⟨hs.alloc _, Db10.start W d X t, hd.alloc _, hd.offs (Nat.le_refl _), ho, ⟨by have := hs.2.1; omega, hb.size, hg, hB⟩, hb.alloc hb.size _⟩
end
end Go.Proofs.Ytkecnihgjepfeaa
namespace Go.Proofs.Ytkecnihgjepfeaa
set_option linter.unusedVariables false

theorem pig (n : Nat) : ∀ (s : Nat) (f : Nat → Nat), (∀ v, v < s → f v < n) → (∀ u v, u < v → v < s → f u ≠ f v) → s ≤ n := by
  induction n with
  | zero =>
    intro s f h _
    cases s with
    | zero => exact Nat.le_refl _
    | succ s => have := h 0 (by omega); omega
  | succ n ih =>
    intro s f h hi
    cases s with
    | zero => omega
    | succ s =>
      have := ih s (fun v => if f v = n then f s else f v) (fun v hv => by
        have h1 := h v (by omega)
        have h2 := h s (by omega)
        have h3 := hi v s hv (by omega)
        show (if f v = n then f s else f v) < n
        split <;> omega) (fun u v huv hv => by
        have h1 := hi u v huv (by omega)
        have h2 := hi u s (by omega) (by omega)
        have h3 := hi v s (by omega) (by omega)
        show (if f u = n then f s else f u) ≠ (if f v = n then f s else f v)
        split <;> split <;> omega)
      omega
theorem fwD_add (F : List Int) (j k : Nat) (a : Int) : fwD F (j + k) a = fwD F k (fwD F j a) := by
  induction j generalizing a with
  | zero => rw [Nat.zero_add]; rfl
  | succ j ih =>
    by_cases h : a < 0
    · rw [fwD_neg _ h, fwD_neg _ h, fwD_neg _ h]
    · rw [show j + 1 + k = j + k + 1 by omega, fwD_pos _ (by omega), fwD_pos _ (by omega), ih]
theorem fwD_up {F : List Int} {j k : Nat} {a : Int} (h : fwD F j a < 0) (hk : j ≤ k) : fwD F k a < 0 := by
  obtain ⟨m, rfl⟩ : ∃ m, k = j + m := ⟨k - j, by omega⟩
  rw [fwD_add, fwD_neg _ h]
  exact h
theorem fwD_lt {F : List Int} (hb : ∀ i, i < F.length → -1 ≤ ig F i ∧ ig F i < F.length) (k : Nat) {a : Int} (ha : a < F.length) : fwD F k a < F.length := by
  induction k generalizing a with
  | zero => exact ha
  | succ k ih =>
    by_cases h : a < 0
    · rw [fwD_neg _ h]; exact ha
    · rw [fwD_pos _ (by omega)]
      exact ih (hb a.toNat (by omega)).2
theorem fwD_least {F : List Int} {a : Int} (m : Nat) (h : fwD F m a < 0) : ∃ T, fwD F T a < 0 ∧ ∀ t, t < T → 0 ≤ fwD F t a := by
  induction m with
  | zero => exact ⟨0, h, fun t ht => by omega⟩
  | succ m ih =>
    by_cases hm : fwD F m a < 0
    · exact ih hm
    · refine ⟨m + 1, h, fun t ht => ?_⟩
      apply Classical.byContradiction
      intro hc
      exact hm (fwD_up (by omega : fwD F t a < 0) (by omega))
/-- A way that ends ends within as many steps as there are slots. -/
theorem fw_le {F : List Int} (hb : ∀ i, i < F.length → -1 ≤ ig F i ∧ ig F i < F.length) {m : Nat} {a : Int} (ha : a < F.length) (h : fwD F m a < 0) : fwD F F.length a < 0 := by
  obtain ⟨T, hT, hl⟩ := fwD_least m h
  have := pig F.length T (fun v => (fwD F v a).toNat) (fun v hv => by
    have h1 := hl v hv
    have h2 := fwD_lt hb v ha
    show (fwD F v a).toNat < F.length
    omega) (fun u v huv hv => by
    have h1 := hl u (by omega)
    have h2 := hl v hv
    intro he
    have he' : fwD F u a = fwD F v a := by
      have : (fwD F u a).toNat = (fwD F v a).toNat := he
      omega
    have h3 : fwD F (u + (T - v)) a = fwD F T a := by rw [fwD_add, he', ← fwD_add]; congr 1; omega
    have h4 := hl (u + (T - v)) (by omega)
    omega)
  exact fwD_up hT this
theorem fw_split {F : List Int} {t k : Nat} (ht : t < F.length) {a : Int} (h : fwD F k a < 0) : fwD (F.set t (-1)) k a < 0 := by
  induction k generalizing a with
  | zero => exact h
  | succ k ih =>
    by_cases ha : a < 0
    · rw [fwD_neg _ ha]; exact ha
    · rw [fwD_pos _ (by omega), ig_set ht]
      by_cases e : a.toNat = t
      · rw [if_pos e, fwD_neg _ (by omega)]; omega
      · rw [if_neg e]
        rw [fwD_pos _ (by omega)] at h
        exact ih h
theorem fw_merge {F : List Int} {t k : Nat} (ht : t < F.length) {x : Int} (hx : 0 ≤ x) (hxt : x.toNat ≠ t) (hF : ig F x.toNat = -1) {a : Int} (h : fwD F k a < 0) : fwD (F.set t x) (k + 2) a < 0 := by
  induction k generalizing a with
  | zero => exact fwD_up (j := 0) h (by omega)
  | succ k ih =>
    by_cases ha : a < 0
    · rw [fwD_neg _ ha]; exact ha
    · rw [fwD_pos (k + 2) (by omega), ig_set ht]
      by_cases e : a.toNat = t
      · rw [if_pos e, fwD_pos _ hx, ig_set ht, if_neg hxt, hF, fwD_neg _ (by omega)]; omega
      · rw [if_neg e]
        rw [fwD_pos _ (by omega)] at h
        exact ih h
end Go.Proofs.Ytkecnihgjepfeaa
namespace Go.Proofs.Ytkecnihgjepfeaa
set_option linter.unusedVariables false

/-- Spans from n on, up to before m. -/
def chN : Int → List Sp → Int → Prop
  | n, [], m => n = m
  | n, x :: l, m => x.lo = n ∧ x.lo ≤ x.hi ∧ x.hi ≤ 65535 ∧ chN (x.hi + 1) l m
theorem cv_ch (n : Int) (l : List Sp) : cvD n l = true ↔ chN n l 65536 := by
  induction l generalizing n with
  | nil => simp [cvD, chN]
  | cons x l ih => simp [cvD, chN, ih]
theorem ch_app (n : Int) (a b : List Sp) (m : Int) : chN n (a ++ b) m ↔ ∃ k, chN n a k ∧ chN k b m := by
  induction a generalizing n with
  | nil => simp [chN]
  | cons x a ih =>
    simp only [List.cons_append, chN, ih]
    constructor
    · rintro ⟨h1, h2, h3, k, h4, h5⟩
      exact ⟨k, ⟨h1, h2, h3, h4⟩, h5⟩
    · rintro ⟨k, ⟨h1, h2, h3, h4⟩, h5⟩
      exact ⟨h1, h2, h3, k, h4, h5⟩
theorem sg_split {l : List Sp} {i : Nat} (h : i < l.length) : l = l.take i ++ sg l i :: l.drop (i + 1) := by
  rw [sg_get h, ← List.drop_eq_getElem_cons h, List.take_append_drop]
/-- A valid list of spans. -/
structure OkL (n : Nat) (l : List Sp) : Prop where
  ch : chN 0 l 65536
  ms : ∀ x ∈ l, slotP n x.sh
  nd : (l.map (·.sh)).Nodup
theorem nd_du {l : List Sp} : (l.map (·.sh)).Nodup ↔ ¬ duD l := by
  unfold List.Nodup
  rw [List.pairwise_iff_getElem]
  constructor
  · rintro h ⟨i, j, hij, hj, e⟩
    have := h i j (by simp; omega) (by simpa using hj) hij
    rw [List.getElem_map, List.getElem_map, ← sg_get, ← sg_get] at this
    exact this e
  · intro h i j hi hj hij e
    rw [List.getElem_map, List.getElem_map, ← sg_get, ← sg_get] at e
    exact h ⟨i, j, hij, by simpa using hj, e⟩
theorem OkD.okl {d : Dd} (h : OkD d) : OkL d.F.length d.l := by
  refine ⟨(cv_ch _ _).1 ((cvD_iff _).2 ⟨h.sp, h.en⟩), fun x hx => ?_, nd_du.2 h.du⟩
  obtain ⟨k, hk, rfl⟩ := List.getElem_of_mem hx
  have := h.ms k hk
  rwa [sg_get hk] at this
theorem OkL.okd {d : Dd} (h : OkL d.F.length d.l) (hr : rgD d) (hf : foD d.l d.F) : OkD d := by
  have h1 := (cvD_iff _).1 ((cv_ch _ _).2 h.ch)
  exact ⟨hr, h1.1, h1.2, fun k hk => h.ms _ (sg_mem hk), nd_du.1 h.nd, hf.1, hf.2⟩
/-- A split. -/
theorem OkL.split {n : Nat} {A B : List Sp} {x : Sp} {md t9 : Int} (h : OkL n (A ++ x :: B)) (h1 : x.lo ≤ md ∧ md < x.hi) (h2 : slotP n t9) (h3 : ∀ y ∈ A ++ x :: B, y.sh ≠ t9) : OkL n (A ++ ⟨x.lo, md, x.sh⟩ :: ⟨md + 1, x.hi, t9⟩ :: B) := by
  obtain ⟨k, c1, c2, c3, c4, c5⟩ := (ch_app _ _ _ _).1 h.ch
  refine ⟨(ch_app _ _ _ _).2 ⟨k, c1, c2, h1.1, by show md ≤ 65535; omega, rfl, by show md + 1 ≤ x.hi; omega, c4, c5⟩, fun y hy => ?_, ?_⟩
  · rw [List.mem_append, List.mem_cons, List.mem_cons] at hy
    rcases hy with hy | rfl | rfl | hy
    · exact h.ms y (by simp [hy])
    · exact h.ms x (by simp)
    · exact h2
    · exact h.ms y (by simp [hy])
  · have e : (A ++ (⟨x.lo, md, x.sh⟩ : Sp) :: ⟨md + 1, x.hi, t9⟩ :: B).map (·.sh) = (A.map (·.sh) ++ [x.sh]) ++ t9 :: B.map (·.sh) := by simp
    rw [e]
    refine (List.perm_middle.nodup_iff).2 (List.nodup_cons.2 ⟨fun hm => ?_, ?_⟩)
    · have hm' : t9 ∈ (A ++ x :: B).map (·.sh) := by simpa using hm
      obtain ⟨y, hy, he⟩ := List.mem_map.1 hm'
      exact h3 y hy he
    · have := h.nd
      simpa using this
/-- A merge. -/
theorem OkL.merge {n : Nat} {A B : List Sp} {x y : Sp} {t9 : Int} (h : OkL n (A ++ x :: y :: B)) (h1 : t9 = x.sh ∨ t9 = y.sh) : OkL n (A ++ ⟨x.lo, y.hi, t9⟩ :: B) := by
  obtain ⟨k, c1, c2, c3, c4, c5, c6, c7, c8⟩ := (ch_app _ _ _ _).1 h.ch
  refine ⟨(ch_app _ _ _ _).2 ⟨k, c1, c2, by show x.lo ≤ y.hi; omega, c7, c8⟩, fun z hz => ?_, ?_⟩
  · rw [List.mem_append, List.mem_cons] at hz
    rcases hz with hz | rfl | hz
    · exact h.ms z (by simp [hz])
    · rcases h1 with rfl | rfl
      · exact h.ms x (by simp)
      · exact h.ms y (by simp)
    · exact h.ms z (by simp [hz])
  · have hn := h.nd
    have e : (A ++ (⟨x.lo, y.hi, t9⟩ : Sp) :: B).map (·.sh) = A.map (·.sh) ++ t9 :: B.map (·.sh) := by simp
    have e2 : (A ++ x :: y :: B).map (·.sh) = A.map (·.sh) ++ x.sh :: y.sh :: B.map (·.sh) := by simp
    rw [e]
    rw [e2] at hn
    rcases h1 with rfl | rfl
    · exact List.Pairwise.sublist (List.Sublist.append_left (List.Sublist.cons_cons _ (List.sublist_cons_self _ _)) _) hn
    · exact List.Pairwise.sublist (List.Sublist.append_left (List.sublist_cons_self _ _) _) hn
end Go.Proofs.Ytkecnihgjepfeaa
namespace Go.Proofs.Ytkecnihgjepfeaa
open Go.RowKit
theorem dal {B : Nat} {a W : World} {o : Obj} (h : Below B a W) (h1 : B ≤ W.heap.size) : Below B a (W.alloc o) := h.alloc h1 o
theorem dst {B : Nat} {a W : World} {x : Addr} {v : Value} (h : Below B a W) (h1 : B ≤ x.block) : Below B a (W.setCell x v) := h.setCell h1 v
theorem ddr {B : Nat} {a W : World} (h : Below B a W) : Below B a W.drew := h.drew
end Go.Proofs.Ytkecnihgjepfeaa
namespace Go.Proofs.Ytkecnihgjepfeaa
open Go.RowKit
set_option linter.unusedVariables false

/-- The first k spans of n. -/
def nwL (n k : Nat) : List Sp := (List.range k).map fun (i : Nat) => ⟨(i : Int) * 65536 / n, ((i : Int) + 1) * 65536 / n - 1, i⟩
theorem nwL_succ (n k : Nat) : nwL n (k + 1) = nwL n k ++ [⟨(k : Int) * 65536 / n, ((k : Int) + 1) * 65536 / n - 1, k⟩] := by simp [nwL, List.range_succ]
theorem nwL_len (n k : Nat) : (nwL n k).length = k := by simp [nwL]
def nwE10 (s l : Int) : Int := if 1 ≤ s ∧ s ≤ 6 ∧ 1 ≤ l ∧ l ≤ s then 0 else 1
def nwD (s l : Int) : Dd := if nwE10 s l = 0 then ⟨1, nwL l.toNat l.toNat, List.replicate s.toNat (-1)⟩ else zD10

/-- A result box, and a box of a directory whose lists the call owns. -/
structure NA (w : World) (r y : Nat) (d : Dd) (X : Dx) (W : World) : Prop where
  rb : Db10 W r zD10 zDx
  xb : Db10 W y d X
  ol : W.ownsRow (r + 1) 44 3 (.slice X.A d.l.length X.c) d.l.length (scs d.l)
  of : W.ownsRow (r + 1) 3 1 (.slice X.A2 d.F.length X.c2) d.F.length (ics d.F)
  d1 : ∀ k, (Value.slice X.A d.l.length X.c).ownBlock = some k → (Value.slice X.A2 d.F.length X.c2).ownBlock ≠ some k
  d2 : ∀ k, (Value.slice X.A d.l.length X.c).ownBlock = some k → k ≠ y
  d3 : ∀ k, (Value.slice X.A2 d.F.length X.c2).ownBlock = some k → k ≠ y
  ne : r = w.heap.size ∧ r < y
  bel : Below w.heap.size w W
theorem Db10.grownO {W W' : World} {p : Nat} {d : Dd} {X : Dx} {ob : Option Nat} (h : Db10 W p d X) (hg : W.grownBy W' ob) (hne : ob ≠ some p) : Db10 W' p d X :=
  h.keep (fun o => hg.cell_far ⟨p, o, none⟩ h.lt (fun e => hne e.symm)) (fun o => hg.frozen_far ⟨p, o, none⟩ h.lt (fun e => hne e.symm)) hg.size
theorem own_farO {W W' : World} {base size n : Nat} {ob : Option Nat} {t : TypeId} {v : Value} {xs : List Value} (h : W.ownsRow base t size v n xs) (hg : W.grownBy W' ob) (hne : ∀ k, v.ownBlock = some k → ob ≠ some k) : W'.ownsRow base t size v n xs :=
  ⟨h.1, h.2.imp_right fun ⟨k, cap, cur, hv, hk, hh, rr⟩ => ⟨k, cap, cur, hv, hk, (hg.block k (Array.getElem?_eq_some_iff.1 hh).1 (by
    have := hne k (by rw [hv]; rfl)
    exact fun e => this e.symm)).trans hh, rr⟩⟩
section
variable {w W W' : World} {r y : Nat} {d : Dd} {X : Dx}
theorem NA.below (h : NA w r y d X W) (hb : Below W.heap.size W W') : NA w r y d X W' :=
  ⟨h.rb.up hb, h.xb.up hb, own_up10 h.ol hb, own_up10 h.of hb, h.d1, h.d2, h.d3, h.ne, h.bel.trans (hb.mono h.bel.size)⟩
theorem NA.drew (h : NA w r y d X W) : NA w r y d X W.drew := h.below (Below.refl _ _).drew
theorem NA.alloc (h : NA w r y d X W) (o : Obj) : NA w r y d X (W.alloc o) := h.below ((Below.refl _ _).alloc (Nat.le_refl _) o)
theorem NA.start {F : List Int} {A2 : Option Addr} {c2 : Nat} (hr : r = w.heap.size) (hb : Below w.heap.size w W) (hd : Db10 W r zD10 zDx) (hf : W.ownsRow (r + 1) 3 1 (.slice A2 F.length c2) F.length (ics F)) (t : TypeId) :
    NA w r W.heap.size ⟨1, [], F⟩ ⟨none, 0, A2, c2⟩ (W.alloc (.cells #[.int .i64 1, .slice none 0 0, .slice A2 F.length c2] t)) := by
  have hlt := hd.lt
  have hs := hb.size
  have hk : ∀ k, (Value.slice A2 F.length c2).ownBlock = some k → k ≠ W.heap.size := fun k e => by have := (hf.lt k e).2; omega
  exact ⟨hd.alloc _, Db10.start W ⟨1, [], F⟩ ⟨none, 0, A2, c2⟩ t, World.ownsRow_nil _ _ _ _, own_up10 hf ((Below.refl _ _).alloc (Nat.le_refl _) _), fun k e => by simp [Value.ownBlock] at e, fun k e => by simp [Value.ownBlock] at e, hk, ⟨hr, hlt⟩, hb.alloc hs _⟩
theorem NA.nw (h : NA w r y d X W) : X.nw w.heap.size := by
  have := h.ne
  exact ⟨nwv_of (nwv_own h.ol (by omega)), nwv_of (nwv_own h.of (by omega))⟩
theorem NA.dr (h : NA w r y d X W) : DR W W.heap.size d X := ⟨Pl.of_own h.ol, Fl.of_own h.of⟩
/-- A span is appended. -/
theorem NA.app (h : NA w r y d X W) {S : Sp} {g cap : Nat} (ho : W'.ownsRow (r + 1) 44 3 (.slice (some ⟨g, 0, none⟩) (d.l.length + 1) cap) (d.l.length + 1) (scs d.l ++ S.l)) (hg : W.grownBy W' (Value.slice X.A d.l.length X.c).ownBlock) (hat : (Value.slice X.A d.l.length X.c).ownBlock = some g ∨ g = W.heap.size) :
    (W'.cell? ⟨y, 1, none⟩ = some (.slice X.A d.l.length X.c) ∧ W'.frozen? ⟨y, 1, none⟩ = false ∧ y < W'.heap.size) ∧ NA w r y ⟨d.vn, d.l ++ [S], d.F⟩ ⟨some ⟨g, 0, none⟩, cap, X.A2, X.c2⟩ (W'.setCell ⟨y, 1, none⟩ (.slice (some ⟨g, 0, none⟩) (d.l.length + 1) cap)) := by
  have hn := h.ne
  have hrl := h.rb.lt
  have hor : (Value.slice X.A d.l.length X.c).ownBlock ≠ some r := fun e => by have := (h.ol.lt r e).1; omega
  have hoy : (Value.slice X.A d.l.length X.c).ownBlock ≠ some y := fun e => h.d2 y e rfl
  have hx := h.xb.grownO hg hoy
  have hr := h.rb.grownO hg hor
  have hf := own_farO h.of hg fun k hk e => h.d1 k e hk
  have hgy : g ≠ y := by
    rcases hat with e | e
    · exact h.d2 g e
    · have := h.xb.lt; omega
  have hb : Below w.heap.size w W' := h.bel.grown hg h.bel.size fun k hk => by have := (h.ol.lt k hk).1; omega
  refine ⟨⟨hx.c1, hx.fr 1, hx.lt⟩, hr.other (a := ⟨y, 1, none⟩) (by show y ≠ r; omega) _, ⟨?_, ?_, ?_, fun o => ?_, ?_⟩, ?_, own_oth hf (fun k hk => h.d3 k hk) _, fun k hk e => ?_, fun k hk => ?_, h.d3, h.ne, hb.setCell (p := ⟨y, 1, none⟩) (show w.heap.size ≤ y by omega) _⟩
  · simpa [go_sem] using hx.c0
  · simp [go_sem, hx.c1]
  · simpa [go_sem] using hx.c2
  · simpa [go_sem] using hx.fr o
  · simpa using hx.lt
  · have k := own_oth ho (a := ⟨y, 1, none⟩) (fun k hk => by simp [Value.ownBlock] at hk; subst hk; exact hgy) (.slice (some ⟨g, 0, none⟩) (d.l.length + 1) cap)
    have e1 : scs (d.l ++ [S]) = scs d.l ++ S.l := by simp [scs]
    show World.ownsRow _ _ _ _ (.slice (some ⟨g, 0, none⟩) (d.l ++ [S]).length cap) (d.l ++ [S]).length (scs (d.l ++ [S]))
    rw [e1, List.length_append, List.length_singleton]
    exact k
  · simp [Value.ownBlock] at hk
    subst hk
    rcases hat with e2 | e2
    · exact h.d1 _ e2 e
    · have := (h.of.lt _ e).2; omega
  · simp [Value.ownBlock] at hk
    subst hk
    exact hgy
theorem NA.out (h : NA w r y d X W) : DE w.heap.size w d 0 (.returned (.tuple #[dv d X, .int .i64 0])) (((W.setCell ⟨r, 0, none⟩ (.int .i64 d.vn)).setCell ⟨r, 1, none⟩ (.slice X.A d.l.length X.c)).setCell ⟨r, 2, none⟩ (.slice X.A2 d.F.length X.c2)) := by
  have hp := h.ne
  have hl : Pl W r.succ (.slice X.A d.l.length X.c) d.l ∨ True := .inr trivial
  have n1 : X.nw (r + 1) := ⟨nwv_of (nwv_own h.ol (Nat.le_refl _)), nwv_of (nwv_own h.of (Nat.le_refl _))⟩
  have f : ∀ o, DOff d X (⟨r, o, none⟩ : Addr).block := fun o => n1.off (Nat.lt_succ_self r)
  exact ⟨X, rfl, h.nw, (((h.dr.offp (q := ⟨r, 0, none⟩) (f 0) _).offp (q := ⟨r, 1, none⟩) (f 1) _).offp (q := ⟨r, 2, none⟩) (f 2) _).more (by simp), ((h.bel.setCell (p := ⟨r, 0, none⟩) (show w.heap.size ≤ r by omega) _).setCell (p := ⟨r, 1, none⟩) (show w.heap.size ≤ r by omega) _).setCell (p := ⟨r, 2, none⟩) (show w.heap.size ≤ r by omega) _⟩
end
/-- The answer 'no'. -/
theorem new_out0 {w W : World} {r : Nat} (hr : r = w.heap.size) (hb : Below w.heap.size w W) (x : Int) : DE w.heap.size w zD10 x (.returned (.tuple #[.agg #[.int .i64 0, .slice none 0 0, .slice none 0 0], .int .i64 x])) (((W.setCell ⟨r, 0, none⟩ (.int .i64 0)).setCell ⟨r, 1, none⟩ (.slice none 0 0)).setCell ⟨r, 2, none⟩ (.slice none 0 0)) :=
  ⟨zDx, rfl, zDx_nw _, DR.zero, ((hb.setCell (p := ⟨r, 0, none⟩) (show w.heap.size ≤ r by omega) _).setCell (p := ⟨r, 1, none⟩) (show w.heap.size ≤ r by omega) _).setCell (p := ⟨r, 2, none⟩) (show w.heap.size ≤ r by omega) _⟩
end Go.Proofs.Ytkecnihgjepfeaa
