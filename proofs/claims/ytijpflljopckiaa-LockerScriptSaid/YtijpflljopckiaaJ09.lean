/- What is proved here: Pld; shardqueueref06.find by a contract; a table in a block; (plain) a list of deadlines that lies in memory: what is there, how it is kept, cut, stored into; due.within, due.parent, cmp.Compare, cmp.Or, due.compare, due.before, due.isOutOfRange by contracts; due.find and slices.ContainsFunc with due.isOutOfRange, by contracts. -/
import Derived.Test.YtijpflljopckiaaJ08
import Derived.Test.YtijpflljopckiaaRows
import Derived.Test.YtijpflljopckiaaJ02
import Derived.WalkKit
import Derived.Outline
import Derived.IntWalk
import Derived.Test.YtijpflljopckiaaJ07
import Derived.Below
import Derived.Deep.MidRow
import Derived.Laws.MakeOwn
import Derived.Deep.RegionHeld3
import Derived.Deep.DrawnRows
/- Plain: what the program's own ways of a table give: the first error of a lease, what a heap consists of, places in ascending lists. -/
namespace Go.Proofs.Ytijpflljopckiaa
set_option linter.unusedVariables false

section
variable {α : Type} {key : α → Int}
theorem kAt_fi {l : List α} (h : Asc key l) {x : Int} (hf : 0 ≤ kFi key l x) : kFi key l x = kAt key l x ∧ kAt key l x < l.length := by
  rcases kFi_cases key l x with ⟨e, _⟩ | ⟨k, hk, e, hi, _⟩
  · rw [e] at hf; exact absurd hf (by decide)
  · have : kAt key l x = k := kAt_hit (Nat.le_of_lt hk) (fun j hj => by rw [← hi]; exact h.lt hj hk) fun _ => by rw [hi]; exact Int.le_refl _
    rw [e, this]
    exact ⟨rfl, hk⟩
end
end Go.Proofs.Ytijpflljopckiaa
namespace Go.Proofs.Ytijpflljopckiaa
open Go.RowKit
set_option linter.unusedVariables false

/-- A table of this list of leases and this heap, whose parts lie below B. -/
abbrev tv (A : Option Addr) (n c : Nat) (A2 : Option Addr) (n2 c2 : Nat) : Value := .agg #[.slice A n c, .slice A2 n2 c2]
/-- The box of a table. -/
abbrev TB (W : World) (p : Nat) (A : Option Addr) (n c : Nat) (A2 : Option Addr) (n2 c2 : Nat) : Prop := W.cell? ⟨p, 0, none⟩ = some (.slice A n c) ∧ W.cell? ⟨p, 1, none⟩ = some (.slice A2 n2 c2) ∧ p < W.heap.size
theorem TB.start (w : World) (A : Option Addr) (n c : Nat) (A2 : Option Addr) (n2 c2 : Nat) (t : TypeId) : TB (w.alloc (.cells #[.slice A n c, .slice A2 n2 c2] t)) w.heap.size A n c A2 n2 c2 :=
  ⟨by simp [go_sem], by simp [go_sem], by simp⟩
theorem TB.below {B : Nat} {W W' : World} {p : Nat} {A : Option Addr} {n c : Nat} {A2 : Option Addr} {n2 c2 : Nat} (h : TB W p A n c A2 n2 c2) (hb : Below B W W') (hp : p < B) : TB W' p A n c A2 n2 c2 :=
  ⟨(hb.cell (p := ⟨p, 0, none⟩) hp).trans h.1, (hb.cell (p := ⟨p, 1, none⟩) hp).trans h.2.1, Nat.lt_of_lt_of_le h.2.2 hb.size⟩

end Go.Proofs.Ytijpflljopckiaa
namespace Go.Proofs.Ytijpflljopckiaa
open Go.RowKit
set_option linter.unusedVariables false

/-- The cells of an element. -/
def Du.l (d : Du) : List Value := [.int .i64 d.dl, .int .i64 d.id]
/-- The element as a value. -/
abbrev Du.v (d : Du) : Value := .agg #[.int .i64 d.dl, .int .i64 d.id]
theorem Du.l_len (d : Du) : d.l.length = 2 := rfl
def dcs (l : List Du) : List Value := l.flatMap Du.l
theorem dcs_cons (d : Du) (l : List Du) : dcs (d :: l) = d.l ++ dcs l := rfl
theorem dcs_len (l : List Du) : (dcs l).length = l.length * 2 := by
  induction l with
  | nil => rfl
  | cons d l ih => rw [dcs_cons, List.length_append, ih, Du.l_len]; simp; omega
theorem dcs_drop (l : List Du) (k : Nat) : (dcs l).drop (k * 2) = dcs (l.drop k) := by
  induction k generalizing l with
  | zero => simp
  | succ k ih =>
    cases l with
    | nil => simp [dcs]
    | cons d l =>
      rw [dcs_cons, List.drop_succ_cons, ← ih, show (k + 1) * 2 = d.l.length + k * 2 by rw [Du.l_len]; omega, List.drop_append, List.drop_eq_nil_of_le (by omega)]
      simp
theorem dcs_take (l : List Du) (k : Nat) : (dcs l).take (k * 2) = dcs (l.take k) := by
  induction k generalizing l with
  | zero => simp [dcs]
  | succ k ih =>
    cases l with
    | nil => simp [dcs]
    | cons d l =>
      rw [dcs_cons, List.take_succ_cons, dcs_cons, ← ih, show (k + 1) * 2 = d.l.length + k * 2 by rw [Du.l_len]; omega, List.take_append, List.take_of_length_le (by omega)]
      simp
theorem dcs_at (l : List Du) (k j : Nat) (hk : k < l.length) (hj : j < 2) : (dcs l)[k * 2 + j]? = l[k].l[j]? := by
  have h := dcs_drop l k
  have e : (dcs l)[k * 2 + j]? = ((dcs l).drop (k * 2))[j]? := by rw [List.getElem?_drop]
  rw [e, h, List.drop_eq_getElem_cons hk, dcs_cons, List.getElem?_append_left (by rw [Du.l_len]; exact hj)]
theorem dcs_one (l : List Du) : ∀ u ∈ dcs l, u.oneCell' = true := by
  intro u hu
  obtain ⟨M, _, h⟩ := List.mem_flatMap.1 hu
  simp only [Du.l, List.mem_cons, List.not_mem_nil, or_false] at h
  rcases h with rfl | rfl <;> rfl

/-- A value that is a slice, reads as these elements and lies below B. -/
def Dl (w : World) (B : Nat) (v : Value) (l : List Du) : Prop := ∃ A c, v = .slice A l.length c ∧ l.length ≤ c ∧ c ≤ maxLen ∧ Rd w B 2 A l.length (dcs l)
section
variable {w w' : World} {B B' : Nat} {v : Value} {l : List Du} {A : Option Addr} {n c : Nat}
theorem Dl.nil : Dl w B (.slice none 0 0) [] := ⟨none, 0, rfl, Nat.le_refl _, Nat.zero_le _, Rd.nil none⟩
theorem Dl.keep (h : Dl w B v l) (hk : ∀ p : Addr, p.block < B → w'.cell? p = w.cell? p) : Dl w' B v l := by
  obtain ⟨A, c, e, hl, hm, h⟩ := h; exact ⟨A, c, e, hl, hm, h.keep hk⟩
theorem Dl.more (h : Dl w B v l) (hB : B ≤ B') : Dl w B' v l := by
  obtain ⟨A, c, e, hl, hm, h⟩ := h; exact ⟨A, c, e, hl, hm, h.more hB⟩
theorem Dl.below (h : Dl w B v l) (hb : Below B w w') : Dl w' B v l := h.keep fun _ hp => hb.cell hp
theorem Dl.up (h : Dl w w.heap.size v l) (hb : Below w.heap.size w w') : Dl w' w'.heap.size v l := (h.below hb).more hb.size
theorem Dl.drewN (h : Dl w B v l) (k : Nat) : Dl (w.drewN k) B v l := h
theorem Dl.drew (h : Dl w B v l) : Dl w.drew B v l := h
theorem Dl.alloc (h : Dl w B v l) (hB : B ≤ w.heap.size) (o : Obj) : Dl (w.alloc o) B v l := h.keep fun p hp => World.cell?_alloc_lt w o p (by omega)
theorem Dl.setCell (h : Dl w B v l) {p : Addr} (hB : B ≤ p.block) (u : Value) : Dl (w.setCell p u) B v l :=
  h.keep fun q hq => World.cell?_setCell_other w p q u (fun e => by subst e; omega)
theorem Dl.len (h : Dl w B (.slice A n c) l) : n = l.length ∧ n ≤ c ∧ c ≤ maxLen := by
  obtain ⟨A', c', e, hl, hm, h⟩ := h
  injection e with e1 e2 e3
  subst e2; subst e3
  exact ⟨rfl, hl, hm⟩
theorem Dl.rd (h : Dl w B (.slice A n c) l) : Rd w B 2 A n (dcs l) := by
  obtain ⟨A', c', e, hl, hm, h⟩ := h
  injection e with e1 e2 e3
  subst e1; subst e2
  exact h
theorem Dl.form (h : Dl w B v l) : ∃ A c, v = .slice A l.length c ∧ l.length ≤ c ∧ c ≤ maxLen := by
  obtain ⟨A, c, e, hl, hm, _⟩ := h; exact ⟨A, c, e, hl, hm⟩
theorem Dl.of_own {base : Nat} {e : TypeId} {n : Nat} (h : w.ownsRow base e 2 v n (dcs l)) : Dl w w.heap.size v l := by
  have hl : n = l.length := by have := h.1; rw [dcs_len] at this; omega
  subst hl
  rcases h.2 with ⟨hv, h0⟩ | ⟨g, cap, cur, hv, _, _, hl, hm, _⟩
  · subst hv; exact ⟨none, 0, by rw [h0], by omega, Nat.zero_le _, by rw [show l = [] from List.length_eq_zero_iff.1 h0]; exact Rd.nil _⟩
  · subst hv; exact ⟨_, cap, rfl, hl, hm, Rd.of_own h⟩
/-- The element at place k, and where it lies. -/
theorem Dl.at_ {k : Nat} (h : Dl w B (.slice A n c) l) (hk : k < l.length) : ∃ b o, A = some ⟨b, o, none⟩ ∧ b < B ∧ (w.cell? ⟨b, o + k * 2, none⟩ = some (.int .i64 l[k].dl) ∧ w.cell? ⟨b, o + k * 2 + 1, none⟩ = some (.int .i64 l[k].id)) := by
  have hn := h.len.1
  obtain ⟨b, o, e, hb, hc⟩ := h.rd.2 (by omega)
  have g : ∀ j u, j < 2 → l[k].l[j]? = some u → w.cell? ⟨b, o + k * 2 + j, none⟩ = some u := fun j u hj hu => by
    rw [Nat.add_assoc]; exact hc _ u (by rw [dcs_at l k j hk hj]; exact hu)
  exact ⟨b, o, e, hb, g 0 _ (by omega) rfl, g 1 _ (by omega) rfl⟩
end

/-- Block q holds n elements, and may be written. -/
def DRow (W : World) (q n : Nat) (f : Nat → Du) : Prop := q < W.heap.size ∧ (∀ k, k < n → ∀ j, j < 2 → W.cell? ⟨q, k * 2 + j, none⟩ = (f k).l[j]?) ∧ ∀ o, W.frozen? ⟨q, o, none⟩ = false
section
variable {W W' : World} {q n : Nat} {f g : Nat → Du}
theorem DRow.below {B : Nat} (h : DRow W q n f) (hb : Below B W W') (hg : q < B) : DRow W' q n f :=
  ⟨Nat.lt_of_lt_of_le h.1 hb.size, fun k hk j hj => (hb.cell (p := ⟨q, k * 2 + j, none⟩) hg).trans (h.2.1 k hk j hj), fun o => (hb.frozen (p := ⟨q, o, none⟩) hg).trans (h.2.2 o)⟩
theorem DRow.alloc (h : DRow W q n f) (o : Obj) : DRow (W.alloc o) q n f := h.below (W' := W.alloc o) ((Below.refl W.heap.size W).alloc (Nat.le_refl _) o) h.1
theorem DRow.drew (h : DRow W q n f) : DRow W.drew q n f := h
theorem DRow.drewN (h : DRow W q n f) (k : Nat) : DRow (W.drewN k) q n f := h
theorem DRow.congr (h : DRow W q n f) (e : ∀ k, k < n → f k = g k) : DRow W q n g :=
  ⟨h.1, fun k hk j hj => by rw [h.2.1 k hk j hj, e k hk], h.2.2⟩
theorem DRow.other (h : DRow W q n f) {p : Addr} (hp : p.block ≠ q) (v : Value) : DRow (W.setCell p v) q n f :=
  ⟨by simpa using h.1, fun k hk j hj => (World.cell?_setCell_other W p _ v (fun e => hp (by rw [e]))).trans (h.2.1 k hk j hj), fun o => by rw [World.frozen?_setCell]; exact h.2.2 o⟩
theorem DRow.at_ (h : DRow W q n f) {k : Nat} (hk : k < n) : W.cell? ⟨q, k * 2, none⟩ = some (.int .i64 (f k).dl) ∧ W.cell? ⟨q, k * 2 + 1, none⟩ = some (.int .i64 (f k).id) ∧ W.frozen? ⟨q, k * 2, none⟩ = false ∧ W.frozen? ⟨q, k * 2 + 1, none⟩ = false ∧ q < W.heap.size :=
  ⟨h.2.1 k hk 0 (by omega), h.2.1 k hk 1 (by omega), h.2.2 _, h.2.2 _, h.1⟩
/-- An element is stored. -/
theorem DRow.put (h : DRow W q n f) {k : Nat} (hk : k < n) (d : Du) : DRow ((W.setCell ⟨q, k * 2, none⟩ (.int .i64 d.dl)).setCell ⟨q, k * 2 + 1, none⟩ (.int .i64 d.id)) q n (fun i => if i = k then d else f i) := by
  have h0 := h.2.1 k hk 0 (by omega)
  have h1 := h.2.1 k hk 1 (by omega)
  refine ⟨by simpa using h.1, fun i hi j hj => ?_, fun o => by rw [World.frozen?_setCell, World.frozen?_setCell]; exact h.2.2 o⟩
  have e1 : (W.setCell ⟨q, k * 2, none⟩ (.int .i64 d.dl)).cell? ⟨q, k * 2 + 1, none⟩ = W.cell? ⟨q, k * 2 + 1, none⟩ := World.cell?_setCell_other W _ _ _ (fun e => by injection e; omega)
  by_cases e : i = k
  · subst e
    simp only [if_true]
    match j, hj with
    | 0, _ => exact (World.cell?_setCell_other _ _ _ _ (fun e => by injection e; omega)).trans (World.cell?_setCell_same' W _ _ (by rw [show (⟨q, i * 2, none⟩ : Addr) = ⟨q, i * 2 + 0, none⟩ from rfl, h0]; rfl))
    | 1, _ => exact World.cell?_setCell_same' _ _ _ (by rw [e1, h1]; rfl)
  · simp only [if_neg e]
    rw [← h.2.1 i hi j hj]
    exact (World.cell?_setCell_other _ _ _ _ (fun e' => by injection e' with _ e2; omega)).trans (World.cell?_setCell_other W _ _ _ (fun e' => by injection e' with _ e2; omega))
theorem DRow.dl (h : DRow W q n f) (x cap : Nat) (hx : x ≤ n) (hc : x ≤ cap) (hm : cap ≤ maxLen) : Dl W W.heap.size (.slice (some ⟨q, 0, none⟩) x cap) ((List.range x).map f) := by
  have hl : ((List.range x).map f).length = x := by simp
  refine ⟨_, cap, by rw [hl], by rw [hl]; exact hc, hm, by rw [dcs_len, hl], fun _ => ⟨q, 0, rfl, h.1, fun i u hu => ?_⟩⟩
  have hi : i < x * 2 := by have := (List.getElem?_eq_some_iff.1 hu).1; rw [dcs_len, hl] at this; exact this
  have e : i = i / 2 * 2 + i % 2 := by omega
  have hlt : i / 2 < x := by omega
  rw [e] at hu ⊢
  rw [dcs_at _ _ _ (by rw [hl]; exact hlt) (by omega)] at hu
  rw [Nat.zero_add, h.2.1 _ (by omega) _ (by omega), ← hu]
  simp
end
/-- A row that the call owns may be written. -/
theorem DRow.of_own {W : World} {base q n cap : Nat} {e : TypeId} {l : List Du} (h : W.ownsRow base e 2 (.slice (some ⟨q, 0, none⟩) n cap) n (dcs l)) : DRow W q n (fun i => l.getD i zD) := by
  have hl : n = l.length := by have := h.1; rw [dcs_len] at this; omega
  refine ⟨(h.lt q rfl).2, fun k hk j hj => ?_, fun o => h.frozenAt o⟩
  rw [h.cellAt _ (by omega), dcs_at l k j (by omega) hj]
  simp [List.getD, show k < l.length by omega]
end Go.Proofs.Ytijpflljopckiaa
namespace Go.Proofs.Ytijpflljopckiaa
open Go.RowKit
set_option linter.unusedVariables false

/-- The four cells of two elements in boxes. -/
abbrev D4 (W : World) (p q : Nat) (a b : Du) : Prop := W.cell? ⟨p, 0, none⟩ = some (.int .i64 a.dl) ∧ W.cell? ⟨p, 1, none⟩ = some (.int .i64 a.id) ∧ W.cell? ⟨q, 0, none⟩ = some (.int .i64 b.dl) ∧ W.cell? ⟨q, 1, none⟩ = some (.int .i64 b.id)
theorem D4.below {B : Nat} {W W' : World} {p q : Nat} {a b : Du} (h : D4 W p q a b) (hb : Below B W W') (hp : p < B) (hq : q < B) : D4 W' p q a b :=
  ⟨(hb.cell (p := ⟨p, 0, none⟩) hp).trans h.1, (hb.cell (p := ⟨p, 1, none⟩) hp).trans h.2.1, (hb.cell (p := ⟨q, 0, none⟩) hq).trans h.2.2.1, (hb.cell (p := ⟨q, 1, none⟩) hq).trans h.2.2.2⟩
theorem D4.start (w : World) (a b : Du) (t : TypeId) : D4 ((w.alloc (.cells #[.int .i64 a.dl, .int .i64 a.id] t)).alloc (.cells #[.int .i64 b.dl, .int .i64 b.id] t)) w.heap.size (w.heap.size + 1) a b := by
  refine ⟨?_, ?_, ?_, ?_⟩
  · rw [World.cell?_alloc_lt _ _ _ (by simp), World.cell?_alloc_new]; rfl
  · rw [World.cell?_alloc_lt _ _ _ (by simp), World.cell?_alloc_new]; rfl
  · have := World.cell?_alloc_new (w.alloc (.cells #[.int .i64 a.dl, .int .i64 a.id] t)) #[.int .i64 b.dl, .int .i64 b.id] t 0
    rw [World.size_alloc] at this
    rw [this]; rfl
  · have := World.cell?_alloc_new (w.alloc (.cells #[.int .i64 a.dl, .int .i64 a.id] t)) #[.int .i64 b.dl, .int .i64 b.id] t 1
    rw [World.size_alloc] at this
    rw [this]; rfl
end Go.Proofs.Ytijpflljopckiaa
namespace Go.Proofs.Ytijpflljopckiaa
open Go.RowKit
set_option linter.unusedVariables false

section
variable {w : World} {B : Nat} {A : Option Addr} {n c : Nat} {l : List Du}
/-- The element at place k, and where it lies. -/
theorem Dl.atg {k : Nat} (h : Dl w B (.slice A n c) l) (hk : k < l.length) : ∃ b o, A = some ⟨b, o, none⟩ ∧ b < B ∧ w.cell? ⟨b, o + k * 2, none⟩ = some (.int .i64 (ge l k).dl) ∧ w.cell? ⟨b, o + k * 2 + 1, none⟩ = some (.int .i64 (ge l k).id) := by
  obtain ⟨b, o, e, hb, c0, c1⟩ := h.at_ hk
  rw [ge_get hk] at c0 c1
  exact ⟨b, o, e, hb, c0, c1⟩
end

end Go.Proofs.Ytijpflljopckiaa
