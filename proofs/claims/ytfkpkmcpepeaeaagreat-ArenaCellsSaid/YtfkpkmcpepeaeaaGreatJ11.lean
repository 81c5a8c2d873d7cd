/- What is proved here: due.within, due.parent, cmp.Compare, cmp.Or, due.compare, due.before, due.isOutOfRange by contracts; due.find and slices.ContainsFunc with due.isOutOfRange, by contracts; due.hasSameID, due.isOrdered, due.Validate by contracts; shardqueueref06.Validate by a contract. -/
import Derived.Test.YtfkpkmcpepeaeaaGreatJ08
import Derived.Test.YtfkpkmcpepeaeaaGreatJ10
import Derived.Test.YtfkpkmcpepeaeaaGreatRows
import Derived.Test.YtfkpkmcpepeaeaaGreatJ01
import Derived.WalkKit
import Derived.Outline
import Derived.IntWalk
import Derived.Deep.RegionHeld3
import Derived.Deep.DrawnRows
import Derived.Laws.Slices
import Derived.Deep.QuietTactic
import Derived.BigQuiet
namespace Go.Proofs.YtfkpkmcpepeaeaaGreat
open Go.RowKit
set_option linter.unusedVariables false

/-- The four cells of two elements in boxes. -/
abbrev D4 (W : World) (p q : Nat) (a b : Du) : Prop := W.cell? ⟨p, 0, none⟩ = some (.int .i64 a.dl) ∧ W.cell? ⟨p, 1, none⟩ = some (.int .i64 a.id) ∧ W.cell? ⟨q, 0, none⟩ = some (.int .i64 b.dl) ∧ W.cell? ⟨q, 1, none⟩ = some (.int .i64 b.id)
theorem D4.below {B : Nat} {W W' : World} {p q : Nat} {a b : Du} (h : D4 W p q a b) (hb : Below B W W') (hp : p < B) (hq : q < B) : D4 W' p q a b :=
  ⟨(hb.cell (p := ⟨p, 0, none⟩) hp).trans h.1, (hb.cell (p := ⟨p, 1, none⟩) hp).trans h.2.1, (hb.cell (p := ⟨q, 0, none⟩) hq).trans h.2.2.1, (hb.cell (p := ⟨q, 1, none⟩) hq).trans h.2.2.2⟩
theorem D4.start (w : World) (a b : Du) (t : TypeId) : D4 ((w.alloc (.cells #[.int .i64 a.dl, .int .i64 a.id] t)).alloc (.cells #[.int .i64 b.dl, .int .i64 b.id] t)) w.heap.size (w.heap.size + 1) a b := by
  refine ⟨?_, ?_, ?_, ?_⟩
  · rw [World.cell?_alloc_lt _ _ _ (by simp), World.cell?_alloc_new]; rfl
  · rw [World.cell?_alloc_lt _ _ _ (by simp), World.cell?_alloc_new]; rfl
  · have := World.cell?_alloc_new (w.alloc (.cells #[.int .i64 a.dl, .int .i64 a.id] t)) #[.int .i64 b.dl, .int .i64 b.id] t 0
    rw [World.size_alloc] at this
    rw [this]; rfl
  · have := World.cell?_alloc_new (w.alloc (.cells #[.int .i64 a.dl, .int .i64 a.id] t)) #[.int .i64 b.dl, .int .i64 b.id] t 1
    rw [World.size_alloc] at this
    rw [this]; rfl
end Go.Proofs.YtfkpkmcpepeaeaaGreat
namespace Go.Proofs.YtfkpkmcpepeaeaaGreat
open Go.RowKit
set_option linter.unusedVariables false

section
variable {w : World} {B : Nat} {A : Option Addr} {n c : Nat} {l : List Du}
/-- The element at place k, and where it lies. -/
theorem Dl.atg {k : Nat} (h : Dl w B (.slice A n c) l) (hk : k < l.length) : ∃ b o, A = some ⟨b, o, none⟩ ∧ b < B ∧ w.cell? ⟨b, o + k * 2, none⟩ = some (.int .i64 (ge l k).dl) ∧ w.cell? ⟨b, o + k * 2 + 1, none⟩ = some (.int .i64 (ge l k).id) := by
  obtain ⟨b, o, e, hb, c0, c1⟩ := h.at_ hk
  rw [ge_get hk] at c0 c1
  exact ⟨b, o, e, hb, c0, c1⟩
end

end Go.Proofs.YtfkpkmcpepeaeaaGreat
namespace Go.Proofs.YtfkpkmcpepeaeaaGreat
open Go.RowKit
set_option linter.unusedVariables false

section
variable {w : World} {B : Nat} {A : Option Addr} {n c : Nat} {l : List Du}
theorem Dl.upto (h : Dl w B (.slice A n c) l) (j : Nat) (hj : j ≤ n) : Dl w B (.slice A j c) (l.take j) := by
  obtain ⟨hn, hl, hm⟩ := h.len
  have hlen : (l.take j).length = j := by simp; omega
  refine ⟨A, c, by rw [hlen], by rw [hlen]; omega, hm, by rw [dcs_len], fun h0 => ?_⟩
  rw [hlen] at h0
  obtain ⟨b, o, rfl, hb, hc⟩ := h.rd.2 (by omega)
  refine ⟨b, o, rfl, hb, fun k u hu => hc k u ?_⟩
  rw [← dcs_take] at hu
  have hk : k < j * 2 := by
    have := (List.getElem?_eq_some_iff.1 hu).1
    simp at this; omega
  rw [← hu, List.getElem?_take_of_lt hk]
end
end Go.Proofs.YtfkpkmcpepeaeaaGreat
namespace Go.Proofs.YtfkpkmcpepeaeaaGreat
open Go.RowKit
set_option linter.unusedVariables false

theorem El.some_ {w : World} {B n c : Nat} {A : Option Addr} {l : List Le} (h : El w B (.slice A n c) l) (h0 : 0 < l.length) : ∃ b o, A = some ⟨b, o, none⟩ ∧ b < B := by
  obtain ⟨b, o, e, hb, _⟩ := h.at_ h0
  exact ⟨b, o, e, hb⟩
theorem El.c8 {w : World} {B n c b o : Nat} {l : List Le} (h : El w B (.slice (some ⟨b, o, none⟩) n c) l) {k : Nat} (hk : k < l.length) : C8 w b (o + k * 8) l[k] ∧ b < B := by
  obtain ⟨b', o', e, hb, h⟩ := h.at_ hk
  injection e with e
  injection e with e1 e2
  subst e1 e2
  exact ⟨h, hb⟩
theorem El.up {w w' : World} {v : Value} {l : List Le} (h : El w w.heap.size v l) (hb : Below w.heap.size w w') : El w' w'.heap.size v l := (h.below hb).more hb.size
/-- A table in a box, beside what was there. -/
structure VaA (w : World) (p : Nat) (A : Option Addr) (c : Nat) (l : List Le) (A2 : Option Addr) (c2 : Nat) (h : List Du) (W : World) : Prop where
  tb : TB W p A l.length c A2 h.length c2
  el : El W W.heap.size (.slice A l.length c) l
  dl : Dl W W.heap.size (.slice A2 h.length c2) h
  bel : Below w.heap.size w W
section
variable {w W W' : World} {p c c2 : Nat} {A A2 : Option Addr} {l : List Le} {h : List Du}
theorem VaA.below (k : VaA w p A c l A2 c2 h W) (hb : Below W.heap.size W W') : VaA w p A c l A2 c2 h W' :=
  ⟨k.tb.below hb k.tb.2.2, k.el.up hb, k.dl.up hb, k.bel.trans (hb.mono k.bel.size)⟩
theorem VaA.alloc (k : VaA w p A c l A2 c2 h W) (o : Obj) : VaA w p A c l A2 c2 h (W.alloc o) := k.below ((Below.refl W.heap.size W).alloc (Nat.le_refl _) o)
theorem VaA.start (t : TypeId) (hv : El w w.heap.size (.slice A l.length c) l) (hd : Dl w w.heap.size (.slice A2 h.length c2) h) : VaA w w.heap.size A c l A2 c2 h (w.alloc (.cells #[.slice A l.length c, .slice A2 h.length c2] t)) := by
  have hb := (Below.refl w.heap.size w).alloc (Nat.le_refl _) (.cells #[.slice A l.length c, .slice A2 h.length c2] t)
  exact ⟨TB.start w A l.length c A2 h.length c2 t, hv.up hb, hd.up hb, hb⟩
end
/-- What is read of a lease in its box. -/
abbrev XB (W : World) (q : Nat) (X : Le) : Prop := W.cell? ⟨q, 0, none⟩ = some (.int .i64 X.m.id) ∧ W.cell? ⟨q, 4, none⟩ = some (.int .i64 X.m.gn) ∧ W.cell? ⟨q, 7, none⟩ = some (.int .i64 X.dl) ∧ q < W.heap.size
theorem XB.start (w : World) (X : Le) (t : TypeId) : XB (w.alloc (.cells #[.int .i64 X.m.id, .int .i64 X.m.rt, .int .i64 X.m.ep, .int .i64 X.m.ct, .int .i64 X.m.gn, .int .i64 X.m.st, .string X.m.bd, .int .i64 X.dl] t)) w.heap.size X :=
  ⟨by simp [go_sem], by simp [go_sem], by simp [go_sem], by simp⟩
theorem XB.below {B : Nat} {W W' : World} {q : Nat} {X : Le} (h : XB W q X) (hb : Below B W W') (hq : q < B) : XB W' q X :=
  ⟨(hb.cell (p := ⟨q, 0, none⟩) hq).trans h.1, (hb.cell (p := ⟨q, 4, none⟩) hq).trans h.2.1, (hb.cell (p := ⟨q, 7, none⟩) hq).trans h.2.2.1, Nat.lt_of_lt_of_le h.2.2.2 hb.size⟩
theorem VaA.drewN {w W : World} {p c c2 : Nat} {A A2 : Option Addr} {l : List Le} {h : List Du} (k : VaA w p A c l A2 c2 h W) (n : Nat) : VaA w p A c l A2 c2 h (W.drewN n) := k.below (below_drewN (Below.refl _ _) n)

end Go.Proofs.YtfkpkmcpepeaeaaGreat
