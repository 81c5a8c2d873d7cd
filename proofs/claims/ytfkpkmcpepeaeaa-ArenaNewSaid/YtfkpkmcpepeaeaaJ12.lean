/- What is proved here: due.siftUp by a contract; due.pushError and due.Push by contracts; due.Push by a contract; due.without by a contract. -/
import Derived.Test.YtfkpkmcpepeaeaaJ10
import Derived.BigRegion
import Derived.Test.YtfkpkmcpepeaeaaJ11
import Derived.Deep.CutRange
import Derived.Deep.QuietTactic
import Derived.BigQuiet
import Derived.Deep.DeepCutAuto
import Derived.Test.YtfkpkmcpepeaeaaJ02
import Derived.Deep.AppendLies
import Derived.BigFrame
namespace Go.Proofs.Ytfkpkmcpepeaeaa
open Go.RowKit
set_option linter.unusedVariables false

/-- A row of elements in a block that may be written, behind a walk that turned nothing before the block. -/
structure RwAt (w : World) (q n : Nat) (h : List Du) (W : World) : Prop where
  row : DRow W q n (ge h)
  len : h.length = n
  bel : Below q w W
section
variable {w W W' : World} {q n : Nat} {h : List Du}
theorem RwAt.below (r : RwAt w q n h W) (hb : Below W.heap.size W W') : RwAt w q n h W' := ⟨r.row.below hb r.row.1, r.len, r.bel.trans (hb.mono (Nat.le_of_lt r.row.1))⟩
theorem RwAt.drew (r : RwAt w q n h W) : RwAt w q n h W.drew := ⟨r.row.drew, r.len, r.bel.drew⟩
theorem RwAt.drewN (r : RwAt w q n h W) (k : Nat) : RwAt w q n h (W.drewN k) := ⟨r.row, r.len, ⟨r.bel.os, r.bel.tape, r.bel.output, r.bel.size, r.bel.block⟩⟩
/-- Two elements are exchanged. -/
theorem RwAt.swap (r : RwAt w q n h W) {i k : Nat} (hi : i < n) (hk : k < n) : RwAt w q n (swp h i k) ((((W.setCell ⟨q, i * 2, none⟩ (.int .i64 (ge h k).dl)).setCell ⟨q, i * 2 + 1, none⟩ (.int .i64 (ge h k).id)).setCell ⟨q, k * 2, none⟩ (.int .i64 (ge h i).dl)).setCell ⟨q, k * 2 + 1, none⟩ (.int .i64 (ge h i).id)) := by
  refine ⟨((r.row.put hi (ge h k)).put hk (ge h i)).congr fun t ht => ?_, by rw [swp_len]; exact r.len, (((r.bel.setCell (p := ⟨q, i * 2, none⟩) (Nat.le_refl _) _).setCell (p := ⟨q, i * 2 + 1, none⟩) (Nat.le_refl _) _).setCell (p := ⟨q, k * 2, none⟩) (Nat.le_refl _) _).setCell (p := ⟨q, k * 2 + 1, none⟩) (Nat.le_refl _) _⟩
  rw [ge_swp (by rw [r.len]; exact hi) (by rw [r.len]; exact hk)]
end

end Go.Proofs.Ytfkpkmcpepeaeaa
namespace Go.Proofs.Ytfkpkmcpepeaeaa
open Go.RowKit
set_option linter.unusedVariables false

/-- The two cells of an element in a box. -/
abbrev D2 (W : World) (p : Nat) (d : Du) : Prop := W.cell? ⟨p, 0, none⟩ = some (.int .i64 d.dl) ∧ W.cell? ⟨p, 1, none⟩ = some (.int .i64 d.id)
theorem D2.below {B : Nat} {W W' : World} {p : Nat} {d : Du} (h : D2 W p d) (hb : Below B W W') (hp : p < B) : D2 W' p d :=
  ⟨(hb.cell (p := ⟨p, 0, none⟩) hp).trans h.1, (hb.cell (p := ⟨p, 1, none⟩) hp).trans h.2⟩
theorem D2.start (w : World) (d : Du) (t : TypeId) : D2 (w.alloc (.cells #[.int .i64 d.dl, .int .i64 d.id] t)) w.heap.size d := by
  refine ⟨?_, ?_⟩ <;> (rw [World.cell?_alloc_new]; rfl)

end Go.Proofs.Ytfkpkmcpepeaeaa
namespace Go.Proofs.Ytfkpkmcpepeaeaa
open Go.RowKit
set_option linter.unusedVariables false

theorem D2.grown {W W' : World} {p base n : Nat} {d : Du} {v : Value} {xs : List Value} (h : D2 W p d) (ho : W.ownsRow base 152 2 v n xs) (hp : p < base) (hb : base ≤ W.heap.size) (hg : W.grownBy W' v.ownBlock) : D2 W' p d := by
  have hne : some p ≠ v.ownBlock := fun e => by have := (ho.lt p e.symm).1; omega
  exact ⟨(hg.cell_far ⟨p, 0, none⟩ (by show p < _; omega) hne).trans h.1, (hg.cell_far ⟨p, 1, none⟩ (by show p < _; omega) hne).trans h.2⟩
end Go.Proofs.Ytfkpkmcpepeaeaa
namespace Go.Proofs.Ytfkpkmcpepeaeaa
open Go.RowKit
set_option linter.unusedVariables false

/-- A heap as a result: it is new. -/
def DlV (w : World) (l : List Du) (e : Ending) (w' : World) : Prop := ∃ A c, e = .returned (.slice A l.length c) ∧ Nw w.heap.size A ∧ Dl w' w'.heap.size (.slice A l.length c) l ∧ Below w.heap.size w w'
theorem RwAt.put {w W : World} {q n i : Nat} {h : List Du} (r : RwAt w q n h W) (hi : i < n) (d : Du) : RwAt w q n (h.set i d) ((W.setCell ⟨q, i * 2, none⟩ (.int .i64 d.dl)).setCell ⟨q, i * 2 + 1, none⟩ (.int .i64 d.id)) :=
  ⟨(r.row.put hi d).congr fun t ht => by rw [ge_set _ _ _ _ (by rw [r.len]; exact hi)], by rw [List.length_set]; exact r.len, (r.bel.setCell (p := ⟨q, i * 2, none⟩) (Nat.le_refl _) _).setCell (p := ⟨q, i * 2 + 1, none⟩) (Nat.le_refl _) _⟩
end Go.Proofs.Ytfkpkmcpepeaeaa
