/- What is proved here: due.pushError and due.Push by contracts; due.Push by a contract; due.without by a contract. -/
import Derived.Test.YtdilgeabcacbdaaJ20
import Derived.Test.YtdilgeabcacbdaaJ04
import Derived.Deep.AppendLies
import Derived.BigFrame
namespace Go.Proofs.Ytdilgeabcacbdaa
open Go.RowKit
set_option linter.unusedVariables false

/-- The two cells of an element in a box. -/
abbrev D2 (W : World) (p : Nat) (d : Du) : Prop := W.cell? ⟨p, 0, none⟩ = some (.int .i64 d.dl) ∧ W.cell? ⟨p, 1, none⟩ = some (.int .i64 d.id)
theorem D2.below {B : Nat} {W W' : World} {p : Nat} {d : Du} (h : D2 W p d) (hb : Below B W W') (hp : p < B) : D2 W' p d :=
  ⟨(hb.cell (p := ⟨p, 0, none⟩) hp).trans h.1, (hb.cell (p := ⟨p, 1, none⟩) hp).trans h.2⟩
theorem D2.start (w : World) (d : Du) (t : TypeId) : D2 (w.alloc (.cells #[.int .i64 d.dl, .int .i64 d.id] t)) w.heap.size d := by
  refine ⟨?_, ?_⟩ <;> (rw [World.cell?_alloc_new]; rfl)

end Go.Proofs.Ytdilgeabcacbdaa
namespace Go.Proofs.Ytdilgeabcacbdaa
open Go.RowKit
set_option linter.unusedVariables false

theorem D2.grown {W W' : World} {p base n : Nat} {d : Du} {v : Value} {xs : List Value} (h : D2 W p d) (ho : W.ownsRow base 118 2 v n xs) (hp : p < base) (hb : base ≤ W.heap.size) (hg : W.grownBy W' v.ownBlock) : D2 W' p d := by
  have hne : some p ≠ v.ownBlock := fun e => by have := (ho.lt p e.symm).1; omega
  exact ⟨(hg.cell_far ⟨p, 0, none⟩ (by show p < _; omega) hne).trans h.1, (hg.cell_far ⟨p, 1, none⟩ (by show p < _; omega) hne).trans h.2⟩
end Go.Proofs.Ytdilgeabcacbdaa
namespace Go.Proofs.Ytdilgeabcacbdaa
open Go.RowKit
set_option linter.unusedVariables false

theorem RwAt.put {w W : World} {q n i : Nat} {h : List Du} (r : RwAt w q n h W) (hi : i < n) (d : Du) : RwAt w q n (h.set i d) ((W.setCell ⟨q, i * 2, none⟩ (.int .i64 d.dl)).setCell ⟨q, i * 2 + 1, none⟩ (.int .i64 d.id)) :=
  ⟨(r.row.put hi d).congr fun t ht => by rw [ge_set _ _ _ _ (by rw [r.len]; exact hi)], by rw [List.length_set]; exact r.len, (r.bel.setCell (p := ⟨q, i * 2, none⟩) (Nat.le_refl _) _).setCell (p := ⟨q, i * 2 + 1, none⟩) (Nat.le_refl _) _⟩
end Go.Proofs.Ytdilgeabcacbdaa
