/- What is proved here: due.pushError and due.Push by contracts; due.Push by a contract; due.without by a contract; what a pop and a removal return: their posts, the box of an element. -/
import Derived.Test.YtommkhjgockpfaaJ12
import Derived.Deep.CutRange
import Derived.Deep.QuietTactic
import Derived.BigQuiet
import Derived.Deep.DeepCutAuto
import Derived.Test.YtommkhjgockpfaaJ03
import Derived.Deep.AppendLies
import Derived.BigFrame
namespace Go.Proofs.Ytommkhjgockpfaa
open Go.RowKit
set_option linter.unusedVariables false

/-- The two cells of an element in a box. -/
abbrev D2 (W : World) (p : Nat) (d : Du) : Prop := W.cell? ⟨p, 0, none⟩ = some (.int .i64 d.dl) ∧ W.cell? ⟨p, 1, none⟩ = some (.int .i64 d.id)
theorem D2.below {B : Nat} {W W' : World} {p : Nat} {d : Du} (h : D2 W p d) (hb : Below B W W') (hp : p < B) : D2 W' p d :=
  ⟨(hb.cell (p := ⟨p, 0, none⟩) hp).trans h.1, (hb.cell (p := ⟨p, 1, none⟩) hp).trans h.2⟩
theorem D2.start (w : World) (d : Du) (t : TypeId) : D2 (w.alloc (.cells #[.int .i64 d.dl, .int .i64 d.id] t)) w.heap.size d := by
  refine ⟨?_, ?_⟩ <;> (rw [World.cell?_alloc_new]; rfl)

end Go.Proofs.Ytommkhjgockpfaa
namespace Go.Proofs.Ytommkhjgockpfaa
open Go.RowKit
set_option linter.unusedVariables false

theorem D2.grown {W W' : World} {p base n : Nat} {d : Du} {v : Value} {xs : List Value} (h : D2 W p d) (ho : W.ownsRow base 132 2 v n xs) (hp : p < base) (hb : base ≤ W.heap.size) (hg : W.grownBy W' v.ownBlock) : D2 W' p d := by
  have hne : some p ≠ v.ownBlock := fun e => by have := (ho.lt p e.symm).1; omega
  exact ⟨(hg.cell_far ⟨p, 0, none⟩ (by show p < _; omega) hne).trans h.1, (hg.cell_far ⟨p, 1, none⟩ (by show p < _; omega) hne).trans h.2⟩
end Go.Proofs.Ytommkhjgockpfaa
namespace Go.Proofs.Ytommkhjgockpfaa
open Go.RowKit
set_option linter.unusedVariables false

/-- A heap as a result: it is new. -/
def DlV (w : World) (l : List Du) (e : Ending) (w' : World) : Prop := ∃ A c, e = .returned (.slice A l.length c) ∧ Nw w.heap.size A ∧ Dl w' w'.heap.size (.slice A l.length c) l ∧ Below w.heap.size w w'
theorem RwAt.put {w W : World} {q n i : Nat} {h : List Du} (r : RwAt w q n h W) (hi : i < n) (d : Du) : RwAt w q n (h.set i d) ((W.setCell ⟨q, i * 2, none⟩ (.int .i64 d.dl)).setCell ⟨q, i * 2 + 1, none⟩ (.int .i64 d.id)) :=
  ⟨(r.row.put hi d).congr fun t ht => by rw [ge_set _ _ _ _ (by rw [r.len]; exact hi)], by rw [List.length_set]; exact r.len, (r.bel.setCell (p := ⟨q, i * 2, none⟩) (Nat.le_refl _) _).setCell (p := ⟨q, i * 2 + 1, none⟩) (Nat.le_refl _) _⟩
end Go.Proofs.Ytommkhjgockpfaa
namespace Go.Proofs.Ytommkhjgockpfaa
open Go.RowKit
set_option linter.unusedVariables false


/-- A store before a list of elements leaves it. -/
theorem Dl.off {W : World} {B lo n c : Nat} {A : Option Addr} {l : List Du} (h : Dl W B (.slice A n c) l) (hA : Nw lo A) {p : Addr} (hp : p.block < lo) (v : Value) : Dl (W.setCell p v) B (.slice A n c) l := by
  obtain ⟨A', c', e, hl, hm, hr⟩ := h
  injection e with e1 e2 e3
  subst e1; subst e3
  refine ⟨A, c, by rw [e2], hl, hm, hr.1, fun h0 => ?_⟩
  obtain ⟨b, o, e, hb, hc⟩ := hr.2 h0
  have hlo := hA _ e
  exact ⟨b, o, e, hb, fun j u hu => (World.cell?_setCell_other W _ _ v (fun e' => by have e2 := congrArg Addr.block e'; simp at e2 hlo; omega)).trans (hc j u hu)⟩
/-- A box of an element that may be written. -/
abbrev D2F (W : World) (p : Nat) (d : Du) : Prop := W.cell? ⟨p, 0, none⟩ = some (.int .i64 d.dl) ∧ W.cell? ⟨p, 1, none⟩ = some (.int .i64 d.id) ∧ W.frozen? ⟨p, 0, none⟩ = false ∧ W.frozen? ⟨p, 1, none⟩ = false ∧ p < W.heap.size
theorem D2F.below {B : Nat} {W W' : World} {p : Nat} {d : Du} (h : D2F W p d) (hb : Below B W W') (hp : p < B) : D2F W' p d :=
  ⟨(hb.cell (p := ⟨p, 0, none⟩) hp).trans h.1, (hb.cell (p := ⟨p, 1, none⟩) hp).trans h.2.1, (hb.frozen (p := ⟨p, 0, none⟩) hp).trans h.2.2.1, (hb.frozen (p := ⟨p, 1, none⟩) hp).trans h.2.2.2.1, Nat.lt_of_lt_of_le h.2.2.2.2 hb.size⟩
theorem D2F.start (w : World) (d : Du) (t : TypeId) : D2F (w.alloc (.cells #[.int .i64 d.dl, .int .i64 d.id] t)) w.heap.size d := by
  have h := D2.start w d t
  exact ⟨h.1, h.2, by simp [go_sem], by simp [go_sem], by simp⟩

end Go.Proofs.Ytommkhjgockpfaa
