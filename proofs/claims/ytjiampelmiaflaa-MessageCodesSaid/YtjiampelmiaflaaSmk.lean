/- What is proved here: what stays of a message in a block while calls make memory behind it. -/
import Derived.Test.YtjiampelmiaflaaMsg
import Derived.Below
import Derived.Deep.RegionHeld3
import Derived.Deep.DrawnRows
namespace Go.Proofs.Ytjiampelmiaflaa
open Go.RowKit
set_option linter.unusedVariables false

abbrev SM (w : World) (g : Nat) (M : Msg) (W : World) : Prop :=
  W.cell? ⟨g, 0, none⟩ = some (.int .i64 M.id) ∧ W.cell? ⟨g, 1, none⟩ = some (.int .i64 M.rt) ∧ W.cell? ⟨g, 2, none⟩ = some (.int .i64 M.ep) ∧ W.cell? ⟨g, 3, none⟩ = some (.int .i64 M.ct) ∧ W.cell? ⟨g, 4, none⟩ = some (.int .i64 M.gn) ∧ W.cell? ⟨g, 5, none⟩ = some (.int .i64 M.st) ∧ W.cell? ⟨g, 6, none⟩ = some (.string M.bd) ∧ Hid (g < W.heap.size ∧ Below w.heap.size w W)
section
variable {w W W' : World} {g : Nat} {M : Msg}
theorem sm_keep (h : SM w g M W) (hb : Below W.heap.size W W') : SM w g M W' := by
  obtain ⟨h0, h1, h2, h3, h4, h5, h6, hg⟩ := h
  have hlt := hg.out.1
  exact ⟨(hb.cell (p := ⟨g, 0, none⟩) hlt).trans h0, (hb.cell (p := ⟨g, 1, none⟩) hlt).trans h1, (hb.cell (p := ⟨g, 2, none⟩) hlt).trans h2, (hb.cell (p := ⟨g, 3, none⟩) hlt).trans h3, (hb.cell (p := ⟨g, 4, none⟩) hlt).trans h4, (hb.cell (p := ⟨g, 5, none⟩) hlt).trans h5, (hb.cell (p := ⟨g, 6, none⟩) hlt).trans h6, Lib.hid ⟨Nat.lt_of_lt_of_le hlt hb.size, hg.out.2.trans (hb.mono hg.out.2.size)⟩⟩
theorem sm_bel (h : SM w g M W) : Below w.heap.size w W := h.2.2.2.2.2.2.2.out.2
theorem sm_drew (h : SM w g M W) : SM w g M W.drew := sm_keep h ((Below.refl _ _).drew)
theorem sm_alloc (h : SM w g M W) (o : Obj) : SM w g M (W.alloc o) := sm_keep h ((Below.refl _ _).alloc (Nat.le_refl _) o)
theorem sm_fresh (M : Msg) (w : World) (t : TypeId) : SM w w.heap.size M (w.alloc (.cells M.cs t)) :=
  ⟨by simp [go_sem], by simp [go_sem], by simp [go_sem], by simp [go_sem], by simp [go_sem], by simp [go_sem], by simp [go_sem], Lib.hid ⟨by simp, (Below.refl _ _).alloc (Nat.le_refl _) _⟩⟩
end
end Go.Proofs.Ytjiampelmiaflaa
