/- What is proved here: More of the statements' base. -/
import Derived.Test.YtommkhjgockpfaaJ13
namespace Go.Proofs.Ytommkhjgockpfaa
open Go.RowKit
set_option linter.unusedVariables false

/-- A yes or no of a source. -/
def SrBool (B g : Nat) (w : World) (e : Ending) (w' : World) : Prop := ∃ b : Bool, e = .returned (.bool b) ∧ SrcAt w' B g ∧ w.grownBy w' (some g)
set_option maxHeartbeats 2000000 in
theorem more_any (B g : Nat) (w : World) (h : SrcAt w B g) : Calls Try.prog 17 #[.pointer (some ⟨g, 0, none⟩)] w (SrBool B g w) := by
  have H := Lib.hid h
  obtain ⟨hB, hg, A, n, c, k, zs, a1, a2, a3, a4, a5, a6, a7, a8, a9⟩ := h
  have HK := Lib.hid (show ∀ b : Bool, decide ((k : Int) < (n : Int)) = b → True from fun _ _ => trivial)
  clear hB hg a2 a3 a4 a8 a9
  go_enter Try.func17, Try.ntmps17
  go_wp2
  go_quiet (fail)
  go_wp2
  go_ret
  exact ⟨_, rfl, H.out.drewN _, only_drewN (World.grownBy.refl _ _) _⟩
end Go.Proofs.Ytommkhjgockpfaa
