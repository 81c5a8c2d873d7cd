/- What is proved here: '==' and '!=' of a message and itself. -/
import Derived.Test.YtjiampelmiaflaaMsg
import Derived.Laws.StructEq
import Derived.KernelRfl
namespace Go.Proofs.Ytjiampelmiaflaa
open Go.RowKit
set_option linter.unusedVariables false

theorem eqm_in (M : Msg) (W : World) : (Op.equalIn 10000 23 M.v M.v).run Try.prog W = .ok true W := by
  have u3 := Try.underlying3
  have u9 := Try.underlying9
  have hS : Try.prog.underlying 23 = some (.struct (Try.prog.fieldsOf 23)) := by kernel_rfl
  have hp : Try.prog.stoodInHeld 23 = false := by kernel_rfl
  rw [show (10000 : Nat) = 9999 + 1 from rfl, run_equalIn_agg W 9999 23 _ _ hS hp]
  simp only [Program.fieldsOf, Try.underlying23]
  go_simp
theorem eqm (M : Msg) : ∀ W, (binOp .eql 23 M.v M.v).run Try.prog W = .ok (.bool true) W := fun W => by
  rw [run_eql_struct, eqm_in]; rfl
theorem neqm (M : Msg) : ∀ W, (binOp .neq 23 M.v M.v).run Try.prog W = .ok (.bool false) W := fun W => by
  rw [run_neq_struct, eqm_in]; rfl
theorem eqm_guard : Try.prog.eqGuardType Try.prog.depth 23 = false := by kernel_rfl
end Go.Proofs.Ytjiampelmiaflaa
