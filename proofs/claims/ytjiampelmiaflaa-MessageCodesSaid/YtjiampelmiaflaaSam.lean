/- What is proved here: shardqueueref01.Same tells whether two byte slices hold the same bytes. -/
import Derived.Test.YtjiampelmiaflaaRows
import Derived.Test.YtjiampelmiaflaaMem
import Derived.WalkKit
import Derived.Outline
namespace Go.Proofs.Ytjiampelmiaflaa
open Go.RowKit
set_option linter.unusedVariables false

theorem same_any (v0 v1 : Value) (b0 b1 : List UInt8) (w : World) (h0 : Bs w w.heap.size v0 b0) (h1 : Bs w w.heap.size v1 b1) :
    Calls Try.prog 31 #[v0, v1] w fun e w' => e = .returned (.bool (b0 == b1)) ∧ w = w' := by
  have c0 := run_convert_bs (P := Try.prog) w 41 5 9 Try.underlying41 Try.underlying5 Try.underlying9 h0
  have c1 := run_convert_bs (P := Try.prog) w 41 5 9 Try.underlying41 Try.underlying5 Try.underlying9 h1
  clear h0 h1
  go_enter Try.func31, Try.ntmps31
  go_wp2
  go_ret
  exact ⟨rfl, rfl⟩
end Go.Proofs.Ytjiampelmiaflaa
