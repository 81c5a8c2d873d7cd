/- What is proved here: the cell of a byte in this program. -/
import Derived.Test.YtjiampelmiaflaaRows
import Derived.Test.YtjiampelmiaflaaMem
import Derived.WalkKit
import Derived.Outline
import Derived.IntWalk
namespace Go.Proofs.Ytjiampelmiaflaa
open Go.RowKit
set_option linter.unusedVariables false

theorem info_u8 : (Try.prog.info? 5).map (fun i => (i.zero, i.size, i.bytes)) = some (some (.int .u8 0), 1, 1) := by kernel_rfl
end Go.Proofs.Ytjiampelmiaflaa
