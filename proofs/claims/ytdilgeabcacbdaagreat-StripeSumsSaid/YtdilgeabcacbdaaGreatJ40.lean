/- What is proved here: slices.insertionSortCmpFunc of deadlines sorts a row; math/bits.Len of a small number returns some number; slices.SortFunc of at most twelve deadlines sorts a row; slices.Values of deadlines gives its elements in order to whatever loop; slices.Collect collects them. -/
import Derived.Test.YtdilgeabcacbdaaGreatJ15
import Derived.Test.YtdilgeabcacbdaaGreatJ01
import Derived.RangeFuncNested
import Derived.RangeFuncBound
import Derived.RangeFuncCalls
import Derived.RangeFuncLeaves
import Derived.RangeFuncBox
import Derived.Shelf.Abstract
import Derived.Shelf.RegionOpen
import Derived.WalkKit
import Derived.OwnWalkIn
import Derived.TacticsInMore
import Derived.LoopNIn
import Derived.LoopIn
import Derived.Maps.AppendAt
namespace Go.Proofs.YtdilgeabcacbdaaGreat
open Go.RowKit
set_option linter.unusedVariables false

end Go.Proofs.YtdilgeabcacbdaaGreat
namespace Go.Proofs.YtdilgeabcacbdaaGreat
open Go.RowKit
set_option linter.unusedVariables false

end Go.Proofs.YtdilgeabcacbdaaGreat
namespace Go.Proofs.YtdilgeabcacbdaaGreat
open Go.RowKit
set_option linter.unusedVariables false

end Go.Proofs.YtdilgeabcacbdaaGreat
namespace Go.Proofs.YtdilgeabcacbdaaGreat
open Go.RowKit Go.Shelf
set_option linter.unusedVariables false
attribute [local go_sem] Oper.semAt_some

/-- Block B is the box of an element. -/
def Bx2 (W : World) (B : Nat) (d : Du) : Prop := W.heap[B]? = some (.cells #[.int .i64 d.dl, .int .i64 d.id] 88 (0, 0))
theorem Bx2.new (W : World) (d : Du) : Bx2 (W.alloc (.cells #[.int .i64 d.dl, .int .i64 d.id] 88)) W.heap.size d := World.alloc_heap_new W _
theorem Bx2.cells {W : World} {B : Nat} {d : Du} (h : Bx2 W B d) : W.cell? ⟨B, 0, none⟩ = some (.int .i64 d.dl) ∧ W.cell? ⟨B, 1, none⟩ = some (.int .i64 d.id) := by
  constructor <;> simp [World.cell?, show W.heap[B]? = _ from h]

end Go.Proofs.YtdilgeabcacbdaaGreat
