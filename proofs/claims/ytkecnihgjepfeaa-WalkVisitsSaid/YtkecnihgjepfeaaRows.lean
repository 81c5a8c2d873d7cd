/-
  No cell of these rows narrows 'for every input' (looked for: loops, veiled, ifaces, maps, wideKeys, modest, calm, conditions, laid).
  DERIVED. THE GIVEN ROWS OF THIS SEAT. 3 by the template 'for every input the law returns true; each argument reads behind the call as it read before'; 0 by the template 'total and deterministic' (their statements: YtkecnihgjepfeaaTotals.lean).
  GIVEN WITH THE SEED: the statements are not yours to turn. If you find one false, say at which input.
  Laid BY PROGRAM, IN A SANDBOX (cutbox-rows.mjs): the forced cells as the released guide's own fill.sh prints them over the translation 546b92e2a8ff15fa… (all of the seat's roots in one cut). By AI agents, Wed Nov 11 2026. No macro, syntax, notation, axiom, sorry.
-/
import Derived.Test.YtkecnihgjepfeaaChecked
import GoSem.Claim
import GoSem.ClaimJoined
import GoSem.ClaimMapViews
import Derived.JoinedTies
import Derived.KernelRfl
namespace Go.Proofs.Ytkecnihgjepfeaa
/- THE CELL 'sum', in the pinned program and in every row, IS THE sha256 OF THE DUMP (.gsa) THAT YtkecnihgjepfeaaProg.lean LOADS. Nothing in Lean hashes anything: it is a label: what it is worth is what the hold of that sum in a sandbox is worth. -/
noncomputable def Try.pinned : Pinned := { name := "ytkecnihgjepfeaa", sum := "546b92e2a8ff15fadbff5ccb15bae8dde115d0a1e11fc8c273903cfd1f1724f2", checked := Try.checked }
namespace Rows
def none {H : Type} : Left H := { results := [], args := [] }

/-- 'shardqueuelaw16.WalkRaw': WHATEVER THE INPUT: true; the input reads as it did. -/
def walkRawSpec : ChangeSpec := { name := "walkRaw", fn := fun _ => fun
  | [d1, d2, d3, d4, d5] => { results := [.lit (.bool true)], args := [d1, d2, d3, d4, d5] }
  | _ => none }
def walkRawRow : OpenClaim := { program := "ytkecnihgjepfeaa", sum := "546b92e2a8ff15fadbff5ccb15bae8dde115d0a1e11fc8c273903cfd1f1724f2", func := "shardqueue/shardqueuelaw16.WalkRaw", spec := "walkRaw", apart := false }
def WalkRawSaid : Prop := walkRawRow.holds Try.pinned (OpenSpec.ofChange walkRawSpec)

/-- ITS FALSE NEIGHBOUR: 'it returns false'. Refute it at one input. -/
def walkRawWrong : ChangeSpec := { name := "walkRaw", fn := fun _ => fun
  | [d1, d2, d3, d4, d5] => { results := [.lit (.bool false)], args := [d1, d2, d3, d4, d5] }
  | _ => none }
def WalkRawWrongFalsely : Prop := walkRawRow.holds Try.pinned (OpenSpec.ofChange walkRawWrong)

/-- 'shardqueuelaw16.WalkVisits': WHATEVER THE INPUT: true; the input reads as it did. -/
def walkVisitsSpec : ChangeSpec := { name := "walkVisits", fn := fun _ => fun
  | [d1, d2] => { results := [.lit (.bool true)], args := [d1, d2] }
  | _ => none }
def walkVisitsRow : OpenClaim := { program := "ytkecnihgjepfeaa", sum := "546b92e2a8ff15fadbff5ccb15bae8dde115d0a1e11fc8c273903cfd1f1724f2", func := "shardqueue/shardqueuelaw16.WalkVisits", spec := "walkVisits", apart := false }
def WalkVisitsSaid : Prop := walkVisitsRow.holds Try.pinned (OpenSpec.ofChange walkVisitsSpec)

/-- ITS FALSE NEIGHBOUR: 'it returns false'. Refute it at one input. -/
def walkVisitsWrong : ChangeSpec := { name := "walkVisits", fn := fun _ => fun
  | [d1, d2] => { results := [.lit (.bool false)], args := [d1, d2] }
  | _ => none }
def WalkVisitsWrongFalsely : Prop := walkVisitsRow.holds Try.pinned (OpenSpec.ofChange walkVisitsWrong)

/-- 'shardqueuelaw16.WalkCovers': WHATEVER THE INPUT: true; the input reads as it did. -/
def walkCoversSpec : ChangeSpec := { name := "walkCovers", fn := fun _ => fun
  | [d1, d2] => { results := [.lit (.bool true)], args := [d1, d2] }
  | _ => none }
def walkCoversRow : OpenClaim := { program := "ytkecnihgjepfeaa", sum := "546b92e2a8ff15fadbff5ccb15bae8dde115d0a1e11fc8c273903cfd1f1724f2", func := "shardqueue/shardqueuelaw16.WalkCovers", spec := "walkCovers", apart := false }
def WalkCoversSaid : Prop := walkCoversRow.holds Try.pinned (OpenSpec.ofChange walkCoversSpec)

/-- ITS FALSE NEIGHBOUR: 'it returns false'. Refute it at one input. -/
def walkCoversWrong : ChangeSpec := { name := "walkCovers", fn := fun _ => fun
  | [d1, d2] => { results := [.lit (.bool false)], args := [d1, d2] }
  | _ => none }
def WalkCoversWrongFalsely : Prop := walkCoversRow.holds Try.pinned (OpenSpec.ofChange walkCoversWrong)

/- THE SECOND FORM. 'bulk': how many values and letters a reading holds, each counted each time it is reached (what is shared counts as often as it is met; a slice's spare places count too). A statement '..UptoSaid' is the law's where the arguments, and the package variables that the reading takes, are together of bulk at most 1048576: NARROWER than '..Said'. Prove '..Said' where nothing that the law and all that it calls make is longer than what came in: it says more and counts as full. Else prove '..UptoSaid'. A law counts once. -/
mutual
def uptoBulk {H : Type} : DataW H → Nat
  | .lit (.string bytes) => bytes.length + 1
  | .lit _ => 1
  | .nil => 1
  | .ptr d => uptoBulk d + 1
  | .slice elems spare => uptoBulkAll elems + uptoBulkAll spare + 1
  | .agg parts => uptoBulkAll parts + 1
  | .iface _ d => uptoBulk d + 1
  | .map entries => uptoBulkEntries entries + 1
  | .held _ => 1
def uptoBulkAll {H : Type} : List (DataW H) → Nat
  | [] => 0
  | d :: r => uptoBulk d + uptoBulkAll r
def uptoBulkEntries {H : Type} : List (Lit × DataW H) → Nat
  | [] => 0
  | x :: r => uptoBulkEntry x + uptoBulkEntries r
def uptoBulkEntry {H : Type} : Lit × DataW H → Nat
  | (.string bytes, d) => bytes.length + uptoBulk d + 1
  | (_, d) => uptoBulk d + 1
 end
def uptoSmall : (H : Type) → List (DataW H) → Bool := fun _ ds => decide (uptoBulkAll ds ≤ 1048576)
def OpenSpec.upto (s : _root_.Go.ChangeSpec) : _root_.Go.OpenSpec := { _root_.Go.OpenSpec.ofChange s with cond := some uptoSmall }

/-- 'shardqueuelaw16.WalkRaw', WHERE WHAT IT READS IS OF BULK AT MOST 1048576: true; the input reads as it did. -/
def walkRawUptoRow : OpenClaim := { program := "ytkecnihgjepfeaa", sum := "546b92e2a8ff15fadbff5ccb15bae8dde115d0a1e11fc8c273903cfd1f1724f2", func := "shardqueue/shardqueuelaw16.WalkRaw", spec := "walkRaw", apart := false, narrowed := true }
def WalkRawUptoSaid : Prop := walkRawUptoRow.holds Try.pinned (OpenSpec.upto walkRawSpec)

/-- 'shardqueuelaw16.WalkVisits', WHERE WHAT IT READS IS OF BULK AT MOST 1048576: true; the input reads as it did. -/
def walkVisitsUptoRow : OpenClaim := { program := "ytkecnihgjepfeaa", sum := "546b92e2a8ff15fadbff5ccb15bae8dde115d0a1e11fc8c273903cfd1f1724f2", func := "shardqueue/shardqueuelaw16.WalkVisits", spec := "walkVisits", apart := false, narrowed := true }
def WalkVisitsUptoSaid : Prop := walkVisitsUptoRow.holds Try.pinned (OpenSpec.upto walkVisitsSpec)

/-- 'shardqueuelaw16.WalkCovers', WHERE WHAT IT READS IS OF BULK AT MOST 1048576: true; the input reads as it did. -/
def walkCoversUptoRow : OpenClaim := { program := "ytkecnihgjepfeaa", sum := "546b92e2a8ff15fadbff5ccb15bae8dde115d0a1e11fc8c273903cfd1f1724f2", func := "shardqueue/shardqueuelaw16.WalkCovers", spec := "walkCovers", apart := false, narrowed := true }
def WalkCoversUptoSaid : Prop := walkCoversUptoRow.holds Try.pinned (OpenSpec.upto walkCoversSpec)

end Rows
end Go.Proofs.Ytkecnihgjepfeaa
