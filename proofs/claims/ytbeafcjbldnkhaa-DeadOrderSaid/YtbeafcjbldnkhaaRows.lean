/-
  No cell of these rows narrows 'for every input' (looked for: loops, veiled, ifaces, maps, wideKeys, modest, calm, conditions, laid).
  DERIVED. THE GIVEN ROWS OF THIS SEAT. 4 by the template 'for every input the law returns true; each argument reads behind the call as it read before'; 0 by the template 'total and deterministic' (their statements: YtbeafcjbldnkhaaTotals.lean).
  GIVEN WITH THE SEED: the statements are not yours to turn. If you find one false, say at which input.
  Laid BY PROGRAM, IN A SANDBOX (cutbox-rows.mjs): the forced cells as the released guide's own fill.sh prints them over the translation e3d5f30fff5c3e24… (all of the seat's roots in one cut). By AI agents, Wed Nov 11 2026. No macro, syntax, notation, axiom, sorry.
-/
import Derived.Test.YtbeafcjbldnkhaaChecked
import GoSem.Claim
import GoSem.ClaimJoined
import GoSem.ClaimMapViews
import Derived.JoinedTies
import Derived.KernelRfl
namespace Go.Proofs.Ytbeafcjbldnkhaa
/- THE CELL 'sum', in the pinned program and in every row, IS THE sha256 OF THE DUMP (.gsa) THAT YtbeafcjbldnkhaaProg.lean LOADS. Nothing in Lean hashes anything: it is a label: what it is worth is what the hold of that sum in a sandbox is worth. -/
noncomputable def Try.pinned : Pinned := { name := "ytbeafcjbldnkhaa", sum := "e3d5f30fff5c3e24644e2d735a689449c47a52524b30001dc10ff76676cf9c43", checked := Try.checked }
namespace Rows
def none {H : Type} : Left H := { results := [], args := [] }

/-- 'shardqueuelaw08.DeadRaw': WHATEVER THE INPUT: true; the input reads as it did. -/
def deadRawSpec : ChangeSpec := { name := "deadRaw", fn := fun _ => fun
  | [d1, d2, d3, d4] => { results := [.lit (.bool true)], args := [d1, d2, d3, d4] }
  | _ => none }
def deadRawRow : OpenClaim := { program := "ytbeafcjbldnkhaa", sum := "e3d5f30fff5c3e24644e2d735a689449c47a52524b30001dc10ff76676cf9c43", func := "shardqueue/shardqueuelaw08.DeadRaw", spec := "deadRaw", unfollowed := true, recurses := true, apart := false }
def DeadRawSaid : Prop := deadRawRow.holds Try.pinned (OpenSpec.ofChange deadRawSpec)

/-- ITS FALSE NEIGHBOUR: 'it returns false'. Refute it at one input. -/
def deadRawWrong : ChangeSpec := { name := "deadRaw", fn := fun _ => fun
  | [d1, d2, d3, d4] => { results := [.lit (.bool false)], args := [d1, d2, d3, d4] }
  | _ => none }
def DeadRawWrongFalsely : Prop := deadRawRow.holds Try.pinned (OpenSpec.ofChange deadRawWrong)

/-- 'shardqueuelaw08.DeadBuilt': WHATEVER THE INPUT: true; the input reads as it did. -/
def deadBuiltSpec : ChangeSpec := { name := "deadBuilt", fn := fun _ => fun
  | [d] => { results := [.lit (.bool true)], args := [d] }
  | _ => none }
def deadBuiltRow : OpenClaim := { program := "ytbeafcjbldnkhaa", sum := "e3d5f30fff5c3e24644e2d735a689449c47a52524b30001dc10ff76676cf9c43", func := "shardqueue/shardqueuelaw08.DeadBuilt", spec := "deadBuilt", unfollowed := true, recurses := true, apart := false }
def DeadBuiltSaid : Prop := deadBuiltRow.holds Try.pinned (OpenSpec.ofChange deadBuiltSpec)

/-- ITS FALSE NEIGHBOUR: 'it returns false'. Refute it at one input. -/
def deadBuiltWrong : ChangeSpec := { name := "deadBuilt", fn := fun _ => fun
  | [d] => { results := [.lit (.bool false)], args := [d] }
  | _ => none }
def DeadBuiltWrongFalsely : Prop := deadBuiltRow.holds Try.pinned (OpenSpec.ofChange deadBuiltWrong)

/-- 'shardqueuelaw08.DeadOrder': WHATEVER THE INPUT: true; the input reads as it did. -/
def deadOrderSpec : ChangeSpec := { name := "deadOrder", fn := fun _ => fun
  | [d] => { results := [.lit (.bool true)], args := [d] }
  | _ => none }
def deadOrderRow : OpenClaim := { program := "ytbeafcjbldnkhaa", sum := "e3d5f30fff5c3e24644e2d735a689449c47a52524b30001dc10ff76676cf9c43", func := "shardqueue/shardqueuelaw08.DeadOrder", spec := "deadOrder", unfollowed := true, recurses := true, apart := false }
def DeadOrderSaid : Prop := deadOrderRow.holds Try.pinned (OpenSpec.ofChange deadOrderSpec)

/-- ITS FALSE NEIGHBOUR: 'it returns false'. Refute it at one input. -/
def deadOrderWrong : ChangeSpec := { name := "deadOrder", fn := fun _ => fun
  | [d] => { results := [.lit (.bool false)], args := [d] }
  | _ => none }
def DeadOrderWrongFalsely : Prop := deadOrderRow.holds Try.pinned (OpenSpec.ofChange deadOrderWrong)

/-- 'shardqueuelaw08.DeadCleans': WHATEVER THE INPUT: true; the input reads as it did. -/
def deadCleansSpec : ChangeSpec := { name := "deadCleans", fn := fun _ => fun
  | [d1, d2] => { results := [.lit (.bool true)], args := [d1, d2] }
  | _ => none }
def deadCleansRow : OpenClaim := { program := "ytbeafcjbldnkhaa", sum := "e3d5f30fff5c3e24644e2d735a689449c47a52524b30001dc10ff76676cf9c43", func := "shardqueue/shardqueuelaw08.DeadCleans", spec := "deadCleans", unfollowed := true, recurses := true, apart := false }
def DeadCleansSaid : Prop := deadCleansRow.holds Try.pinned (OpenSpec.ofChange deadCleansSpec)

/-- ITS FALSE NEIGHBOUR: 'it returns false'. Refute it at one input. -/
def deadCleansWrong : ChangeSpec := { name := "deadCleans", fn := fun _ => fun
  | [d1, d2] => { results := [.lit (.bool false)], args := [d1, d2] }
  | _ => none }
def DeadCleansWrongFalsely : Prop := deadCleansRow.holds Try.pinned (OpenSpec.ofChange deadCleansWrong)

/- THE SECOND FORM. 'bulk': how many values and letters a reading holds, each counted each time it is reached (what is shared counts as often as it is met; a slice's spare places count too). A statement '..UptoSaid' is the law's where the arguments, and the package variables that the reading takes, are together of bulk at most 1048576: NARROWER than '..Said'. Prove '..Said' where nothing that the law and all that it calls make is longer than what came in: it says more and counts as full. Else prove '..UptoSaid'. A law counts once. -/
mutual
def uptoBulk {H : Type} : DataW H → Nat
  | .lit (.string bytes) => bytes.length + 1
  | .lit _ => 1
  | .nil => 1
  | .ptr d => uptoBulk d + 1
  | .slice elems spare => uptoBulkAll elems + uptoBulkAll spare + 1
  | .agg parts => uptoBulkAll parts + 1
  | .iface _ d => uptoBulk d + 1
  | .map entries => uptoBulkEntries entries + 1
  | .held _ => 1
def uptoBulkAll {H : Type} : List (DataW H) → Nat
  | [] => 0
  | d :: r => uptoBulk d + uptoBulkAll r
def uptoBulkEntries {H : Type} : List (Lit × DataW H) → Nat
  | [] => 0
  | x :: r => uptoBulkEntry x + uptoBulkEntries r
def uptoBulkEntry {H : Type} : Lit × DataW H → Nat
  | (.string bytes, d) => bytes.length + uptoBulk d + 1
  | (_, d) => uptoBulk d + 1
 end
def uptoSmall : (H : Type) → List (DataW H) → Bool := fun _ ds => decide (uptoBulkAll ds ≤ 1048576)
def OpenSpec.upto (s : _root_.Go.ChangeSpec) : _root_.Go.OpenSpec := { _root_.Go.OpenSpec.ofChange s with cond := some uptoSmall }

/-- 'shardqueuelaw08.DeadRaw', WHERE WHAT IT READS IS OF BULK AT MOST 1048576: true; the input reads as it did. -/
def deadRawUptoRow : OpenClaim := { program := "ytbeafcjbldnkhaa", sum := "e3d5f30fff5c3e24644e2d735a689449c47a52524b30001dc10ff76676cf9c43", func := "shardqueue/shardqueuelaw08.DeadRaw", spec := "deadRaw", unfollowed := true, recurses := true, apart := false, narrowed := true }
def DeadRawUptoSaid : Prop := deadRawUptoRow.holds Try.pinned (OpenSpec.upto deadRawSpec)

/-- 'shardqueuelaw08.DeadBuilt', WHERE WHAT IT READS IS OF BULK AT MOST 1048576: true; the input reads as it did. -/
def deadBuiltUptoRow : OpenClaim := { program := "ytbeafcjbldnkhaa", sum := "e3d5f30fff5c3e24644e2d735a689449c47a52524b30001dc10ff76676cf9c43", func := "shardqueue/shardqueuelaw08.DeadBuilt", spec := "deadBuilt", unfollowed := true, recurses := true, apart := false, narrowed := true }
def DeadBuiltUptoSaid : Prop := deadBuiltUptoRow.holds Try.pinned (OpenSpec.upto deadBuiltSpec)

/-- 'shardqueuelaw08.DeadOrder', WHERE WHAT IT READS IS OF BULK AT MOST 1048576: true; the input reads as it did. -/
def deadOrderUptoRow : OpenClaim := { program := "ytbeafcjbldnkhaa", sum := "e3d5f30fff5c3e24644e2d735a689449c47a52524b30001dc10ff76676cf9c43", func := "shardqueue/shardqueuelaw08.DeadOrder", spec := "deadOrder", unfollowed := true, recurses := true, apart := false, narrowed := true }
def DeadOrderUptoSaid : Prop := deadOrderUptoRow.holds Try.pinned (OpenSpec.upto deadOrderSpec)

/-- 'shardqueuelaw08.DeadCleans', WHERE WHAT IT READS IS OF BULK AT MOST 1048576: true; the input reads as it did. -/
def deadCleansUptoRow : OpenClaim := { program := "ytbeafcjbldnkhaa", sum := "e3d5f30fff5c3e24644e2d735a689449c47a52524b30001dc10ff76676cf9c43", func := "shardqueue/shardqueuelaw08.DeadCleans", spec := "deadCleans", unfollowed := true, recurses := true, apart := false, narrowed := true }
def DeadCleansUptoSaid : Prop := deadCleansUptoRow.holds Try.pinned (OpenSpec.upto deadCleansSpec)

end Rows
end Go.Proofs.Ytbeafcjbldnkhaa
