/-
  No cell of these rows narrows 'for every input' (looked for: loops, veiled, ifaces, maps, wideKeys, modest, calm, conditions, laid).
  DERIVED. THE GIVEN ROWS OF THIS SEAT. 4 by the template 'for every input the law returns true; each argument reads behind the call as it read before'; 0 by the template 'total and deterministic' (their statements: YtfkpkmcpepeaeaaTotals.lean).
  GIVEN WITH THE SEED: the statements are not yours to turn. If you find one false, say at which input.
  Laid BY PROGRAM, IN A SANDBOX (cutbox-rows.mjs): the forced cells as the released guide's own fill.sh prints them over the translation 814d541b18dadcb2… (all of the seat's roots in one cut). By AI agents, Wed Nov 11 2026. No macro, syntax, notation, axiom, sorry.
-/
import Derived.Test.YtfkpkmcpepeaeaaChecked
import GoSem.Claim
import GoSem.ClaimJoined
import GoSem.ClaimMapViews
import Derived.JoinedTies
import Derived.KernelRfl
namespace Go.Proofs.Ytfkpkmcpepeaeaa
/- THE CELL 'sum', in the pinned program and in every row, IS THE sha256 OF THE DUMP (.gsa) THAT YtfkpkmcpepeaeaaProg.lean LOADS. Nothing in Lean hashes anything: it is a label: what it is worth is what the hold of that sum in a sandbox is worth. -/
noncomputable def Try.pinned : Pinned := { name := "ytfkpkmcpepeaeaa", sum := "814d541b18dadcb2994628626010ff624c34468207a186361860a3142b55d3f6", checked := Try.checked }
namespace Rows
def none {H : Type} : Left H := { results := [], args := [] }

/-- 'shardqueuelaw10.DirectoryRaw': WHATEVER THE INPUT: true; the input reads as it did. -/
def directoryRawSpec : ChangeSpec := { name := "directoryRaw", fn := fun _ => fun
  | [d1, d2, d3, d4, d5, d6] => { results := [.lit (.bool true)], args := [d1, d2, d3, d4, d5, d6] }
  | _ => none }
def directoryRawRow : OpenClaim := { program := "ytfkpkmcpepeaeaa", sum := "814d541b18dadcb2994628626010ff624c34468207a186361860a3142b55d3f6", func := "shardqueue/shardqueuelaw10.DirectoryRaw", spec := "directoryRaw", inPlace := ["slices.overlaps[shardqueue/api.Span]"], unfollowed := true, recurses := true, apart := false }
def DirectoryRawSaid : Prop := directoryRawRow.holds Try.pinned (OpenSpec.ofChange directoryRawSpec)

/-- ITS FALSE NEIGHBOUR: 'it returns false'. Refute it at one input. -/
def directoryRawWrong : ChangeSpec := { name := "directoryRaw", fn := fun _ => fun
  | [d1, d2, d3, d4, d5, d6] => { results := [.lit (.bool false)], args := [d1, d2, d3, d4, d5, d6] }
  | _ => none }
def DirectoryRawWrongFalsely : Prop := directoryRawRow.holds Try.pinned (OpenSpec.ofChange directoryRawWrong)

/-- 'shardqueuelaw10.DirectoryBuilt': WHATEVER THE INPUT: true; the input reads as it did. -/
def directoryBuiltSpec : ChangeSpec := { name := "directoryBuilt", fn := fun _ => fun
  | [d] => { results := [.lit (.bool true)], args := [d] }
  | _ => none }
def directoryBuiltRow : OpenClaim := { program := "ytfkpkmcpepeaeaa", sum := "814d541b18dadcb2994628626010ff624c34468207a186361860a3142b55d3f6", func := "shardqueue/shardqueuelaw10.DirectoryBuilt", spec := "directoryBuilt", inPlace := ["slices.overlaps[shardqueue/api.Span]"], unfollowed := true, recurses := true, apart := false }
def DirectoryBuiltSaid : Prop := directoryBuiltRow.holds Try.pinned (OpenSpec.ofChange directoryBuiltSpec)

/-- ITS FALSE NEIGHBOUR: 'it returns false'. Refute it at one input. -/
def directoryBuiltWrong : ChangeSpec := { name := "directoryBuilt", fn := fun _ => fun
  | [d] => { results := [.lit (.bool false)], args := [d] }
  | _ => none }
def DirectoryBuiltWrongFalsely : Prop := directoryBuiltRow.holds Try.pinned (OpenSpec.ofChange directoryBuiltWrong)

/-- 'shardqueuelaw10.DirectoryMoves': WHATEVER THE INPUT: true; the input reads as it did. -/
def directoryMovesSpec : ChangeSpec := { name := "directoryMoves", fn := fun _ => fun
  | [d] => { results := [.lit (.bool true)], args := [d] }
  | _ => none }
def directoryMovesRow : OpenClaim := { program := "ytfkpkmcpepeaeaa", sum := "814d541b18dadcb2994628626010ff624c34468207a186361860a3142b55d3f6", func := "shardqueue/shardqueuelaw10.DirectoryMoves", spec := "directoryMoves", inPlace := ["slices.overlaps[shardqueue/api.Span]"], unfollowed := true, recurses := true, apart := false }
def DirectoryMovesSaid : Prop := directoryMovesRow.holds Try.pinned (OpenSpec.ofChange directoryMovesSpec)

/-- ITS FALSE NEIGHBOUR: 'it returns false'. Refute it at one input. -/
def directoryMovesWrong : ChangeSpec := { name := "directoryMoves", fn := fun _ => fun
  | [d] => { results := [.lit (.bool false)], args := [d] }
  | _ => none }
def DirectoryMovesWrongFalsely : Prop := directoryMovesRow.holds Try.pinned (OpenSpec.ofChange directoryMovesWrong)

/-- 'shardqueuelaw12.ArenaNew': WHATEVER THE INPUT: true; the input reads as it did. -/
def arenaNewSpec : ChangeSpec := { name := "arenaNew", fn := fun _ => fun
  | [d1, d2] => { results := [.lit (.bool true)], args := [d1, d2] }
  | _ => none }
def arenaNewRow : OpenClaim := { program := "ytfkpkmcpepeaeaa", sum := "814d541b18dadcb2994628626010ff624c34468207a186361860a3142b55d3f6", func := "shardqueue/shardqueuelaw12.ArenaNew", spec := "arenaNew", inPlace := ["sync/atomic.StoreInt64", "sync/atomic.CompareAndSwapInt64", "sync/atomic.LoadInt64"], unfollowed := true, recurses := true, apart := false }
def ArenaNewSaid : Prop := arenaNewRow.holds Try.pinned (OpenSpec.ofChange arenaNewSpec)

/-- ITS FALSE NEIGHBOUR: 'it returns false'. Refute it at one input. -/
def arenaNewWrong : ChangeSpec := { name := "arenaNew", fn := fun _ => fun
  | [d1, d2] => { results := [.lit (.bool false)], args := [d1, d2] }
  | _ => none }
def ArenaNewWrongFalsely : Prop := arenaNewRow.holds Try.pinned (OpenSpec.ofChange arenaNewWrong)

/- THE SECOND FORM. 'bulk': how many values and letters a reading holds, each counted each time it is reached (what is shared counts as often as it is met; a slice's spare places count too). A statement '..UptoSaid' is the law's where the arguments, and the package variables that the reading takes, are together of bulk at most 1048576: NARROWER than '..Said'. Prove '..Said' where nothing that the law and all that it calls make is longer than what came in: it says more and counts as full. Else prove '..UptoSaid'. A law counts once. -/
mutual
def uptoBulk {H : Type} : DataW H → Nat
  | .lit (.string bytes) => bytes.length + 1
  | .lit _ => 1
  | .nil => 1
  | .ptr d => uptoBulk d + 1
  | .slice elems spare => uptoBulkAll elems + uptoBulkAll spare + 1
  | .agg parts => uptoBulkAll parts + 1
  | .iface _ d => uptoBulk d + 1
  | .map entries => uptoBulkEntries entries + 1
  | .held _ => 1
def uptoBulkAll {H : Type} : List (DataW H) → Nat
  | [] => 0
  | d :: r => uptoBulk d + uptoBulkAll r
def uptoBulkEntries {H : Type} : List (Lit × DataW H) → Nat
  | [] => 0
  | x :: r => uptoBulkEntry x + uptoBulkEntries r
def uptoBulkEntry {H : Type} : Lit × DataW H → Nat
  | (.string bytes, d) => bytes.length + uptoBulk d + 1
  | (_, d) => uptoBulk d + 1
 end
def uptoSmall : (H : Type) → List (DataW H) → Bool := fun _ ds => decide (uptoBulkAll ds ≤ 1048576)
def OpenSpec.upto (s : _root_.Go.ChangeSpec) : _root_.Go.OpenSpec := { _root_.Go.OpenSpec.ofChange s with cond := some uptoSmall }

/-- 'shardqueuelaw10.DirectoryRaw', WHERE WHAT IT READS IS OF BULK AT MOST 1048576: true; the input reads as it did. -/
def directoryRawUptoRow : OpenClaim := { program := "ytfkpkmcpepeaeaa", sum := "814d541b18dadcb2994628626010ff624c34468207a186361860a3142b55d3f6", func := "shardqueue/shardqueuelaw10.DirectoryRaw", spec := "directoryRaw", inPlace := ["slices.overlaps[shardqueue/api.Span]"], unfollowed := true, recurses := true, apart := false, narrowed := true }
def DirectoryRawUptoSaid : Prop := directoryRawUptoRow.holds Try.pinned (OpenSpec.upto directoryRawSpec)

/-- 'shardqueuelaw10.DirectoryBuilt', WHERE WHAT IT READS IS OF BULK AT MOST 1048576: true; the input reads as it did. -/
def directoryBuiltUptoRow : OpenClaim := { program := "ytfkpkmcpepeaeaa", sum := "814d541b18dadcb2994628626010ff624c34468207a186361860a3142b55d3f6", func := "shardqueue/shardqueuelaw10.DirectoryBuilt", spec := "directoryBuilt", inPlace := ["slices.overlaps[shardqueue/api.Span]"], unfollowed := true, recurses := true, apart := false, narrowed := true }
def DirectoryBuiltUptoSaid : Prop := directoryBuiltUptoRow.holds Try.pinned (OpenSpec.upto directoryBuiltSpec)

/-- 'shardqueuelaw10.DirectoryMoves', WHERE WHAT IT READS IS OF BULK AT MOST 1048576: true; the input reads as it did. -/
def directoryMovesUptoRow : OpenClaim := { program := "ytfkpkmcpepeaeaa", sum := "814d541b18dadcb2994628626010ff624c34468207a186361860a3142b55d3f6", func := "shardqueue/shardqueuelaw10.DirectoryMoves", spec := "directoryMoves", inPlace := ["slices.overlaps[shardqueue/api.Span]"], unfollowed := true, recurses := true, apart := false, narrowed := true }
def DirectoryMovesUptoSaid : Prop := directoryMovesUptoRow.holds Try.pinned (OpenSpec.upto directoryMovesSpec)

/-- 'shardqueuelaw12.ArenaNew', WHERE WHAT IT READS IS OF BULK AT MOST 1048576: true; the input reads as it did. -/
def arenaNewUptoRow : OpenClaim := { program := "ytfkpkmcpepeaeaa", sum := "814d541b18dadcb2994628626010ff624c34468207a186361860a3142b55d3f6", func := "shardqueue/shardqueuelaw12.ArenaNew", spec := "arenaNew", inPlace := ["sync/atomic.StoreInt64", "sync/atomic.CompareAndSwapInt64", "sync/atomic.LoadInt64"], unfollowed := true, recurses := true, apart := false, narrowed := true }
def ArenaNewUptoSaid : Prop := arenaNewUptoRow.holds Try.pinned (OpenSpec.upto arenaNewSpec)

end Rows
end Go.Proofs.Ytfkpkmcpepeaeaa
