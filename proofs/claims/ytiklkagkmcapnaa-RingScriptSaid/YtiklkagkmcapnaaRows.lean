/-
  No cell of these rows narrows 'for every input' (looked for: loops, veiled, ifaces, maps, wideKeys, modest, calm, conditions, laid).
  DERIVED. THE GIVEN ROWS OF THIS SEAT. 5 by the template 'for every input the law returns true; each argument reads behind the call as it read before'; 0 by the template 'total and deterministic' (their statements: YtiklkagkmcapnaaTotals.lean).
  GIVEN WITH THE SEED: the statements are not yours to turn. If you find one false, say at which input.
  Laid BY PROGRAM, IN A SANDBOX (cutbox-rows.mjs): the forced cells as the released guide's own fill.sh prints them over the translation 39409bd5242f8ef4… (all of the seat's roots in one cut). By AI agents, Wed Nov 11 2026. No macro, syntax, notation, axiom, sorry.
-/
import Derived.Test.YtiklkagkmcapnaaChecked
import GoSem.Claim
import GoSem.ClaimJoined
import GoSem.ClaimMapViews
import Derived.JoinedTies
import Derived.KernelRfl
namespace Go.Proofs.Ytiklkagkmcapnaa
/- THE CELL 'sum', in the pinned program and in every row, IS THE sha256 OF THE DUMP (.gsa) THAT YtiklkagkmcapnaaProg.lean LOADS. Nothing in Lean hashes anything: it is a label: what it is worth is what the hold of that sum in a sandbox is worth. -/
noncomputable def Try.pinned : Pinned := { name := "ytiklkagkmcapnaa", sum := "39409bd5242f8ef4d9a85b66da13da2208db5104024922ce8523f78fc8633fd8", checked := Try.checked }
namespace Rows
def none {H : Type} : Left H := { results := [], args := [] }

/-- 'shardqueuelaw04.RingRaw': WHATEVER THE INPUT: true; the input reads as it did. -/
def ringRawSpec : ChangeSpec := { name := "ringRaw", fn := fun _ => fun
  | [d1, d2, d3, d4, d5, d6] => { results := [.lit (.bool true)], args := [d1, d2, d3, d4, d5, d6] }
  | _ => none }
def ringRawRow : OpenClaim := { program := "ytiklkagkmcapnaa", sum := "39409bd5242f8ef4d9a85b66da13da2208db5104024922ce8523f78fc8633fd8", func := "shardqueue/shardqueuelaw04.RingRaw", spec := "ringRaw", unfollowed := true, recurses := true, apart := false }
def RingRawSaid : Prop := ringRawRow.holds Try.pinned (OpenSpec.ofChange ringRawSpec)

/-- ITS FALSE NEIGHBOUR: 'it returns false'. Refute it at one input. -/
def ringRawWrong : ChangeSpec := { name := "ringRaw", fn := fun _ => fun
  | [d1, d2, d3, d4, d5, d6] => { results := [.lit (.bool false)], args := [d1, d2, d3, d4, d5, d6] }
  | _ => none }
def RingRawWrongFalsely : Prop := ringRawRow.holds Try.pinned (OpenSpec.ofChange ringRawWrong)

/-- 'shardqueuelaw04.RingBuilt': WHATEVER THE INPUT: true; the input reads as it did. -/
def ringBuiltSpec : ChangeSpec := { name := "ringBuilt", fn := fun _ => fun
  | [d] => { results := [.lit (.bool true)], args := [d] }
  | _ => none }
def ringBuiltRow : OpenClaim := { program := "ytiklkagkmcapnaa", sum := "39409bd5242f8ef4d9a85b66da13da2208db5104024922ce8523f78fc8633fd8", func := "shardqueue/shardqueuelaw04.RingBuilt", spec := "ringBuilt", unfollowed := true, recurses := true, apart := false }
def RingBuiltSaid : Prop := ringBuiltRow.holds Try.pinned (OpenSpec.ofChange ringBuiltSpec)

/-- ITS FALSE NEIGHBOUR: 'it returns false'. Refute it at one input. -/
def ringBuiltWrong : ChangeSpec := { name := "ringBuilt", fn := fun _ => fun
  | [d] => { results := [.lit (.bool false)], args := [d] }
  | _ => none }
def RingBuiltWrongFalsely : Prop := ringBuiltRow.holds Try.pinned (OpenSpec.ofChange ringBuiltWrong)

/-- 'shardqueuelaw04.RingScript': WHATEVER THE INPUT: true; the input reads as it did. -/
def ringScriptSpec : ChangeSpec := { name := "ringScript", fn := fun _ => fun
  | [d] => { results := [.lit (.bool true)], args := [d] }
  | _ => none }
def ringScriptRow : OpenClaim := { program := "ytiklkagkmcapnaa", sum := "39409bd5242f8ef4d9a85b66da13da2208db5104024922ce8523f78fc8633fd8", func := "shardqueue/shardqueuelaw04.RingScript", spec := "ringScript", unfollowed := true, recurses := true, apart := false }
def RingScriptSaid : Prop := ringScriptRow.holds Try.pinned (OpenSpec.ofChange ringScriptSpec)

/-- ITS FALSE NEIGHBOUR: 'it returns false'. Refute it at one input. -/
def ringScriptWrong : ChangeSpec := { name := "ringScript", fn := fun _ => fun
  | [d] => { results := [.lit (.bool false)], args := [d] }
  | _ => none }
def RingScriptWrongFalsely : Prop := ringScriptRow.holds Try.pinned (OpenSpec.ofChange ringScriptWrong)

/-- 'shardqueuelaw04.RingHalves': WHATEVER THE INPUT: true; the input reads as it did. -/
def ringHalvesSpec : ChangeSpec := { name := "ringHalves", fn := fun _ => fun
  | [d] => { results := [.lit (.bool true)], args := [d] }
  | _ => none }
def ringHalvesRow : OpenClaim := { program := "ytiklkagkmcapnaa", sum := "39409bd5242f8ef4d9a85b66da13da2208db5104024922ce8523f78fc8633fd8", func := "shardqueue/shardqueuelaw04.RingHalves", spec := "ringHalves", unfollowed := true, recurses := true, apart := false }
def RingHalvesSaid : Prop := ringHalvesRow.holds Try.pinned (OpenSpec.ofChange ringHalvesSpec)

/-- ITS FALSE NEIGHBOUR: 'it returns false'. Refute it at one input. -/
def ringHalvesWrong : ChangeSpec := { name := "ringHalves", fn := fun _ => fun
  | [d] => { results := [.lit (.bool false)], args := [d] }
  | _ => none }
def RingHalvesWrongFalsely : Prop := ringHalvesRow.holds Try.pinned (OpenSpec.ofChange ringHalvesWrong)

/-- 'shardqueuelaw04.RingRemoves': WHATEVER THE INPUT: true; the input reads as it did. -/
def ringRemovesSpec : ChangeSpec := { name := "ringRemoves", fn := fun _ => fun
  | [d] => { results := [.lit (.bool true)], args := [d] }
  | _ => none }
def ringRemovesRow : OpenClaim := { program := "ytiklkagkmcapnaa", sum := "39409bd5242f8ef4d9a85b66da13da2208db5104024922ce8523f78fc8633fd8", func := "shardqueue/shardqueuelaw04.RingRemoves", spec := "ringRemoves", unfollowed := true, recurses := true, apart := false }
def RingRemovesSaid : Prop := ringRemovesRow.holds Try.pinned (OpenSpec.ofChange ringRemovesSpec)

/-- ITS FALSE NEIGHBOUR: 'it returns false'. Refute it at one input. -/
def ringRemovesWrong : ChangeSpec := { name := "ringRemoves", fn := fun _ => fun
  | [d] => { results := [.lit (.bool false)], args := [d] }
  | _ => none }
def RingRemovesWrongFalsely : Prop := ringRemovesRow.holds Try.pinned (OpenSpec.ofChange ringRemovesWrong)

/- THE SECOND FORM. 'bulk': how many values and letters a reading holds, each counted each time it is reached (what is shared counts as often as it is met; a slice's spare places count too). A statement '..UptoSaid' is the law's where the arguments, and the package variables that the reading takes, are together of bulk at most 1048576: NARROWER than '..Said'. Prove '..Said' where nothing that the law and all that it calls make is longer than what came in: it says more and counts as full. Else prove '..UptoSaid'. A law counts once. -/
mutual
def uptoBulk {H : Type} : DataW H → Nat
  | .lit (.string bytes) => bytes.length + 1
  | .lit _ => 1
  | .nil => 1
  | .ptr d => uptoBulk d + 1
  | .slice elems spare => uptoBulkAll elems + uptoBulkAll spare + 1
  | .agg parts => uptoBulkAll parts + 1
  | .iface _ d => uptoBulk d + 1
  | .map entries => uptoBulkEntries entries + 1
  | .held _ => 1
def uptoBulkAll {H : Type} : List (DataW H) → Nat
  | [] => 0
  | d :: r => uptoBulk d + uptoBulkAll r
def uptoBulkEntries {H : Type} : List (Lit × DataW H) → Nat
  | [] => 0
  | x :: r => uptoBulkEntry x + uptoBulkEntries r
def uptoBulkEntry {H : Type} : Lit × DataW H → Nat
  | (.string bytes, d) => bytes.length + uptoBulk d + 1
  | (_, d) => uptoBulk d + 1
 end
def uptoSmall : (H : Type) → List (DataW H) → Bool := fun _ ds => decide (uptoBulkAll ds ≤ 1048576)
def OpenSpec.upto (s : _root_.Go.ChangeSpec) : _root_.Go.OpenSpec := { _root_.Go.OpenSpec.ofChange s with cond := some uptoSmall }

/-- 'shardqueuelaw04.RingRaw', WHERE WHAT IT READS IS OF BULK AT MOST 1048576: true; the input reads as it did. -/
def ringRawUptoRow : OpenClaim := { program := "ytiklkagkmcapnaa", sum := "39409bd5242f8ef4d9a85b66da13da2208db5104024922ce8523f78fc8633fd8", func := "shardqueue/shardqueuelaw04.RingRaw", spec := "ringRaw", unfollowed := true, recurses := true, apart := false, narrowed := true }
def RingRawUptoSaid : Prop := ringRawUptoRow.holds Try.pinned (OpenSpec.upto ringRawSpec)

/-- 'shardqueuelaw04.RingBuilt', WHERE WHAT IT READS IS OF BULK AT MOST 1048576: true; the input reads as it did. -/
def ringBuiltUptoRow : OpenClaim := { program := "ytiklkagkmcapnaa", sum := "39409bd5242f8ef4d9a85b66da13da2208db5104024922ce8523f78fc8633fd8", func := "shardqueue/shardqueuelaw04.RingBuilt", spec := "ringBuilt", unfollowed := true, recurses := true, apart := false, narrowed := true }
def RingBuiltUptoSaid : Prop := ringBuiltUptoRow.holds Try.pinned (OpenSpec.upto ringBuiltSpec)

/-- 'shardqueuelaw04.RingScript', WHERE WHAT IT READS IS OF BULK AT MOST 1048576: true; the input reads as it did. -/
def ringScriptUptoRow : OpenClaim := { program := "ytiklkagkmcapnaa", sum := "39409bd5242f8ef4d9a85b66da13da2208db5104024922ce8523f78fc8633fd8", func := "shardqueue/shardqueuelaw04.RingScript", spec := "ringScript", unfollowed := true, recurses := true, apart := false, narrowed := true }
def RingScriptUptoSaid : Prop := ringScriptUptoRow.holds Try.pinned (OpenSpec.upto ringScriptSpec)

/-- 'shardqueuelaw04.RingHalves', WHERE WHAT IT READS IS OF BULK AT MOST 1048576: true; the input reads as it did. -/
def ringHalvesUptoRow : OpenClaim := { program := "ytiklkagkmcapnaa", sum := "39409bd5242f8ef4d9a85b66da13da2208db5104024922ce8523f78fc8633fd8", func := "shardqueue/shardqueuelaw04.RingHalves", spec := "ringHalves", unfollowed := true, recurses := true, apart := false, narrowed := true }
def RingHalvesUptoSaid : Prop := ringHalvesUptoRow.holds Try.pinned (OpenSpec.upto ringHalvesSpec)

/-- 'shardqueuelaw04.RingRemoves', WHERE WHAT IT READS IS OF BULK AT MOST 1048576: true; the input reads as it did. -/
def ringRemovesUptoRow : OpenClaim := { program := "ytiklkagkmcapnaa", sum := "39409bd5242f8ef4d9a85b66da13da2208db5104024922ce8523f78fc8633fd8", func := "shardqueue/shardqueuelaw04.RingRemoves", spec := "ringRemoves", unfollowed := true, recurses := true, apart := false, narrowed := true }
def RingRemovesUptoSaid : Prop := ringRemovesUptoRow.holds Try.pinned (OpenSpec.upto ringRemovesSpec)

end Rows
end Go.Proofs.Ytiklkagkmcapnaa
