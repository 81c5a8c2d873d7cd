/-
  No cell of these rows narrows 'for every input' (looked for: loops, veiled, ifaces, maps, wideKeys, modest, calm, conditions, laid).
  DERIVED. THE GIVEN ROWS OF THIS SEAT. 5 by the template 'for every input the law returns true; each argument reads behind the call as it read before'; 0 by the template 'total and deterministic' (their statements: YtjiampelmiaflaaTotals.lean).
  GIVEN WITH THE SEED: the statements are not yours to turn. If you find one false, say at which input.
  Laid BY PROGRAM, IN A SANDBOX (cutbox-rows.mjs): the forced cells as the released guide's own fill.sh prints them over the translation a3e55da5c7cb196b… (all of the seat's roots in one cut). By AI agents, Wed Nov 11 2026. No macro, syntax, notation, axiom, sorry.
-/
import Derived.Test.YtjiampelmiaflaaChecked
import GoSem.Claim
import GoSem.ClaimJoined
import GoSem.ClaimMapViews
import Derived.JoinedTies
import Derived.KernelRfl
namespace Go.Proofs.Ytjiampelmiaflaa
/- THE CELL 'sum', in the pinned program and in every row, IS THE sha256 OF THE DUMP (.gsa) THAT YtjiampelmiaflaaProg.lean LOADS. Nothing in Lean hashes anything: it is a label: what it is worth is what the hold of that sum in a sandbox is worth. -/
noncomputable def Try.pinned : Pinned := { name := "ytjiampelmiaflaa", sum := "a3e55da5c7cb196b03833543de4d99f5be61fb9cb22a3c3b398144f9050ba30c", checked := Try.checked }
namespace Rows
def none {H : Type} : Left H := { results := [], args := [] }

/-- 'shardqueuelaw03.MessageValidates': WHATEVER THE INPUT: true; the input reads as it did. -/
def messageValidatesSpec : ChangeSpec := { name := "messageValidates", fn := fun _ => fun
  | [d1, d2, d3, d4, d5, d6] => { results := [.lit (.bool true)], args := [d1, d2, d3, d4, d5, d6] }
  | _ => none }
def messageValidatesRow : OpenClaim := { program := "ytjiampelmiaflaa", sum := "a3e55da5c7cb196b03833543de4d99f5be61fb9cb22a3c3b398144f9050ba30c", func := "shardqueue/shardqueuelaw03.MessageValidates", spec := "messageValidates", apart := false }
def MessageValidatesSaid : Prop := messageValidatesRow.holds Try.pinned (OpenSpec.ofChange messageValidatesSpec)

/-- ITS FALSE NEIGHBOUR: 'it returns false'. Refute it at one input. -/
def messageValidatesWrong : ChangeSpec := { name := "messageValidates", fn := fun _ => fun
  | [d1, d2, d3, d4, d5, d6] => { results := [.lit (.bool false)], args := [d1, d2, d3, d4, d5, d6] }
  | _ => none }
def MessageValidatesWrongFalsely : Prop := messageValidatesRow.holds Try.pinned (OpenSpec.ofChange messageValidatesWrong)

/-- 'shardqueuelaw03.MessageStates': WHATEVER THE INPUT: true; the input reads as it did. -/
def messageStatesSpec : ChangeSpec := { name := "messageStates", fn := fun _ => fun
  | [d1, d2, d3] => { results := [.lit (.bool true)], args := [d1, d2, d3] }
  | _ => none }
def messageStatesRow : OpenClaim := { program := "ytjiampelmiaflaa", sum := "a3e55da5c7cb196b03833543de4d99f5be61fb9cb22a3c3b398144f9050ba30c", func := "shardqueue/shardqueuelaw03.MessageStates", spec := "messageStates", apart := false }
def MessageStatesSaid : Prop := messageStatesRow.holds Try.pinned (OpenSpec.ofChange messageStatesSpec)

/-- ITS FALSE NEIGHBOUR: 'it returns false'. Refute it at one input. -/
def messageStatesWrong : ChangeSpec := { name := "messageStates", fn := fun _ => fun
  | [d1, d2, d3] => { results := [.lit (.bool false)], args := [d1, d2, d3] }
  | _ => none }
def MessageStatesWrongFalsely : Prop := messageStatesRow.holds Try.pinned (OpenSpec.ofChange messageStatesWrong)

/-- 'shardqueuelaw03.MessageChanges': WHATEVER THE INPUT: true; the input reads as it did. -/
def messageChangesSpec : ChangeSpec := { name := "messageChanges", fn := fun _ => fun
  | [d1, d2, d3, d4] => { results := [.lit (.bool true)], args := [d1, d2, d3, d4] }
  | _ => none }
def messageChangesRow : OpenClaim := { program := "ytjiampelmiaflaa", sum := "a3e55da5c7cb196b03833543de4d99f5be61fb9cb22a3c3b398144f9050ba30c", func := "shardqueue/shardqueuelaw03.MessageChanges", spec := "messageChanges", apart := false }
def MessageChangesSaid : Prop := messageChangesRow.holds Try.pinned (OpenSpec.ofChange messageChangesSpec)

/-- ITS FALSE NEIGHBOUR: 'it returns false'. Refute it at one input. -/
def messageChangesWrong : ChangeSpec := { name := "messageChanges", fn := fun _ => fun
  | [d1, d2, d3, d4] => { results := [.lit (.bool false)], args := [d1, d2, d3, d4] }
  | _ => none }
def MessageChangesWrongFalsely : Prop := messageChangesRow.holds Try.pinned (OpenSpec.ofChange messageChangesWrong)

/-- 'shardqueuelaw03.MessageCodes': WHATEVER THE INPUT: true; the input reads as it did. -/
def messageCodesSpec : ChangeSpec := { name := "messageCodes", fn := fun _ => fun
  | [d1, d2, d3] => { results := [.lit (.bool true)], args := [d1, d2, d3] }
  | _ => none }
def messageCodesRow : OpenClaim := { program := "ytjiampelmiaflaa", sum := "a3e55da5c7cb196b03833543de4d99f5be61fb9cb22a3c3b398144f9050ba30c", func := "shardqueue/shardqueuelaw03.MessageCodes", spec := "messageCodes", apart := false }
def MessageCodesSaid : Prop := messageCodesRow.holds Try.pinned (OpenSpec.ofChange messageCodesSpec)

/-- ITS FALSE NEIGHBOUR: 'it returns false'. Refute it at one input. -/
def messageCodesWrong : ChangeSpec := { name := "messageCodes", fn := fun _ => fun
  | [d1, d2, d3] => { results := [.lit (.bool false)], args := [d1, d2, d3] }
  | _ => none }
def MessageCodesWrongFalsely : Prop := messageCodesRow.holds Try.pinned (OpenSpec.ofChange messageCodesWrong)

/-- 'shardqueuelaw03.MessageBack': WHATEVER THE INPUT: true; the input reads as it did. -/
def messageBackSpec : ChangeSpec := { name := "messageBack", fn := fun _ => fun
  | [d1, d2] => { results := [.lit (.bool true)], args := [d1, d2] }
  | _ => none }
def messageBackRow : OpenClaim := { program := "ytjiampelmiaflaa", sum := "a3e55da5c7cb196b03833543de4d99f5be61fb9cb22a3c3b398144f9050ba30c", func := "shardqueue/shardqueuelaw03.MessageBack", spec := "messageBack", apart := false }
def MessageBackSaid : Prop := messageBackRow.holds Try.pinned (OpenSpec.ofChange messageBackSpec)

/-- ITS FALSE NEIGHBOUR: 'it returns false'. Refute it at one input. -/
def messageBackWrong : ChangeSpec := { name := "messageBack", fn := fun _ => fun
  | [d1, d2] => { results := [.lit (.bool false)], args := [d1, d2] }
  | _ => none }
def MessageBackWrongFalsely : Prop := messageBackRow.holds Try.pinned (OpenSpec.ofChange messageBackWrong)

/- THE SECOND FORM. 'bulk': how many values and letters a reading holds, each counted each time it is reached (what is shared counts as often as it is met; a slice's spare places count too). A statement '..UptoSaid' is the law's where the arguments, and the package variables that the reading takes, are together of bulk at most 1048576: NARROWER than '..Said'. Prove '..Said' where nothing that the law and all that it calls make is longer than what came in: it says more and counts as full. Else prove '..UptoSaid'. A law counts once. -/
mutual
def uptoBulk {H : Type} : DataW H → Nat
  | .lit (.string bytes) => bytes.length + 1
  | .lit _ => 1
  | .nil => 1
  | .ptr d => uptoBulk d + 1
  | .slice elems spare => uptoBulkAll elems + uptoBulkAll spare + 1
  | .agg parts => uptoBulkAll parts + 1
  | .iface _ d => uptoBulk d + 1
  | .map entries => uptoBulkEntries entries + 1
  | .held _ => 1
def uptoBulkAll {H : Type} : List (DataW H) → Nat
  | [] => 0
  | d :: r => uptoBulk d + uptoBulkAll r
def uptoBulkEntries {H : Type} : List (Lit × DataW H) → Nat
  | [] => 0
  | x :: r => uptoBulkEntry x + uptoBulkEntries r
def uptoBulkEntry {H : Type} : Lit × DataW H → Nat
  | (.string bytes, d) => bytes.length + uptoBulk d + 1
  | (_, d) => uptoBulk d + 1
 end
def uptoSmall : (H : Type) → List (DataW H) → Bool := fun _ ds => decide (uptoBulkAll ds ≤ 1048576)
def OpenSpec.upto (s : _root_.Go.ChangeSpec) : _root_.Go.OpenSpec := { _root_.Go.OpenSpec.ofChange s with cond := some uptoSmall }

/-- 'shardqueuelaw03.MessageValidates', WHERE WHAT IT READS IS OF BULK AT MOST 1048576: true; the input reads as it did. -/
def messageValidatesUptoRow : OpenClaim := { program := "ytjiampelmiaflaa", sum := "a3e55da5c7cb196b03833543de4d99f5be61fb9cb22a3c3b398144f9050ba30c", func := "shardqueue/shardqueuelaw03.MessageValidates", spec := "messageValidates", apart := false, narrowed := true }
def MessageValidatesUptoSaid : Prop := messageValidatesUptoRow.holds Try.pinned (OpenSpec.upto messageValidatesSpec)

/-- 'shardqueuelaw03.MessageStates', WHERE WHAT IT READS IS OF BULK AT MOST 1048576: true; the input reads as it did. -/
def messageStatesUptoRow : OpenClaim := { program := "ytjiampelmiaflaa", sum := "a3e55da5c7cb196b03833543de4d99f5be61fb9cb22a3c3b398144f9050ba30c", func := "shardqueue/shardqueuelaw03.MessageStates", spec := "messageStates", apart := false, narrowed := true }
def MessageStatesUptoSaid : Prop := messageStatesUptoRow.holds Try.pinned (OpenSpec.upto messageStatesSpec)

/-- 'shardqueuelaw03.MessageChanges', WHERE WHAT IT READS IS OF BULK AT MOST 1048576: true; the input reads as it did. -/
def messageChangesUptoRow : OpenClaim := { program := "ytjiampelmiaflaa", sum := "a3e55da5c7cb196b03833543de4d99f5be61fb9cb22a3c3b398144f9050ba30c", func := "shardqueue/shardqueuelaw03.MessageChanges", spec := "messageChanges", apart := false, narrowed := true }
def MessageChangesUptoSaid : Prop := messageChangesUptoRow.holds Try.pinned (OpenSpec.upto messageChangesSpec)

/-- 'shardqueuelaw03.MessageCodes', WHERE WHAT IT READS IS OF BULK AT MOST 1048576: true; the input reads as it did. -/
def messageCodesUptoRow : OpenClaim := { program := "ytjiampelmiaflaa", sum := "a3e55da5c7cb196b03833543de4d99f5be61fb9cb22a3c3b398144f9050ba30c", func := "shardqueue/shardqueuelaw03.MessageCodes", spec := "messageCodes", apart := false, narrowed := true }
def MessageCodesUptoSaid : Prop := messageCodesUptoRow.holds Try.pinned (OpenSpec.upto messageCodesSpec)

/-- 'shardqueuelaw03.MessageBack', WHERE WHAT IT READS IS OF BULK AT MOST 1048576: true; the input reads as it did. -/
def messageBackUptoRow : OpenClaim := { program := "ytjiampelmiaflaa", sum := "a3e55da5c7cb196b03833543de4d99f5be61fb9cb22a3c3b398144f9050ba30c", func := "shardqueue/shardqueuelaw03.MessageBack", spec := "messageBack", apart := false, narrowed := true }
def MessageBackUptoSaid : Prop := messageBackUptoRow.holds Try.pinned (OpenSpec.upto messageBackSpec)

end Rows
end Go.Proofs.Ytjiampelmiaflaa
