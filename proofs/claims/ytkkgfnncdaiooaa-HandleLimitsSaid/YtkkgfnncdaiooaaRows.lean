/-
  No cell of these rows narrows 'for every input' (looked for: loops, veiled, ifaces, maps, wideKeys, modest, calm, conditions, laid).
  DERIVED. THE GIVEN ROWS OF THIS SEAT. 5 by the template 'for every input the law returns true; each argument reads behind the call as it read before'; 0 by the template 'total and deterministic' (their statements: YtkkgfnncdaiooaaTotals.lean).
  GIVEN WITH THE SEED: the statements are not yours to turn. If you find one false, say at which input.
  Laid BY PROGRAM, IN A SANDBOX (cutbox-rows.mjs): the forced cells as the released guide's own fill.sh prints them over the translation 5a03818f836e0c8b… (all of the seat's roots in one cut). By AI agents, Wed Nov 11 2026. No macro, syntax, notation, axiom, sorry.
-/
import Derived.Test.YtkkgfnncdaiooaaChecked
import GoSem.Claim
import GoSem.ClaimJoined
import GoSem.ClaimMapViews
import Derived.JoinedTies
import Derived.KernelRfl
namespace Go.Proofs.Ytkkgfnncdaiooaa
/- THE CELL 'sum', in the pinned program and in every row, IS THE sha256 OF THE DUMP (.gsa) THAT YtkkgfnncdaiooaaProg.lean LOADS. Nothing in Lean hashes anything: it is a label: what it is worth is what the hold of that sum in a sandbox is worth. -/
noncomputable def Try.pinned : Pinned := { name := "ytkkgfnncdaiooaa", sum := "5a03818f836e0c8bd40ce565d0ccd4cee7ed75c3533bfd5ef7c8b0f7740b4201", checked := Try.checked }
namespace Rows
def none {H : Type} : Left H := { results := [], args := [] }

/-- 'shardqueuelaw09.HandleRaw': WHATEVER THE INPUT: true; the input reads as it did. -/
def handleRawSpec : ChangeSpec := { name := "handleRaw", fn := fun _ => fun
  | [d1, d2] => { results := [.lit (.bool true)], args := [d1, d2] }
  | _ => none }
def handleRawRow : OpenClaim := { program := "ytkkgfnncdaiooaa", sum := "5a03818f836e0c8bd40ce565d0ccd4cee7ed75c3533bfd5ef7c8b0f7740b4201", func := "shardqueue/shardqueuelaw09.HandleRaw", spec := "handleRaw", apart := false }
def HandleRawSaid : Prop := handleRawRow.holds Try.pinned (OpenSpec.ofChange handleRawSpec)

/-- ITS FALSE NEIGHBOUR: 'it returns false'. Refute it at one input. -/
def handleRawWrong : ChangeSpec := { name := "handleRaw", fn := fun _ => fun
  | [d1, d2] => { results := [.lit (.bool false)], args := [d1, d2] }
  | _ => none }
def HandleRawWrongFalsely : Prop := handleRawRow.holds Try.pinned (OpenSpec.ofChange handleRawWrong)

/-- 'shardqueuelaw09.HandleBack': WHATEVER THE INPUT: true; the input reads as it did. -/
def handleBackSpec : ChangeSpec := { name := "handleBack", fn := fun _ => fun
  | [d1, d2] => { results := [.lit (.bool true)], args := [d1, d2] }
  | _ => none }
def handleBackRow : OpenClaim := { program := "ytkkgfnncdaiooaa", sum := "5a03818f836e0c8bd40ce565d0ccd4cee7ed75c3533bfd5ef7c8b0f7740b4201", func := "shardqueue/shardqueuelaw09.HandleBack", spec := "handleBack", apart := false }
def HandleBackSaid : Prop := handleBackRow.holds Try.pinned (OpenSpec.ofChange handleBackSpec)

/-- ITS FALSE NEIGHBOUR: 'it returns false'. Refute it at one input. -/
def handleBackWrong : ChangeSpec := { name := "handleBack", fn := fun _ => fun
  | [d1, d2] => { results := [.lit (.bool false)], args := [d1, d2] }
  | _ => none }
def HandleBackWrongFalsely : Prop := handleBackRow.holds Try.pinned (OpenSpec.ofChange handleBackWrong)

/-- 'shardqueuelaw09.HandleForged': WHATEVER THE INPUT: true; the input reads as it did. -/
def handleForgedSpec : ChangeSpec := { name := "handleForged", fn := fun _ => fun
  | [d1, d2, d3] => { results := [.lit (.bool true)], args := [d1, d2, d3] }
  | _ => none }
def handleForgedRow : OpenClaim := { program := "ytkkgfnncdaiooaa", sum := "5a03818f836e0c8bd40ce565d0ccd4cee7ed75c3533bfd5ef7c8b0f7740b4201", func := "shardqueue/shardqueuelaw09.HandleForged", spec := "handleForged", apart := false }
def HandleForgedSaid : Prop := handleForgedRow.holds Try.pinned (OpenSpec.ofChange handleForgedSpec)

/-- ITS FALSE NEIGHBOUR: 'it returns false'. Refute it at one input. -/
def handleForgedWrong : ChangeSpec := { name := "handleForged", fn := fun _ => fun
  | [d1, d2, d3] => { results := [.lit (.bool false)], args := [d1, d2, d3] }
  | _ => none }
def HandleForgedWrongFalsely : Prop := handleForgedRow.holds Try.pinned (OpenSpec.ofChange handleForgedWrong)

/-- 'shardqueuelaw09.HandleUnique': WHATEVER THE INPUT: true; the input reads as it did. -/
def handleUniqueSpec : ChangeSpec := { name := "handleUnique", fn := fun _ => fun
  | [d1, d2] => { results := [.lit (.bool true)], args := [d1, d2] }
  | _ => none }
def handleUniqueRow : OpenClaim := { program := "ytkkgfnncdaiooaa", sum := "5a03818f836e0c8bd40ce565d0ccd4cee7ed75c3533bfd5ef7c8b0f7740b4201", func := "shardqueue/shardqueuelaw09.HandleUnique", spec := "handleUnique", apart := false }
def HandleUniqueSaid : Prop := handleUniqueRow.holds Try.pinned (OpenSpec.ofChange handleUniqueSpec)

/-- ITS FALSE NEIGHBOUR: 'it returns false'. Refute it at one input. -/
def handleUniqueWrong : ChangeSpec := { name := "handleUnique", fn := fun _ => fun
  | [d1, d2] => { results := [.lit (.bool false)], args := [d1, d2] }
  | _ => none }
def HandleUniqueWrongFalsely : Prop := handleUniqueRow.holds Try.pinned (OpenSpec.ofChange handleUniqueWrong)

/-- 'shardqueuelaw09.HandleLimits': WHATEVER THE INPUT: true; the input reads as it did. -/
def handleLimitsSpec : ChangeSpec := { name := "handleLimits", fn := fun _ => fun
  | [d] => { results := [.lit (.bool true)], args := [d] }
  | _ => none }
def handleLimitsRow : OpenClaim := { program := "ytkkgfnncdaiooaa", sum := "5a03818f836e0c8bd40ce565d0ccd4cee7ed75c3533bfd5ef7c8b0f7740b4201", func := "shardqueue/shardqueuelaw09.HandleLimits", spec := "handleLimits", apart := false }
def HandleLimitsSaid : Prop := handleLimitsRow.holds Try.pinned (OpenSpec.ofChange handleLimitsSpec)

/-- ITS FALSE NEIGHBOUR: 'it returns false'. Refute it at one input. -/
def handleLimitsWrong : ChangeSpec := { name := "handleLimits", fn := fun _ => fun
  | [d] => { results := [.lit (.bool false)], args := [d] }
  | _ => none }
def HandleLimitsWrongFalsely : Prop := handleLimitsRow.holds Try.pinned (OpenSpec.ofChange handleLimitsWrong)

/- THE SECOND FORM. 'bulk': how many values and letters a reading holds, each counted each time it is reached (what is shared counts as often as it is met; a slice's spare places count too). A statement '..UptoSaid' is the law's where the arguments, and the package variables that the reading takes, are together of bulk at most 1048576: NARROWER than '..Said'. Prove '..Said' where nothing that the law and all that it calls make is longer than what came in: it says more and counts as full. Else prove '..UptoSaid'. A law counts once. -/
mutual
def uptoBulk {H : Type} : DataW H → Nat
  | .lit (.string bytes) => bytes.length + 1
  | .lit _ => 1
  | .nil => 1
  | .ptr d => uptoBulk d + 1
  | .slice elems spare => uptoBulkAll elems + uptoBulkAll spare + 1
  | .agg parts => uptoBulkAll parts + 1
  | .iface _ d => uptoBulk d + 1
  | .map entries => uptoBulkEntries entries + 1
  | .held _ => 1
def uptoBulkAll {H : Type} : List (DataW H) → Nat
  | [] => 0
  | d :: r => uptoBulk d + uptoBulkAll r
def uptoBulkEntries {H : Type} : List (Lit × DataW H) → Nat
  | [] => 0
  | x :: r => uptoBulkEntry x + uptoBulkEntries r
def uptoBulkEntry {H : Type} : Lit × DataW H → Nat
  | (.string bytes, d) => bytes.length + uptoBulk d + 1
  | (_, d) => uptoBulk d + 1
 end
def uptoSmall : (H : Type) → List (DataW H) → Bool := fun _ ds => decide (uptoBulkAll ds ≤ 1048576)
def OpenSpec.upto (s : _root_.Go.ChangeSpec) : _root_.Go.OpenSpec := { _root_.Go.OpenSpec.ofChange s with cond := some uptoSmall }

/-- 'shardqueuelaw09.HandleRaw', WHERE WHAT IT READS IS OF BULK AT MOST 1048576: true; the input reads as it did. -/
def handleRawUptoRow : OpenClaim := { program := "ytkkgfnncdaiooaa", sum := "5a03818f836e0c8bd40ce565d0ccd4cee7ed75c3533bfd5ef7c8b0f7740b4201", func := "shardqueue/shardqueuelaw09.HandleRaw", spec := "handleRaw", apart := false, narrowed := true }
def HandleRawUptoSaid : Prop := handleRawUptoRow.holds Try.pinned (OpenSpec.upto handleRawSpec)

/-- 'shardqueuelaw09.HandleBack', WHERE WHAT IT READS IS OF BULK AT MOST 1048576: true; the input reads as it did. -/
def handleBackUptoRow : OpenClaim := { program := "ytkkgfnncdaiooaa", sum := "5a03818f836e0c8bd40ce565d0ccd4cee7ed75c3533bfd5ef7c8b0f7740b4201", func := "shardqueue/shardqueuelaw09.HandleBack", spec := "handleBack", apart := false, narrowed := true }
def HandleBackUptoSaid : Prop := handleBackUptoRow.holds Try.pinned (OpenSpec.upto handleBackSpec)

/-- 'shardqueuelaw09.HandleForged', WHERE WHAT IT READS IS OF BULK AT MOST 1048576: true; the input reads as it did. -/
def handleForgedUptoRow : OpenClaim := { program := "ytkkgfnncdaiooaa", sum := "5a03818f836e0c8bd40ce565d0ccd4cee7ed75c3533bfd5ef7c8b0f7740b4201", func := "shardqueue/shardqueuelaw09.HandleForged", spec := "handleForged", apart := false, narrowed := true }
def HandleForgedUptoSaid : Prop := handleForgedUptoRow.holds Try.pinned (OpenSpec.upto handleForgedSpec)

/-- 'shardqueuelaw09.HandleUnique', WHERE WHAT IT READS IS OF BULK AT MOST 1048576: true; the input reads as it did. -/
def handleUniqueUptoRow : OpenClaim := { program := "ytkkgfnncdaiooaa", sum := "5a03818f836e0c8bd40ce565d0ccd4cee7ed75c3533bfd5ef7c8b0f7740b4201", func := "shardqueue/shardqueuelaw09.HandleUnique", spec := "handleUnique", apart := false, narrowed := true }
def HandleUniqueUptoSaid : Prop := handleUniqueUptoRow.holds Try.pinned (OpenSpec.upto handleUniqueSpec)

/-- 'shardqueuelaw09.HandleLimits', WHERE WHAT IT READS IS OF BULK AT MOST 1048576: true; the input reads as it did. -/
def handleLimitsUptoRow : OpenClaim := { program := "ytkkgfnncdaiooaa", sum := "5a03818f836e0c8bd40ce565d0ccd4cee7ed75c3533bfd5ef7c8b0f7740b4201", func := "shardqueue/shardqueuelaw09.HandleLimits", spec := "handleLimits", apart := false, narrowed := true }
def HandleLimitsUptoSaid : Prop := handleLimitsUptoRow.holds Try.pinned (OpenSpec.upto handleLimitsSpec)

end Rows
end Go.Proofs.Ytkkgfnncdaiooaa
