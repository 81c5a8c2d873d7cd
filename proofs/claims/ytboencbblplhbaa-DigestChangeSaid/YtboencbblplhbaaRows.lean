/-
  No cell of these rows narrows 'for every input' (looked for: loops, veiled, ifaces, maps, wideKeys, modest, calm, conditions, laid).
  DERIVED. THE GIVEN ROWS OF THIS SEAT. 5 by the template 'for every input the law returns true; each argument reads behind the call as it read before'; 0 by the template 'total and deterministic' (their statements: YtboencbblplhbaaTotals.lean).
  GIVEN WITH THE SEED: the statements are not yours to turn. If you find one false, say at which input.
  Laid BY PROGRAM, IN A SANDBOX (cutbox-rows.mjs): the forced cells as the released guide's own fill.sh prints them over the translation 33619a1d25caa036… (all of the seat's roots in one cut). By AI agents, Wed Nov 11 2026. No macro, syntax, notation, axiom, sorry.
-/
import Derived.Test.YtboencbblplhbaaChecked
import GoSem.Claim
import GoSem.ClaimJoined
import GoSem.ClaimMapViews
import Derived.JoinedTies
import Derived.KernelRfl
namespace Go.Proofs.Ytboencbblplhbaa
/- THE CELL 'sum', in the pinned program and in every row, IS THE sha256 OF THE DUMP (.gsa) THAT YtboencbblplhbaaProg.lean LOADS. Nothing in Lean hashes anything: it is a label: what it is worth is what the hold of that sum in a sandbox is worth. -/
noncomputable def Try.pinned : Pinned := { name := "ytboencbblplhbaa", sum := "33619a1d25caa036dec46acbfe3fe0fb2c9724c4792318d6325d81e342095ab6", checked := Try.checked }
namespace Rows
def none {H : Type} : Left H := { results := [], args := [] }

/-- 'shardqueuelaw02.DigestSums': WHATEVER THE INPUT: true; the input reads as it did. -/
def digestSumsSpec : ChangeSpec := { name := "digestSums", fn := fun _ => fun
  | [d] => { results := [.lit (.bool true)], args := [d] }
  | _ => none }
def digestSumsRow : OpenClaim := { program := "ytboencbblplhbaa", sum := "33619a1d25caa036dec46acbfe3fe0fb2c9724c4792318d6325d81e342095ab6", func := "shardqueue/shardqueuelaw02.DigestSums", spec := "digestSums", apart := false }
def DigestSumsSaid : Prop := digestSumsRow.holds Try.pinned (OpenSpec.ofChange digestSumsSpec)

/-- ITS FALSE NEIGHBOUR: 'it returns false'. Refute it at one input. -/
def digestSumsWrong : ChangeSpec := { name := "digestSums", fn := fun _ => fun
  | [d] => { results := [.lit (.bool false)], args := [d] }
  | _ => none }
def DigestSumsWrongFalsely : Prop := digestSumsRow.holds Try.pinned (OpenSpec.ofChange digestSumsWrong)

/-- 'shardqueuelaw02.DigestRoutes': WHATEVER THE INPUT: true; the input reads as it did. -/
def digestRoutesSpec : ChangeSpec := { name := "digestRoutes", fn := fun _ => fun
  | [d1, d2, d3, d4] => { results := [.lit (.bool true)], args := [d1, d2, d3, d4] }
  | _ => none }
def digestRoutesRow : OpenClaim := { program := "ytboencbblplhbaa", sum := "33619a1d25caa036dec46acbfe3fe0fb2c9724c4792318d6325d81e342095ab6", func := "shardqueue/shardqueuelaw02.DigestRoutes", spec := "digestRoutes", apart := false }
def DigestRoutesSaid : Prop := digestRoutesRow.holds Try.pinned (OpenSpec.ofChange digestRoutesSpec)

/-- ITS FALSE NEIGHBOUR: 'it returns false'. Refute it at one input. -/
def digestRoutesWrong : ChangeSpec := { name := "digestRoutes", fn := fun _ => fun
  | [d1, d2, d3, d4] => { results := [.lit (.bool false)], args := [d1, d2, d3, d4] }
  | _ => none }
def DigestRoutesWrongFalsely : Prop := digestRoutesRow.holds Try.pinned (OpenSpec.ofChange digestRoutesWrong)

/-- 'shardqueuelaw02.DigestInto': WHATEVER THE INPUT: true; the input reads as it did. -/
def digestIntoSpec : ChangeSpec := { name := "digestInto", fn := fun _ => fun
  | [d1, d2, d3] => { results := [.lit (.bool true)], args := [d1, d2, d3] }
  | _ => none }
def digestIntoRow : OpenClaim := { program := "ytboencbblplhbaa", sum := "33619a1d25caa036dec46acbfe3fe0fb2c9724c4792318d6325d81e342095ab6", func := "shardqueue/shardqueuelaw02.DigestInto", spec := "digestInto", apart := false }
def DigestIntoSaid : Prop := digestIntoRow.holds Try.pinned (OpenSpec.ofChange digestIntoSpec)

/-- ITS FALSE NEIGHBOUR: 'it returns false'. Refute it at one input. -/
def digestIntoWrong : ChangeSpec := { name := "digestInto", fn := fun _ => fun
  | [d1, d2, d3] => { results := [.lit (.bool false)], args := [d1, d2, d3] }
  | _ => none }
def DigestIntoWrongFalsely : Prop := digestIntoRow.holds Try.pinned (OpenSpec.ofChange digestIntoWrong)

/-- 'shardqueuelaw02.DigestChange': WHATEVER THE INPUT: true; the input reads as it did. -/
def digestChangeSpec : ChangeSpec := { name := "digestChange", fn := fun _ => fun
  | [d1, d2, d3] => { results := [.lit (.bool true)], args := [d1, d2, d3] }
  | _ => none }
def digestChangeRow : OpenClaim := { program := "ytboencbblplhbaa", sum := "33619a1d25caa036dec46acbfe3fe0fb2c9724c4792318d6325d81e342095ab6", func := "shardqueue/shardqueuelaw02.DigestChange", spec := "digestChange", apart := false }
def DigestChangeSaid : Prop := digestChangeRow.holds Try.pinned (OpenSpec.ofChange digestChangeSpec)

/-- ITS FALSE NEIGHBOUR: 'it returns false'. Refute it at one input. -/
def digestChangeWrong : ChangeSpec := { name := "digestChange", fn := fun _ => fun
  | [d1, d2, d3] => { results := [.lit (.bool false)], args := [d1, d2, d3] }
  | _ => none }
def DigestChangeWrongFalsely : Prop := digestChangeRow.holds Try.pinned (OpenSpec.ofChange digestChangeWrong)

/-- 'shardqueuelaw02.DigestSpread': WHATEVER THE INPUT: true; the input reads as it did. -/
def digestSpreadSpec : ChangeSpec := { name := "digestSpread", fn := fun _ => fun
  | [d] => { results := [.lit (.bool true)], args := [d] }
  | _ => none }
def digestSpreadRow : OpenClaim := { program := "ytboencbblplhbaa", sum := "33619a1d25caa036dec46acbfe3fe0fb2c9724c4792318d6325d81e342095ab6", func := "shardqueue/shardqueuelaw02.DigestSpread", spec := "digestSpread", apart := false }
def DigestSpreadSaid : Prop := digestSpreadRow.holds Try.pinned (OpenSpec.ofChange digestSpreadSpec)

/-- ITS FALSE NEIGHBOUR: 'it returns false'. Refute it at one input. -/
def digestSpreadWrong : ChangeSpec := { name := "digestSpread", fn := fun _ => fun
  | [d] => { results := [.lit (.bool false)], args := [d] }
  | _ => none }
def DigestSpreadWrongFalsely : Prop := digestSpreadRow.holds Try.pinned (OpenSpec.ofChange digestSpreadWrong)

/- THE SECOND FORM. 'bulk': how many values and letters a reading holds, each counted each time it is reached (what is shared counts as often as it is met; a slice's spare places count too). A statement '..UptoSaid' is the law's where the arguments, and the package variables that the reading takes, are together of bulk at most 1048576: NARROWER than '..Said'. Prove '..Said' where nothing that the law and all that it calls make is longer than what came in: it says more and counts as full. Else prove '..UptoSaid'. A law counts once. -/
mutual
def uptoBulk {H : Type} : DataW H → Nat
  | .lit (.string bytes) => bytes.length + 1
  | .lit _ => 1
  | .nil => 1
  | .ptr d => uptoBulk d + 1
  | .slice elems spare => uptoBulkAll elems + uptoBulkAll spare + 1
  | .agg parts => uptoBulkAll parts + 1
  | .iface _ d => uptoBulk d + 1
  | .map entries => uptoBulkEntries entries + 1
  | .held _ => 1
def uptoBulkAll {H : Type} : List (DataW H) → Nat
  | [] => 0
  | d :: r => uptoBulk d + uptoBulkAll r
def uptoBulkEntries {H : Type} : List (Lit × DataW H) → Nat
  | [] => 0
  | x :: r => uptoBulkEntry x + uptoBulkEntries r
def uptoBulkEntry {H : Type} : Lit × DataW H → Nat
  | (.string bytes, d) => bytes.length + uptoBulk d + 1
  | (_, d) => uptoBulk d + 1
 end
def uptoSmall : (H : Type) → List (DataW H) → Bool := fun _ ds => decide (uptoBulkAll ds ≤ 1048576)
def OpenSpec.upto (s : _root_.Go.ChangeSpec) : _root_.Go.OpenSpec := { _root_.Go.OpenSpec.ofChange s with cond := some uptoSmall }

/-- 'shardqueuelaw02.DigestSums', WHERE WHAT IT READS IS OF BULK AT MOST 1048576: true; the input reads as it did. -/
def digestSumsUptoRow : OpenClaim := { program := "ytboencbblplhbaa", sum := "33619a1d25caa036dec46acbfe3fe0fb2c9724c4792318d6325d81e342095ab6", func := "shardqueue/shardqueuelaw02.DigestSums", spec := "digestSums", apart := false, narrowed := true }
def DigestSumsUptoSaid : Prop := digestSumsUptoRow.holds Try.pinned (OpenSpec.upto digestSumsSpec)

/-- 'shardqueuelaw02.DigestRoutes', WHERE WHAT IT READS IS OF BULK AT MOST 1048576: true; the input reads as it did. -/
def digestRoutesUptoRow : OpenClaim := { program := "ytboencbblplhbaa", sum := "33619a1d25caa036dec46acbfe3fe0fb2c9724c4792318d6325d81e342095ab6", func := "shardqueue/shardqueuelaw02.DigestRoutes", spec := "digestRoutes", apart := false, narrowed := true }
def DigestRoutesUptoSaid : Prop := digestRoutesUptoRow.holds Try.pinned (OpenSpec.upto digestRoutesSpec)

/-- 'shardqueuelaw02.DigestInto', WHERE WHAT IT READS IS OF BULK AT MOST 1048576: true; the input reads as it did. -/
def digestIntoUptoRow : OpenClaim := { program := "ytboencbblplhbaa", sum := "33619a1d25caa036dec46acbfe3fe0fb2c9724c4792318d6325d81e342095ab6", func := "shardqueue/shardqueuelaw02.DigestInto", spec := "digestInto", apart := false, narrowed := true }
def DigestIntoUptoSaid : Prop := digestIntoUptoRow.holds Try.pinned (OpenSpec.upto digestIntoSpec)

/-- 'shardqueuelaw02.DigestChange', WHERE WHAT IT READS IS OF BULK AT MOST 1048576: true; the input reads as it did. -/
def digestChangeUptoRow : OpenClaim := { program := "ytboencbblplhbaa", sum := "33619a1d25caa036dec46acbfe3fe0fb2c9724c4792318d6325d81e342095ab6", func := "shardqueue/shardqueuelaw02.DigestChange", spec := "digestChange", apart := false, narrowed := true }
def DigestChangeUptoSaid : Prop := digestChangeUptoRow.holds Try.pinned (OpenSpec.upto digestChangeSpec)

/-- 'shardqueuelaw02.DigestSpread', WHERE WHAT IT READS IS OF BULK AT MOST 1048576: true; the input reads as it did. -/
def digestSpreadUptoRow : OpenClaim := { program := "ytboencbblplhbaa", sum := "33619a1d25caa036dec46acbfe3fe0fb2c9724c4792318d6325d81e342095ab6", func := "shardqueue/shardqueuelaw02.DigestSpread", spec := "digestSpread", apart := false, narrowed := true }
def DigestSpreadUptoSaid : Prop := digestSpreadUptoRow.holds Try.pinned (OpenSpec.upto digestSpreadSpec)

end Rows
end Go.Proofs.Ytboencbblplhbaa
