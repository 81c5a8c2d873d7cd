/-
  No cell of these rows narrows 'for every input' (looked for: loops, veiled, ifaces, maps, wideKeys, modest, calm, conditions, laid).
  DERIVED. THE GIVEN ROWS OF THIS SEAT. 6 by the template 'for every input the law returns true; each argument reads behind the call as it read before'; 0 by the template 'total and deterministic' (their statements: YtoljknfmamkdpaaTotals.lean).
  GIVEN WITH THE SEED: the statements are not yours to turn. If you find one false, say at which input.
  Laid BY PROGRAM, IN A SANDBOX (cutbox-rows.mjs): the forced cells as the released guide's own fill.sh prints them over the translation 6c5d1692087ed9d3… (all of the seat's roots in one cut). By AI agents, Wed Nov 11 2026. No macro, syntax, notation, axiom, sorry.
-/
import Derived.Test.YtoljknfmamkdpaaChecked
import GoSem.Claim
import GoSem.ClaimJoined
import GoSem.ClaimMapViews
import Derived.JoinedTies
import Derived.KernelRfl
namespace Go.Proofs.Ytoljknfmamkdpaa
/- THE CELL 'sum', in the pinned program and in every row, IS THE sha256 OF THE DUMP (.gsa) THAT YtoljknfmamkdpaaProg.lean LOADS. Nothing in Lean hashes anything: it is a label: what it is worth is what the hold of that sum in a sandbox is worth. -/
noncomputable def Try.pinned : Pinned := { name := "ytoljknfmamkdpaa", sum := "6c5d1692087ed9d3934bf305e951464aa8da3e958a140dff16f0990326eb6b6f", checked := Try.checked }
namespace Rows
def none {H : Type} : Left H := { results := [], args := [] }

/-- 'shardqueuelaw01.OctetsNumbers': WHATEVER THE INPUT: true; the input reads as it did. -/
def octetsNumbersSpec : ChangeSpec := { name := "octetsNumbers", fn := fun _ => fun
  | [d1, d2, d3, d4] => { results := [.lit (.bool true)], args := [d1, d2, d3, d4] }
  | _ => none }
def octetsNumbersRow : OpenClaim := { program := "ytoljknfmamkdpaa", sum := "6c5d1692087ed9d3934bf305e951464aa8da3e958a140dff16f0990326eb6b6f", func := "shardqueue/shardqueuelaw01.OctetsNumbers", spec := "octetsNumbers", apart := false }
def OctetsNumbersSaid : Prop := octetsNumbersRow.holds Try.pinned (OpenSpec.ofChange octetsNumbersSpec)

/-- ITS FALSE NEIGHBOUR: 'it returns false'. Refute it at one input. -/
def octetsNumbersWrong : ChangeSpec := { name := "octetsNumbers", fn := fun _ => fun
  | [d1, d2, d3, d4] => { results := [.lit (.bool false)], args := [d1, d2, d3, d4] }
  | _ => none }
def OctetsNumbersWrongFalsely : Prop := octetsNumbersRow.holds Try.pinned (OpenSpec.ofChange octetsNumbersWrong)

/-- 'shardqueuelaw01.OctetsGroups': WHATEVER THE INPUT: true; the input reads as it did. -/
def octetsGroupsSpec : ChangeSpec := { name := "octetsGroups", fn := fun _ => fun
  | [d1, d2, d3] => { results := [.lit (.bool true)], args := [d1, d2, d3] }
  | _ => none }
def octetsGroupsRow : OpenClaim := { program := "ytoljknfmamkdpaa", sum := "6c5d1692087ed9d3934bf305e951464aa8da3e958a140dff16f0990326eb6b6f", func := "shardqueue/shardqueuelaw01.OctetsGroups", spec := "octetsGroups", apart := false }
def OctetsGroupsSaid : Prop := octetsGroupsRow.holds Try.pinned (OpenSpec.ofChange octetsGroupsSpec)

/-- ITS FALSE NEIGHBOUR: 'it returns false'. Refute it at one input. -/
def octetsGroupsWrong : ChangeSpec := { name := "octetsGroups", fn := fun _ => fun
  | [d1, d2, d3] => { results := [.lit (.bool false)], args := [d1, d2, d3] }
  | _ => none }
def OctetsGroupsWrongFalsely : Prop := octetsGroupsRow.holds Try.pinned (OpenSpec.ofChange octetsGroupsWrong)

/-- 'shardqueuelaw01.OctetsTexts': WHATEVER THE INPUT: true; the input reads as it did. -/
def octetsTextsSpec : ChangeSpec := { name := "octetsTexts", fn := fun _ => fun
  | [d1, d2, d3, d4] => { results := [.lit (.bool true)], args := [d1, d2, d3, d4] }
  | _ => none }
def octetsTextsRow : OpenClaim := { program := "ytoljknfmamkdpaa", sum := "6c5d1692087ed9d3934bf305e951464aa8da3e958a140dff16f0990326eb6b6f", func := "shardqueue/shardqueuelaw01.OctetsTexts", spec := "octetsTexts", apart := false }
def OctetsTextsSaid : Prop := octetsTextsRow.holds Try.pinned (OpenSpec.ofChange octetsTextsSpec)

/-- ITS FALSE NEIGHBOUR: 'it returns false'. Refute it at one input. -/
def octetsTextsWrong : ChangeSpec := { name := "octetsTexts", fn := fun _ => fun
  | [d1, d2, d3, d4] => { results := [.lit (.bool false)], args := [d1, d2, d3, d4] }
  | _ => none }
def OctetsTextsWrongFalsely : Prop := octetsTextsRow.holds Try.pinned (OpenSpec.ofChange octetsTextsWrong)

/-- 'shardqueuelaw01.OctetsBack': WHATEVER THE INPUT: true; the input reads as it did. -/
def octetsBackSpec : ChangeSpec := { name := "octetsBack", fn := fun _ => fun
  | [d1, d2, d3, d4, d5] => { results := [.lit (.bool true)], args := [d1, d2, d3, d4, d5] }
  | _ => none }
def octetsBackRow : OpenClaim := { program := "ytoljknfmamkdpaa", sum := "6c5d1692087ed9d3934bf305e951464aa8da3e958a140dff16f0990326eb6b6f", func := "shardqueue/shardqueuelaw01.OctetsBack", spec := "octetsBack", apart := false }
def OctetsBackSaid : Prop := octetsBackRow.holds Try.pinned (OpenSpec.ofChange octetsBackSpec)

/-- ITS FALSE NEIGHBOUR: 'it returns false'. Refute it at one input. -/
def octetsBackWrong : ChangeSpec := { name := "octetsBack", fn := fun _ => fun
  | [d1, d2, d3, d4, d5] => { results := [.lit (.bool false)], args := [d1, d2, d3, d4, d5] }
  | _ => none }
def OctetsBackWrongFalsely : Prop := octetsBackRow.holds Try.pinned (OpenSpec.ofChange octetsBackWrong)

/-- 'shardqueuelaw01.OctetsShortest': WHATEVER THE INPUT: true; the input reads as it did. -/
def octetsShortestSpec : ChangeSpec := { name := "octetsShortest", fn := fun _ => fun
  | [d] => { results := [.lit (.bool true)], args := [d] }
  | _ => none }
def octetsShortestRow : OpenClaim := { program := "ytoljknfmamkdpaa", sum := "6c5d1692087ed9d3934bf305e951464aa8da3e958a140dff16f0990326eb6b6f", func := "shardqueue/shardqueuelaw01.OctetsShortest", spec := "octetsShortest", apart := false }
def OctetsShortestSaid : Prop := octetsShortestRow.holds Try.pinned (OpenSpec.ofChange octetsShortestSpec)

/-- ITS FALSE NEIGHBOUR: 'it returns false'. Refute it at one input. -/
def octetsShortestWrong : ChangeSpec := { name := "octetsShortest", fn := fun _ => fun
  | [d] => { results := [.lit (.bool false)], args := [d] }
  | _ => none }
def OctetsShortestWrongFalsely : Prop := octetsShortestRow.holds Try.pinned (OpenSpec.ofChange octetsShortestWrong)

/-- 'shardqueuelaw01.OctetsSizes': WHATEVER THE INPUT: true; the input reads as it did. -/
def octetsSizesSpec : ChangeSpec := { name := "octetsSizes", fn := fun _ => fun
  | [d] => { results := [.lit (.bool true)], args := [d] }
  | _ => none }
def octetsSizesRow : OpenClaim := { program := "ytoljknfmamkdpaa", sum := "6c5d1692087ed9d3934bf305e951464aa8da3e958a140dff16f0990326eb6b6f", func := "shardqueue/shardqueuelaw01.OctetsSizes", spec := "octetsSizes", apart := false }
def OctetsSizesSaid : Prop := octetsSizesRow.holds Try.pinned (OpenSpec.ofChange octetsSizesSpec)

/-- ITS FALSE NEIGHBOUR: 'it returns false'. Refute it at one input. -/
def octetsSizesWrong : ChangeSpec := { name := "octetsSizes", fn := fun _ => fun
  | [d] => { results := [.lit (.bool false)], args := [d] }
  | _ => none }
def OctetsSizesWrongFalsely : Prop := octetsSizesRow.holds Try.pinned (OpenSpec.ofChange octetsSizesWrong)

/- THE SECOND FORM. 'bulk': how many values and letters a reading holds, each counted each time it is reached (what is shared counts as often as it is met; a slice's spare places count too). A statement '..UptoSaid' is the law's where the arguments, and the package variables that the reading takes, are together of bulk at most 1048576: NARROWER than '..Said'. Prove '..Said' where nothing that the law and all that it calls make is longer than what came in: it says more and counts as full. Else prove '..UptoSaid'. A law counts once. -/
mutual
def uptoBulk {H : Type} : DataW H → Nat
  | .lit (.string bytes) => bytes.length + 1
  | .lit _ => 1
  | .nil => 1
  | .ptr d => uptoBulk d + 1
  | .slice elems spare => uptoBulkAll elems + uptoBulkAll spare + 1
  | .agg parts => uptoBulkAll parts + 1
  | .iface _ d => uptoBulk d + 1
  | .map entries => uptoBulkEntries entries + 1
  | .held _ => 1
def uptoBulkAll {H : Type} : List (DataW H) → Nat
  | [] => 0
  | d :: r => uptoBulk d + uptoBulkAll r
def uptoBulkEntries {H : Type} : List (Lit × DataW H) → Nat
  | [] => 0
  | x :: r => uptoBulkEntry x + uptoBulkEntries r
def uptoBulkEntry {H : Type} : Lit × DataW H → Nat
  | (.string bytes, d) => bytes.length + uptoBulk d + 1
  | (_, d) => uptoBulk d + 1
 end
def uptoSmall : (H : Type) → List (DataW H) → Bool := fun _ ds => decide (uptoBulkAll ds ≤ 1048576)
def OpenSpec.upto (s : _root_.Go.ChangeSpec) : _root_.Go.OpenSpec := { _root_.Go.OpenSpec.ofChange s with cond := some uptoSmall }

/-- 'shardqueuelaw01.OctetsNumbers', WHERE WHAT IT READS IS OF BULK AT MOST 1048576: true; the input reads as it did. -/
def octetsNumbersUptoRow : OpenClaim := { program := "ytoljknfmamkdpaa", sum := "6c5d1692087ed9d3934bf305e951464aa8da3e958a140dff16f0990326eb6b6f", func := "shardqueue/shardqueuelaw01.OctetsNumbers", spec := "octetsNumbers", apart := false, narrowed := true }
def OctetsNumbersUptoSaid : Prop := octetsNumbersUptoRow.holds Try.pinned (OpenSpec.upto octetsNumbersSpec)

/-- 'shardqueuelaw01.OctetsGroups', WHERE WHAT IT READS IS OF BULK AT MOST 1048576: true; the input reads as it did. -/
def octetsGroupsUptoRow : OpenClaim := { program := "ytoljknfmamkdpaa", sum := "6c5d1692087ed9d3934bf305e951464aa8da3e958a140dff16f0990326eb6b6f", func := "shardqueue/shardqueuelaw01.OctetsGroups", spec := "octetsGroups", apart := false, narrowed := true }
def OctetsGroupsUptoSaid : Prop := octetsGroupsUptoRow.holds Try.pinned (OpenSpec.upto octetsGroupsSpec)

/-- 'shardqueuelaw01.OctetsTexts', WHERE WHAT IT READS IS OF BULK AT MOST 1048576: true; the input reads as it did. -/
def octetsTextsUptoRow : OpenClaim := { program := "ytoljknfmamkdpaa", sum := "6c5d1692087ed9d3934bf305e951464aa8da3e958a140dff16f0990326eb6b6f", func := "shardqueue/shardqueuelaw01.OctetsTexts", spec := "octetsTexts", apart := false, narrowed := true }
def OctetsTextsUptoSaid : Prop := octetsTextsUptoRow.holds Try.pinned (OpenSpec.upto octetsTextsSpec)

/-- 'shardqueuelaw01.OctetsBack', WHERE WHAT IT READS IS OF BULK AT MOST 1048576: true; the input reads as it did. -/
def octetsBackUptoRow : OpenClaim := { program := "ytoljknfmamkdpaa", sum := "6c5d1692087ed9d3934bf305e951464aa8da3e958a140dff16f0990326eb6b6f", func := "shardqueue/shardqueuelaw01.OctetsBack", spec := "octetsBack", apart := false, narrowed := true }
def OctetsBackUptoSaid : Prop := octetsBackUptoRow.holds Try.pinned (OpenSpec.upto octetsBackSpec)

/-- 'shardqueuelaw01.OctetsShortest', WHERE WHAT IT READS IS OF BULK AT MOST 1048576: true; the input reads as it did. -/
def octetsShortestUptoRow : OpenClaim := { program := "ytoljknfmamkdpaa", sum := "6c5d1692087ed9d3934bf305e951464aa8da3e958a140dff16f0990326eb6b6f", func := "shardqueue/shardqueuelaw01.OctetsShortest", spec := "octetsShortest", apart := false, narrowed := true }
def OctetsShortestUptoSaid : Prop := octetsShortestUptoRow.holds Try.pinned (OpenSpec.upto octetsShortestSpec)

/-- 'shardqueuelaw01.OctetsSizes', WHERE WHAT IT READS IS OF BULK AT MOST 1048576: true; the input reads as it did. -/
def octetsSizesUptoRow : OpenClaim := { program := "ytoljknfmamkdpaa", sum := "6c5d1692087ed9d3934bf305e951464aa8da3e958a140dff16f0990326eb6b6f", func := "shardqueue/shardqueuelaw01.OctetsSizes", spec := "octetsSizes", apart := false, narrowed := true }
def OctetsSizesUptoSaid : Prop := octetsSizesUptoRow.holds Try.pinned (OpenSpec.upto octetsSizesSpec)

end Rows
end Go.Proofs.Ytoljknfmamkdpaa
