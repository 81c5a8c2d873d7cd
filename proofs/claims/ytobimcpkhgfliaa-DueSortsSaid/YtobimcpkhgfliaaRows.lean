/-
  No cell of these rows narrows 'for every input' (looked for: loops, veiled, ifaces, maps, wideKeys, modest, calm, conditions, laid).
  DERIVED. THE GIVEN ROWS OF THIS SEAT. 6 by the template 'for every input the law returns true; each argument reads behind the call as it read before'; 0 by the template 'total and deterministic' (their statements: YtobimcpkhgfliaaTotals.lean).
  GIVEN WITH THE SEED: the statements are not yours to turn. If you find one false, say at which input.
  Laid BY PROGRAM, IN A SANDBOX (cutbox-rows.mjs): the forced cells as the released guide's own fill.sh prints them over the translation 03ddc2e3935dbbd0… (all of the seat's roots in one cut). By AI agents, Wed Nov 11 2026. No macro, syntax, notation, axiom, sorry.
-/
import Derived.Test.YtobimcpkhgfliaaChecked
import GoSem.Claim
import GoSem.ClaimJoined
import GoSem.ClaimMapViews
import Derived.JoinedTies
import Derived.KernelRfl
namespace Go.Proofs.Ytobimcpkhgfliaa
/- THE CELL 'sum', in the pinned program and in every row, IS THE sha256 OF THE DUMP (.gsa) THAT YtobimcpkhgfliaaProg.lean LOADS. Nothing in Lean hashes anything: it is a label: what it is worth is what the hold of that sum in a sandbox is worth. -/
noncomputable def Try.pinned : Pinned := { name := "ytobimcpkhgfliaa", sum := "03ddc2e3935dbbd0b80abc10fda8839d41227a7a77d5546b5863f200ffea3636", checked := Try.checked }
namespace Rows
def none {H : Type} : Left H := { results := [], args := [] }

/-- 'shardqueuelaw05.DueRaw': WHATEVER THE INPUT: true; the input reads as it did. -/
def dueRawSpec : ChangeSpec := { name := "dueRaw", fn := fun _ => fun
  | [d1, d2, d3, d4] => { results := [.lit (.bool true)], args := [d1, d2, d3, d4] }
  | _ => none }
def dueRawRow : OpenClaim := { program := "ytobimcpkhgfliaa", sum := "03ddc2e3935dbbd0b80abc10fda8839d41227a7a77d5546b5863f200ffea3636", func := "shardqueue/shardqueuelaw05.DueRaw", spec := "dueRaw", unfollowed := true, recurses := true, apart := false }
def DueRawSaid : Prop := dueRawRow.holds Try.pinned (OpenSpec.ofChange dueRawSpec)

/-- ITS FALSE NEIGHBOUR: 'it returns false'. Refute it at one input. -/
def dueRawWrong : ChangeSpec := { name := "dueRaw", fn := fun _ => fun
  | [d1, d2, d3, d4] => { results := [.lit (.bool false)], args := [d1, d2, d3, d4] }
  | _ => none }
def DueRawWrongFalsely : Prop := dueRawRow.holds Try.pinned (OpenSpec.ofChange dueRawWrong)

/-- 'shardqueuelaw05.DueBuilt': WHATEVER THE INPUT: true; the input reads as it did. -/
def dueBuiltSpec : ChangeSpec := { name := "dueBuilt", fn := fun _ => fun
  | [d] => { results := [.lit (.bool true)], args := [d] }
  | _ => none }
def dueBuiltRow : OpenClaim := { program := "ytobimcpkhgfliaa", sum := "03ddc2e3935dbbd0b80abc10fda8839d41227a7a77d5546b5863f200ffea3636", func := "shardqueue/shardqueuelaw05.DueBuilt", spec := "dueBuilt", unfollowed := true, recurses := true, apart := false }
def DueBuiltSaid : Prop := dueBuiltRow.holds Try.pinned (OpenSpec.ofChange dueBuiltSpec)

/-- ITS FALSE NEIGHBOUR: 'it returns false'. Refute it at one input. -/
def dueBuiltWrong : ChangeSpec := { name := "dueBuilt", fn := fun _ => fun
  | [d] => { results := [.lit (.bool false)], args := [d] }
  | _ => none }
def DueBuiltWrongFalsely : Prop := dueBuiltRow.holds Try.pinned (OpenSpec.ofChange dueBuiltWrong)

/-- 'shardqueuelaw05.DueSorts': WHATEVER THE INPUT: true; the input reads as it did. -/
def dueSortsSpec : ChangeSpec := { name := "dueSorts", fn := fun _ => fun
  | [d] => { results := [.lit (.bool true)], args := [d] }
  | _ => none }
def dueSortsRow : OpenClaim := { program := "ytobimcpkhgfliaa", sum := "03ddc2e3935dbbd0b80abc10fda8839d41227a7a77d5546b5863f200ffea3636", func := "shardqueue/shardqueuelaw05.DueSorts", spec := "dueSorts", unfollowed := true, recurses := true, apart := false }
def DueSortsSaid : Prop := dueSortsRow.holds Try.pinned (OpenSpec.ofChange dueSortsSpec)

/-- ITS FALSE NEIGHBOUR: 'it returns false'. Refute it at one input. -/
def dueSortsWrong : ChangeSpec := { name := "dueSorts", fn := fun _ => fun
  | [d] => { results := [.lit (.bool false)], args := [d] }
  | _ => none }
def DueSortsWrongFalsely : Prop := dueSortsRow.holds Try.pinned (OpenSpec.ofChange dueSortsWrong)

/-- 'shardqueuelaw05.DueRemoves': WHATEVER THE INPUT: true; the input reads as it did. -/
def dueRemovesSpec : ChangeSpec := { name := "dueRemoves", fn := fun _ => fun
  | [d] => { results := [.lit (.bool true)], args := [d] }
  | _ => none }
def dueRemovesRow : OpenClaim := { program := "ytobimcpkhgfliaa", sum := "03ddc2e3935dbbd0b80abc10fda8839d41227a7a77d5546b5863f200ffea3636", func := "shardqueue/shardqueuelaw05.DueRemoves", spec := "dueRemoves", unfollowed := true, recurses := true, apart := false }
def DueRemovesSaid : Prop := dueRemovesRow.holds Try.pinned (OpenSpec.ofChange dueRemovesSpec)

/-- ITS FALSE NEIGHBOUR: 'it returns false'. Refute it at one input. -/
def dueRemovesWrong : ChangeSpec := { name := "dueRemoves", fn := fun _ => fun
  | [d] => { results := [.lit (.bool false)], args := [d] }
  | _ => none }
def DueRemovesWrongFalsely : Prop := dueRemovesRow.holds Try.pinned (OpenSpec.ofChange dueRemovesWrong)

/-- 'shardqueuelaw05.DueUntil': WHATEVER THE INPUT: true; the input reads as it did. -/
def dueUntilSpec : ChangeSpec := { name := "dueUntil", fn := fun _ => fun
  | [d1, d2] => { results := [.lit (.bool true)], args := [d1, d2] }
  | _ => none }
def dueUntilRow : OpenClaim := { program := "ytobimcpkhgfliaa", sum := "03ddc2e3935dbbd0b80abc10fda8839d41227a7a77d5546b5863f200ffea3636", func := "shardqueue/shardqueuelaw05.DueUntil", spec := "dueUntil", unfollowed := true, recurses := true, apart := false }
def DueUntilSaid : Prop := dueUntilRow.holds Try.pinned (OpenSpec.ofChange dueUntilSpec)

/-- ITS FALSE NEIGHBOUR: 'it returns false'. Refute it at one input. -/
def dueUntilWrong : ChangeSpec := { name := "dueUntil", fn := fun _ => fun
  | [d1, d2] => { results := [.lit (.bool false)], args := [d1, d2] }
  | _ => none }
def DueUntilWrongFalsely : Prop := dueUntilRow.holds Try.pinned (OpenSpec.ofChange dueUntilWrong)

/-- 'shardqueuelaw05.DueFull': WHATEVER THE INPUT: true; the input reads as it did. -/
def dueFullSpec : ChangeSpec := { name := "dueFull", fn := fun _ => fun
  | [d] => { results := [.lit (.bool true)], args := [d] }
  | _ => none }
def dueFullRow : OpenClaim := { program := "ytobimcpkhgfliaa", sum := "03ddc2e3935dbbd0b80abc10fda8839d41227a7a77d5546b5863f200ffea3636", func := "shardqueue/shardqueuelaw05.DueFull", spec := "dueFull", unfollowed := true, recurses := true, apart := false }
def DueFullSaid : Prop := dueFullRow.holds Try.pinned (OpenSpec.ofChange dueFullSpec)

/-- ITS FALSE NEIGHBOUR: 'it returns false'. Refute it at one input. -/
def dueFullWrong : ChangeSpec := { name := "dueFull", fn := fun _ => fun
  | [d] => { results := [.lit (.bool false)], args := [d] }
  | _ => none }
def DueFullWrongFalsely : Prop := dueFullRow.holds Try.pinned (OpenSpec.ofChange dueFullWrong)

/- THE SECOND FORM. 'bulk': how many values and letters a reading holds, each counted each time it is reached (what is shared counts as often as it is met; a slice's spare places count too). A statement '..UptoSaid' is the law's where the arguments, and the package variables that the reading takes, are together of bulk at most 1048576: NARROWER than '..Said'. Prove '..Said' where nothing that the law and all that it calls make is longer than what came in: it says more and counts as full. Else prove '..UptoSaid'. A law counts once. -/
mutual
def uptoBulk {H : Type} : DataW H → Nat
  | .lit (.string bytes) => bytes.length + 1
  | .lit _ => 1
  | .nil => 1
  | .ptr d => uptoBulk d + 1
  | .slice elems spare => uptoBulkAll elems + uptoBulkAll spare + 1
  | .agg parts => uptoBulkAll parts + 1
  | .iface _ d => uptoBulk d + 1
  | .map entries => uptoBulkEntries entries + 1
  | .held _ => 1
def uptoBulkAll {H : Type} : List (DataW H) → Nat
  | [] => 0
  | d :: r => uptoBulk d + uptoBulkAll r
def uptoBulkEntries {H : Type} : List (Lit × DataW H) → Nat
  | [] => 0
  | x :: r => uptoBulkEntry x + uptoBulkEntries r
def uptoBulkEntry {H : Type} : Lit × DataW H → Nat
  | (.string bytes, d) => bytes.length + uptoBulk d + 1
  | (_, d) => uptoBulk d + 1
 end
def uptoSmall : (H : Type) → List (DataW H) → Bool := fun _ ds => decide (uptoBulkAll ds ≤ 1048576)
def OpenSpec.upto (s : _root_.Go.ChangeSpec) : _root_.Go.OpenSpec := { _root_.Go.OpenSpec.ofChange s with cond := some uptoSmall }

/-- 'shardqueuelaw05.DueRaw', WHERE WHAT IT READS IS OF BULK AT MOST 1048576: true; the input reads as it did. -/
def dueRawUptoRow : OpenClaim := { program := "ytobimcpkhgfliaa", sum := "03ddc2e3935dbbd0b80abc10fda8839d41227a7a77d5546b5863f200ffea3636", func := "shardqueue/shardqueuelaw05.DueRaw", spec := "dueRaw", unfollowed := true, recurses := true, apart := false, narrowed := true }
def DueRawUptoSaid : Prop := dueRawUptoRow.holds Try.pinned (OpenSpec.upto dueRawSpec)

/-- 'shardqueuelaw05.DueBuilt', WHERE WHAT IT READS IS OF BULK AT MOST 1048576: true; the input reads as it did. -/
def dueBuiltUptoRow : OpenClaim := { program := "ytobimcpkhgfliaa", sum := "03ddc2e3935dbbd0b80abc10fda8839d41227a7a77d5546b5863f200ffea3636", func := "shardqueue/shardqueuelaw05.DueBuilt", spec := "dueBuilt", unfollowed := true, recurses := true, apart := false, narrowed := true }
def DueBuiltUptoSaid : Prop := dueBuiltUptoRow.holds Try.pinned (OpenSpec.upto dueBuiltSpec)

/-- 'shardqueuelaw05.DueSorts', WHERE WHAT IT READS IS OF BULK AT MOST 1048576: true; the input reads as it did. -/
def dueSortsUptoRow : OpenClaim := { program := "ytobimcpkhgfliaa", sum := "03ddc2e3935dbbd0b80abc10fda8839d41227a7a77d5546b5863f200ffea3636", func := "shardqueue/shardqueuelaw05.DueSorts", spec := "dueSorts", unfollowed := true, recurses := true, apart := false, narrowed := true }
def DueSortsUptoSaid : Prop := dueSortsUptoRow.holds Try.pinned (OpenSpec.upto dueSortsSpec)

/-- 'shardqueuelaw05.DueRemoves', WHERE WHAT IT READS IS OF BULK AT MOST 1048576: true; the input reads as it did. -/
def dueRemovesUptoRow : OpenClaim := { program := "ytobimcpkhgfliaa", sum := "03ddc2e3935dbbd0b80abc10fda8839d41227a7a77d5546b5863f200ffea3636", func := "shardqueue/shardqueuelaw05.DueRemoves", spec := "dueRemoves", unfollowed := true, recurses := true, apart := false, narrowed := true }
def DueRemovesUptoSaid : Prop := dueRemovesUptoRow.holds Try.pinned (OpenSpec.upto dueRemovesSpec)

/-- 'shardqueuelaw05.DueUntil', WHERE WHAT IT READS IS OF BULK AT MOST 1048576: true; the input reads as it did. -/
def dueUntilUptoRow : OpenClaim := { program := "ytobimcpkhgfliaa", sum := "03ddc2e3935dbbd0b80abc10fda8839d41227a7a77d5546b5863f200ffea3636", func := "shardqueue/shardqueuelaw05.DueUntil", spec := "dueUntil", unfollowed := true, recurses := true, apart := false, narrowed := true }
def DueUntilUptoSaid : Prop := dueUntilUptoRow.holds Try.pinned (OpenSpec.upto dueUntilSpec)

/-- 'shardqueuelaw05.DueFull', WHERE WHAT IT READS IS OF BULK AT MOST 1048576: true; the input reads as it did. -/
def dueFullUptoRow : OpenClaim := { program := "ytobimcpkhgfliaa", sum := "03ddc2e3935dbbd0b80abc10fda8839d41227a7a77d5546b5863f200ffea3636", func := "shardqueue/shardqueuelaw05.DueFull", spec := "dueFull", unfollowed := true, recurses := true, apart := false, narrowed := true }
def DueFullUptoSaid : Prop := dueFullUptoRow.holds Try.pinned (OpenSpec.upto dueFullSpec)

end Rows
end Go.Proofs.Ytobimcpkhgfliaa
