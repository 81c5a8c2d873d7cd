/-
  No cell of these rows narrows 'for every input' (looked for: loops, veiled, ifaces, maps, wideKeys, modest, calm, conditions, laid).
  DERIVED. THE GIVEN ROWS OF THIS SEAT. 3 by the template 'for every input the law returns true; each argument reads behind the call as it read before'; 0 by the template 'total and deterministic' (their statements: YtjclhlejbidpgaaTotals.lean).
  GIVEN WITH THE SEED: the statements are not yours to turn. If you find one false, say at which input.
  Laid BY PROGRAM, IN A SANDBOX (cutbox-rows.mjs): the forced cells as the released guide's own fill.sh prints them over the translation a52140d78093a963… (all of the seat's roots in one cut). By AI agents, Wed Nov 11 2026. No macro, syntax, notation, axiom, sorry.
-/
import Derived.Test.YtjclhlejbidpgaaChecked
import GoSem.Claim
import GoSem.ClaimJoined
import GoSem.ClaimMapViews
import Derived.JoinedTies
import Derived.KernelRfl
namespace Go.Proofs.Ytjclhlejbidpgaa
/- THE CELL 'sum', in the pinned program and in every row, IS THE sha256 OF THE DUMP (.gsa) THAT YtjclhlejbidpgaaProg.lean LOADS. Nothing in Lean hashes anything: it is a label: what it is worth is what the hold of that sum in a sandbox is worth. -/
noncomputable def Try.pinned : Pinned := { name := "ytjclhlejbidpgaa", sum := "a52140d78093a9630c9d0f8d65dc3c0541cd000add4c1c9e2a45b4c41f7e682a", checked := Try.checked }
namespace Rows
def none {H : Type} : Left H := { results := [], args := [] }

/-- 'shardqueuelaw06.LeaseScript': WHATEVER THE INPUT: true; the input reads as it did. -/
def leaseScriptSpec : ChangeSpec := { name := "leaseScript", fn := fun _ => fun
  | [d] => { results := [.lit (.bool true)], args := [d] }
  | _ => none }
def leaseScriptRow : OpenClaim := { program := "ytjclhlejbidpgaa", sum := "a52140d78093a9630c9d0f8d65dc3c0541cd000add4c1c9e2a45b4c41f7e682a", func := "shardqueue/shardqueuelaw06.LeaseScript", spec := "leaseScript", inPlace := ["slices.overlaps[shardqueue/api.Lease]"], unfollowed := true, recurses := true, apart := false }
def LeaseScriptSaid : Prop := leaseScriptRow.holds Try.pinned (OpenSpec.ofChange leaseScriptSpec)

/-- ITS FALSE NEIGHBOUR: 'it returns false'. Refute it at one input. -/
def leaseScriptWrong : ChangeSpec := { name := "leaseScript", fn := fun _ => fun
  | [d] => { results := [.lit (.bool false)], args := [d] }
  | _ => none }
def LeaseScriptWrongFalsely : Prop := leaseScriptRow.holds Try.pinned (OpenSpec.ofChange leaseScriptWrong)

/-- 'shardqueuelaw06.LeaseLapses': WHATEVER THE INPUT: true; the input reads as it did. -/
def leaseLapsesSpec : ChangeSpec := { name := "leaseLapses", fn := fun _ => fun
  | [d1, d2, d3] => { results := [.lit (.bool true)], args := [d1, d2, d3] }
  | _ => none }
def leaseLapsesRow : OpenClaim := { program := "ytjclhlejbidpgaa", sum := "a52140d78093a9630c9d0f8d65dc3c0541cd000add4c1c9e2a45b4c41f7e682a", func := "shardqueue/shardqueuelaw06.LeaseLapses", spec := "leaseLapses", inPlace := ["slices.overlaps[shardqueue/api.Lease]"], unfollowed := true, recurses := true, apart := false }
def LeaseLapsesSaid : Prop := leaseLapsesRow.holds Try.pinned (OpenSpec.ofChange leaseLapsesSpec)

/-- ITS FALSE NEIGHBOUR: 'it returns false'. Refute it at one input. -/
def leaseLapsesWrong : ChangeSpec := { name := "leaseLapses", fn := fun _ => fun
  | [d1, d2, d3] => { results := [.lit (.bool false)], args := [d1, d2, d3] }
  | _ => none }
def LeaseLapsesWrongFalsely : Prop := leaseLapsesRow.holds Try.pinned (OpenSpec.ofChange leaseLapsesWrong)

/-- 'shardqueuelaw06.LeaseFull': WHATEVER THE INPUT: true; the input reads as it did. -/
def leaseFullSpec : ChangeSpec := { name := "leaseFull", fn := fun _ => fun
  | [d] => { results := [.lit (.bool true)], args := [d] }
  | _ => none }
def leaseFullRow : OpenClaim := { program := "ytjclhlejbidpgaa", sum := "a52140d78093a9630c9d0f8d65dc3c0541cd000add4c1c9e2a45b4c41f7e682a", func := "shardqueue/shardqueuelaw06.LeaseFull", spec := "leaseFull", inPlace := ["slices.overlaps[shardqueue/api.Lease]"], unfollowed := true, recurses := true, apart := false }
def LeaseFullSaid : Prop := leaseFullRow.holds Try.pinned (OpenSpec.ofChange leaseFullSpec)

/-- ITS FALSE NEIGHBOUR: 'it returns false'. Refute it at one input. -/
def leaseFullWrong : ChangeSpec := { name := "leaseFull", fn := fun _ => fun
  | [d] => { results := [.lit (.bool false)], args := [d] }
  | _ => none }
def LeaseFullWrongFalsely : Prop := leaseFullRow.holds Try.pinned (OpenSpec.ofChange leaseFullWrong)

/- THE SECOND FORM. 'bulk': how many values and letters a reading holds, each counted each time it is reached (what is shared counts as often as it is met; a slice's spare places count too). A statement '..UptoSaid' is the law's where the arguments, and the package variables that the reading takes, are together of bulk at most 1048576: NARROWER than '..Said'. Prove '..Said' where nothing that the law and all that it calls make is longer than what came in: it says more and counts as full. Else prove '..UptoSaid'. A law counts once. -/
mutual
def uptoBulk {H : Type} : DataW H → Nat
  | .lit (.string bytes) => bytes.length + 1
  | .lit _ => 1
  | .nil => 1
  | .ptr d => uptoBulk d + 1
  | .slice elems spare => uptoBulkAll elems + uptoBulkAll spare + 1
  | .agg parts => uptoBulkAll parts + 1
  | .iface _ d => uptoBulk d + 1
  | .map entries => uptoBulkEntries entries + 1
  | .held _ => 1
def uptoBulkAll {H : Type} : List (DataW H) → Nat
  | [] => 0
  | d :: r => uptoBulk d + uptoBulkAll r
def uptoBulkEntries {H : Type} : List (Lit × DataW H) → Nat
  | [] => 0
  | x :: r => uptoBulkEntry x + uptoBulkEntries r
def uptoBulkEntry {H : Type} : Lit × DataW H → Nat
  | (.string bytes, d) => bytes.length + uptoBulk d + 1
  | (_, d) => uptoBulk d + 1
 end
def uptoSmall : (H : Type) → List (DataW H) → Bool := fun _ ds => decide (uptoBulkAll ds ≤ 1048576)
def OpenSpec.upto (s : _root_.Go.ChangeSpec) : _root_.Go.OpenSpec := { _root_.Go.OpenSpec.ofChange s with cond := some uptoSmall }

/-- 'shardqueuelaw06.LeaseScript', WHERE WHAT IT READS IS OF BULK AT MOST 1048576: true; the input reads as it did. -/
def leaseScriptUptoRow : OpenClaim := { program := "ytjclhlejbidpgaa", sum := "a52140d78093a9630c9d0f8d65dc3c0541cd000add4c1c9e2a45b4c41f7e682a", func := "shardqueue/shardqueuelaw06.LeaseScript", spec := "leaseScript", inPlace := ["slices.overlaps[shardqueue/api.Lease]"], unfollowed := true, recurses := true, apart := false, narrowed := true }
def LeaseScriptUptoSaid : Prop := leaseScriptUptoRow.holds Try.pinned (OpenSpec.upto leaseScriptSpec)

/-- 'shardqueuelaw06.LeaseLapses', WHERE WHAT IT READS IS OF BULK AT MOST 1048576: true; the input reads as it did. -/
def leaseLapsesUptoRow : OpenClaim := { program := "ytjclhlejbidpgaa", sum := "a52140d78093a9630c9d0f8d65dc3c0541cd000add4c1c9e2a45b4c41f7e682a", func := "shardqueue/shardqueuelaw06.LeaseLapses", spec := "leaseLapses", inPlace := ["slices.overlaps[shardqueue/api.Lease]"], unfollowed := true, recurses := true, apart := false, narrowed := true }
def LeaseLapsesUptoSaid : Prop := leaseLapsesUptoRow.holds Try.pinned (OpenSpec.upto leaseLapsesSpec)

/-- 'shardqueuelaw06.LeaseFull', WHERE WHAT IT READS IS OF BULK AT MOST 1048576: true; the input reads as it did. -/
def leaseFullUptoRow : OpenClaim := { program := "ytjclhlejbidpgaa", sum := "a52140d78093a9630c9d0f8d65dc3c0541cd000add4c1c9e2a45b4c41f7e682a", func := "shardqueue/shardqueuelaw06.LeaseFull", spec := "leaseFull", inPlace := ["slices.overlaps[shardqueue/api.Lease]"], unfollowed := true, recurses := true, apart := false, narrowed := true }
def LeaseFullUptoSaid : Prop := leaseFullUptoRow.holds Try.pinned (OpenSpec.upto leaseFullSpec)

end Rows
end Go.Proofs.Ytjclhlejbidpgaa
