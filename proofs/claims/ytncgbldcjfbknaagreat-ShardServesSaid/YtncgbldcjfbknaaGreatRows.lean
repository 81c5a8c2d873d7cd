/-
  No cell of these rows narrows 'for every input' (looked for: loops, veiled, ifaces, maps, wideKeys, modest, calm, conditions, laid).
  DERIVED. THE GIVEN ROWS OF THIS SEAT. 5 by the template 'for every input the law returns true; each argument reads behind the call as it read before'; 0 by the template 'total and deterministic' (their statements: YtncgbldcjfbknaaGreatTotals.lean).
  GIVEN WITH THE SEED: the statements are not yours to turn. If you find one false, say at which input.
  Laid BY PROGRAM, IN A SANDBOX (cutbox-rows.mjs): the forced cells as the released guide's own fill.sh prints them over the translation 2af05826fb1b151f… (all of the seat's roots in one cut). By AI agents, Wed Nov 11 2026. No macro, syntax, notation, axiom, sorry.
-/
import Derived.Test.YtncgbldcjfbknaaGreatChecked
import GoSem.Claim
import GoSem.ClaimJoined
import GoSem.ClaimMapViews
import Derived.JoinedTies
import Derived.KernelRfl
namespace Go.Proofs.YtncgbldcjfbknaaGreat
/- THE CELL 'sum', in the pinned program and in every row, IS THE sha256 OF THE DUMP (.gsa) THAT YtncgbldcjfbknaaGreatProg.lean LOADS. Nothing in Lean hashes anything: it is a label: what it is worth is what the hold of that sum in a sandbox is worth. -/
noncomputable def Tryz.pinned : Pinned := { name := "ytncgbldcjfbknaagreat", sum := "2af05826fb1b151f839dbb2bd6d34b55b4c92de0d4692022d5643fce76fd5e79", checked := Tryz.checked }
namespace Rows
def none {H : Type} : Left H := { results := [], args := [] }

/-- 'shardqueuelaw07.ShardConserves': WHATEVER THE INPUT: true; the input reads as it did. -/
def shardConservesSpec : ChangeSpec := { name := "shardConserves", fn := fun _ => fun
  | [d] => { results := [.lit (.bool true)], args := [d] }
  | _ => none }
def shardConservesRow : OpenClaim := { program := "ytncgbldcjfbknaagreat", sum := "2af05826fb1b151f839dbb2bd6d34b55b4c92de0d4692022d5643fce76fd5e79", func := "shardqueue/shardqueuelaw07.ShardConserves", spec := "shardConserves", inPlace := ["slices.overlaps[shardqueue/api.Lease]"], unfollowed := true, recurses := true, apart := false }
def ShardConservesSaid : Prop := shardConservesRow.holds Tryz.pinned (OpenSpec.ofChange shardConservesSpec)

/-- ITS FALSE NEIGHBOUR: 'it returns false'. Refute it at one input. -/
def shardConservesWrong : ChangeSpec := { name := "shardConserves", fn := fun _ => fun
  | [d] => { results := [.lit (.bool false)], args := [d] }
  | _ => none }
def ShardConservesWrongFalsely : Prop := shardConservesRow.holds Tryz.pinned (OpenSpec.ofChange shardConservesWrong)

/-- 'shardqueuelaw07.ShardLeases': WHATEVER THE INPUT: true; the input reads as it did. -/
def shardLeasesSpec : ChangeSpec := { name := "shardLeases", fn := fun _ => fun
  | [d] => { results := [.lit (.bool true)], args := [d] }
  | _ => none }
def shardLeasesRow : OpenClaim := { program := "ytncgbldcjfbknaagreat", sum := "2af05826fb1b151f839dbb2bd6d34b55b4c92de0d4692022d5643fce76fd5e79", func := "shardqueue/shardqueuelaw07.ShardLeases", spec := "shardLeases", inPlace := ["slices.overlaps[shardqueue/api.Lease]"], unfollowed := true, recurses := true, apart := false }
def ShardLeasesSaid : Prop := shardLeasesRow.holds Tryz.pinned (OpenSpec.ofChange shardLeasesSpec)

/-- ITS FALSE NEIGHBOUR: 'it returns false'. Refute it at one input. -/
def shardLeasesWrong : ChangeSpec := { name := "shardLeases", fn := fun _ => fun
  | [d] => { results := [.lit (.bool false)], args := [d] }
  | _ => none }
def ShardLeasesWrongFalsely : Prop := shardLeasesRow.holds Tryz.pinned (OpenSpec.ofChange shardLeasesWrong)

/-- 'shardqueuelaw07.ShardHalves': WHATEVER THE INPUT: true; the input reads as it did. -/
def shardHalvesSpec : ChangeSpec := { name := "shardHalves", fn := fun _ => fun
  | [d] => { results := [.lit (.bool true)], args := [d] }
  | _ => none }
def shardHalvesRow : OpenClaim := { program := "ytncgbldcjfbknaagreat", sum := "2af05826fb1b151f839dbb2bd6d34b55b4c92de0d4692022d5643fce76fd5e79", func := "shardqueue/shardqueuelaw07.ShardHalves", spec := "shardHalves", inPlace := ["slices.overlaps[shardqueue/api.Lease]"], unfollowed := true, recurses := true, apart := false }
def ShardHalvesSaid : Prop := shardHalvesRow.holds Tryz.pinned (OpenSpec.ofChange shardHalvesSpec)

/-- ITS FALSE NEIGHBOUR: 'it returns false'. Refute it at one input. -/
def shardHalvesWrong : ChangeSpec := { name := "shardHalves", fn := fun _ => fun
  | [d] => { results := [.lit (.bool false)], args := [d] }
  | _ => none }
def ShardHalvesWrongFalsely : Prop := shardHalvesRow.holds Tryz.pinned (OpenSpec.ofChange shardHalvesWrong)

/-- 'shardqueuelaw07.ShardFull': WHATEVER THE INPUT: true; the input reads as it did. -/
def shardFullSpec : ChangeSpec := { name := "shardFull", fn := fun _ => fun
  | [d1, d2] => { results := [.lit (.bool true)], args := [d1, d2] }
  | _ => none }
def shardFullRow : OpenClaim := { program := "ytncgbldcjfbknaagreat", sum := "2af05826fb1b151f839dbb2bd6d34b55b4c92de0d4692022d5643fce76fd5e79", func := "shardqueue/shardqueuelaw07.ShardFull", spec := "shardFull", inPlace := ["slices.overlaps[shardqueue/api.Lease]"], unfollowed := true, recurses := true, apart := false }
def ShardFullSaid : Prop := shardFullRow.holds Tryz.pinned (OpenSpec.ofChange shardFullSpec)

/-- ITS FALSE NEIGHBOUR: 'it returns false'. Refute it at one input. -/
def shardFullWrong : ChangeSpec := { name := "shardFull", fn := fun _ => fun
  | [d1, d2] => { results := [.lit (.bool false)], args := [d1, d2] }
  | _ => none }
def ShardFullWrongFalsely : Prop := shardFullRow.holds Tryz.pinned (OpenSpec.ofChange shardFullWrong)

/-- 'shardqueuelaw07.ShardServes': WHATEVER THE INPUT: true; the input reads as it did. -/
def shardServesSpec : ChangeSpec := { name := "shardServes", fn := fun _ => fun
  | [d] => { results := [.lit (.bool true)], args := [d] }
  | _ => none }
def shardServesRow : OpenClaim := { program := "ytncgbldcjfbknaagreat", sum := "2af05826fb1b151f839dbb2bd6d34b55b4c92de0d4692022d5643fce76fd5e79", func := "shardqueue/shardqueuelaw07.ShardServes", spec := "shardServes", inPlace := ["slices.overlaps[shardqueue/api.Lease]"], unfollowed := true, recurses := true, apart := false }
def ShardServesSaid : Prop := shardServesRow.holds Tryz.pinned (OpenSpec.ofChange shardServesSpec)

/-- ITS FALSE NEIGHBOUR: 'it returns false'. Refute it at one input. -/
def shardServesWrong : ChangeSpec := { name := "shardServes", fn := fun _ => fun
  | [d] => { results := [.lit (.bool false)], args := [d] }
  | _ => none }
def ShardServesWrongFalsely : Prop := shardServesRow.holds Tryz.pinned (OpenSpec.ofChange shardServesWrong)

/- THE SECOND FORM. 'bulk': how many values and letters a reading holds, each counted each time it is reached (what is shared counts as often as it is met; a slice's spare places count too). A statement '..UptoSaid' is the law's where the arguments, and the package variables that the reading takes, are together of bulk at most 1048576: NARROWER than '..Said'. Prove '..Said' where nothing that the law and all that it calls make is longer than what came in: it says more and counts as full. Else prove '..UptoSaid'. A law counts once. -/
mutual
def uptoBulk {H : Type} : DataW H → Nat
  | .lit (.string bytes) => bytes.length + 1
  | .lit _ => 1
  | .nil => 1
  | .ptr d => uptoBulk d + 1
  | .slice elems spare => uptoBulkAll elems + uptoBulkAll spare + 1
  | .agg parts => uptoBulkAll parts + 1
  | .iface _ d => uptoBulk d + 1
  | .map entries => uptoBulkEntries entries + 1
  | .held _ => 1
def uptoBulkAll {H : Type} : List (DataW H) → Nat
  | [] => 0
  | d :: r => uptoBulk d + uptoBulkAll r
def uptoBulkEntries {H : Type} : List (Lit × DataW H) → Nat
  | [] => 0
  | x :: r => uptoBulkEntry x + uptoBulkEntries r
def uptoBulkEntry {H : Type} : Lit × DataW H → Nat
  | (.string bytes, d) => bytes.length + uptoBulk d + 1
  | (_, d) => uptoBulk d + 1
 end
def uptoSmall : (H : Type) → List (DataW H) → Bool := fun _ ds => decide (uptoBulkAll ds ≤ 1048576)
def OpenSpec.upto (s : _root_.Go.ChangeSpec) : _root_.Go.OpenSpec := { _root_.Go.OpenSpec.ofChange s with cond := some uptoSmall }

/-- 'shardqueuelaw07.ShardConserves', WHERE WHAT IT READS IS OF BULK AT MOST 1048576: true; the input reads as it did. -/
def shardConservesUptoRow : OpenClaim := { program := "ytncgbldcjfbknaagreat", sum := "2af05826fb1b151f839dbb2bd6d34b55b4c92de0d4692022d5643fce76fd5e79", func := "shardqueue/shardqueuelaw07.ShardConserves", spec := "shardConserves", inPlace := ["slices.overlaps[shardqueue/api.Lease]"], unfollowed := true, recurses := true, apart := false, narrowed := true }
def ShardConservesUptoSaid : Prop := shardConservesUptoRow.holds Tryz.pinned (OpenSpec.upto shardConservesSpec)

/-- 'shardqueuelaw07.ShardLeases', WHERE WHAT IT READS IS OF BULK AT MOST 1048576: true; the input reads as it did. -/
def shardLeasesUptoRow : OpenClaim := { program := "ytncgbldcjfbknaagreat", sum := "2af05826fb1b151f839dbb2bd6d34b55b4c92de0d4692022d5643fce76fd5e79", func := "shardqueue/shardqueuelaw07.ShardLeases", spec := "shardLeases", inPlace := ["slices.overlaps[shardqueue/api.Lease]"], unfollowed := true, recurses := true, apart := false, narrowed := true }
def ShardLeasesUptoSaid : Prop := shardLeasesUptoRow.holds Tryz.pinned (OpenSpec.upto shardLeasesSpec)

/-- 'shardqueuelaw07.ShardHalves', WHERE WHAT IT READS IS OF BULK AT MOST 1048576: true; the input reads as it did. -/
def shardHalvesUptoRow : OpenClaim := { program := "ytncgbldcjfbknaagreat", sum := "2af05826fb1b151f839dbb2bd6d34b55b4c92de0d4692022d5643fce76fd5e79", func := "shardqueue/shardqueuelaw07.ShardHalves", spec := "shardHalves", inPlace := ["slices.overlaps[shardqueue/api.Lease]"], unfollowed := true, recurses := true, apart := false, narrowed := true }
def ShardHalvesUptoSaid : Prop := shardHalvesUptoRow.holds Tryz.pinned (OpenSpec.upto shardHalvesSpec)

/-- 'shardqueuelaw07.ShardFull', WHERE WHAT IT READS IS OF BULK AT MOST 1048576: true; the input reads as it did. -/
def shardFullUptoRow : OpenClaim := { program := "ytncgbldcjfbknaagreat", sum := "2af05826fb1b151f839dbb2bd6d34b55b4c92de0d4692022d5643fce76fd5e79", func := "shardqueue/shardqueuelaw07.ShardFull", spec := "shardFull", inPlace := ["slices.overlaps[shardqueue/api.Lease]"], unfollowed := true, recurses := true, apart := false, narrowed := true }
def ShardFullUptoSaid : Prop := shardFullUptoRow.holds Tryz.pinned (OpenSpec.upto shardFullSpec)

/-- 'shardqueuelaw07.ShardServes', WHERE WHAT IT READS IS OF BULK AT MOST 1048576: true; the input reads as it did. -/
def shardServesUptoRow : OpenClaim := { program := "ytncgbldcjfbknaagreat", sum := "2af05826fb1b151f839dbb2bd6d34b55b4c92de0d4692022d5643fce76fd5e79", func := "shardqueue/shardqueuelaw07.ShardServes", spec := "shardServes", inPlace := ["slices.overlaps[shardqueue/api.Lease]"], unfollowed := true, recurses := true, apart := false, narrowed := true }
def ShardServesUptoSaid : Prop := shardServesUptoRow.holds Tryz.pinned (OpenSpec.upto shardServesSpec)

end Rows
end Go.Proofs.YtncgbldcjfbknaaGreat
