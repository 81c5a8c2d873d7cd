/-
  No cell of these rows narrows 'for every input' (looked for: loops, veiled, ifaces, maps, wideKeys, modest, calm, conditions, laid).
  DERIVED. THE GIVEN ROWS OF THIS SEAT. 4 by the template 'for every input the law returns true; each argument reads behind the call as it read before'; 0 by the template 'total and deterministic' (their statements: YtijpflljopckiaaTotals.lean).
  GIVEN WITH THE SEED: the statements are not yours to turn. If you find one false, say at which input.
  Laid BY PROGRAM, IN A SANDBOX (cutbox-rows.mjs): the forced cells as the released guide's own fill.sh prints them over the translation 8ee912054c109011… (all of the seat's roots in one cut). By AI agents, Wed Nov 11 2026. No macro, syntax, notation, axiom, sorry.
-/
import Derived.Test.YtijpflljopckiaaChecked
import GoSem.Claim
import GoSem.ClaimJoined
import GoSem.ClaimMapViews
import Derived.JoinedTies
import Derived.KernelRfl
namespace Go.Proofs.Ytijpflljopckiaa
/- THE CELL 'sum', in the pinned program and in every row, IS THE sha256 OF THE DUMP (.gsa) THAT YtijpflljopckiaaProg.lean LOADS. Nothing in Lean hashes anything: it is a label: what it is worth is what the hold of that sum in a sandbox is worth. -/
noncomputable def Try.pinned : Pinned := { name := "ytijpflljopckiaa", sum := "8ee912054c109011cff25f6fb030cf17bc4624c44d5976dea6925bc8be5ccbfc", checked := Try.checked }
namespace Rows
def none {H : Type} : Left H := { results := [], args := [] }

/-- 'shardqueuelaw14.SnapshotHolds': WHATEVER THE INPUT: true; the input reads as it did. -/
def snapshotHoldsSpec : ChangeSpec := { name := "snapshotHolds", fn := fun _ => fun
  | [d] => { results := [.lit (.bool true)], args := [d] }
  | _ => none }
def snapshotHoldsRow : OpenClaim := { program := "ytijpflljopckiaa", sum := "8ee912054c109011cff25f6fb030cf17bc4624c44d5976dea6925bc8be5ccbfc", func := "shardqueue/shardqueuelaw14.SnapshotHolds", spec := "snapshotHolds", inPlace := ["sync/atomic.StoreInt64", "sync/atomic.CompareAndSwapInt64", "sync/atomic.LoadInt64"], unfollowed := true, recurses := true, apart := false }
def SnapshotHoldsSaid : Prop := snapshotHoldsRow.holds Try.pinned (OpenSpec.ofChange snapshotHoldsSpec)

/-- ITS FALSE NEIGHBOUR: 'it returns false'. Refute it at one input. -/
def snapshotHoldsWrong : ChangeSpec := { name := "snapshotHolds", fn := fun _ => fun
  | [d] => { results := [.lit (.bool false)], args := [d] }
  | _ => none }
def SnapshotHoldsWrongFalsely : Prop := snapshotHoldsRow.holds Try.pinned (OpenSpec.ofChange snapshotHoldsWrong)

/-- 'shardqueuelaw14.SnapshotSteps': WHATEVER THE INPUT: true; the input reads as it did. -/
def snapshotStepsSpec : ChangeSpec := { name := "snapshotSteps", fn := fun _ => fun
  | [d] => { results := [.lit (.bool true)], args := [d] }
  | _ => none }
def snapshotStepsRow : OpenClaim := { program := "ytijpflljopckiaa", sum := "8ee912054c109011cff25f6fb030cf17bc4624c44d5976dea6925bc8be5ccbfc", func := "shardqueue/shardqueuelaw14.SnapshotSteps", spec := "snapshotSteps", unfollowed := true, recurses := true, apart := false }
def SnapshotStepsSaid : Prop := snapshotStepsRow.holds Try.pinned (OpenSpec.ofChange snapshotStepsSpec)

/-- ITS FALSE NEIGHBOUR: 'it returns false'. Refute it at one input. -/
def snapshotStepsWrong : ChangeSpec := { name := "snapshotSteps", fn := fun _ => fun
  | [d] => { results := [.lit (.bool false)], args := [d] }
  | _ => none }
def SnapshotStepsWrongFalsely : Prop := snapshotStepsRow.holds Try.pinned (OpenSpec.ofChange snapshotStepsWrong)

/-- 'shardqueuelaw13.LockerScript': WHATEVER THE INPUT: true; the input reads as it did. -/
def lockerScriptSpec : ChangeSpec := { name := "lockerScript", fn := fun _ => fun
  | [d] => { results := [.lit (.bool true)], args := [d] }
  | _ => none }
def lockerScriptRow : OpenClaim := { program := "ytijpflljopckiaa", sum := "8ee912054c109011cff25f6fb030cf17bc4624c44d5976dea6925bc8be5ccbfc", func := "shardqueue/shardqueuelaw13.LockerScript", spec := "lockerScript", inPlace := ["sync/atomic.StoreInt64", "sync/atomic.CompareAndSwapInt64", "sync/atomic.LoadInt64"], unfollowed := true, recurses := true, apart := false }
def LockerScriptSaid : Prop := lockerScriptRow.holds Try.pinned (OpenSpec.ofChange lockerScriptSpec)

/-- ITS FALSE NEIGHBOUR: 'it returns false'. Refute it at one input. -/
def lockerScriptWrong : ChangeSpec := { name := "lockerScript", fn := fun _ => fun
  | [d] => { results := [.lit (.bool false)], args := [d] }
  | _ => none }
def LockerScriptWrongFalsely : Prop := lockerScriptRow.holds Try.pinned (OpenSpec.ofChange lockerScriptWrong)

/-- 'shardqueuelaw12.ArenaNew': WHATEVER THE INPUT: true; the input reads as it did. -/
def arenaNewSpec : ChangeSpec := { name := "arenaNew", fn := fun _ => fun
  | [d1, d2] => { results := [.lit (.bool true)], args := [d1, d2] }
  | _ => none }
def arenaNewRow : OpenClaim := { program := "ytijpflljopckiaa", sum := "8ee912054c109011cff25f6fb030cf17bc4624c44d5976dea6925bc8be5ccbfc", func := "shardqueue/shardqueuelaw12.ArenaNew", spec := "arenaNew", inPlace := ["sync/atomic.StoreInt64", "sync/atomic.CompareAndSwapInt64", "sync/atomic.LoadInt64"], unfollowed := true, recurses := true, apart := false }
def ArenaNewSaid : Prop := arenaNewRow.holds Try.pinned (OpenSpec.ofChange arenaNewSpec)

/-- ITS FALSE NEIGHBOUR: 'it returns false'. Refute it at one input. -/
def arenaNewWrong : ChangeSpec := { name := "arenaNew", fn := fun _ => fun
  | [d1, d2] => { results := [.lit (.bool false)], args := [d1, d2] }
  | _ => none }
def ArenaNewWrongFalsely : Prop := arenaNewRow.holds Try.pinned (OpenSpec.ofChange arenaNewWrong)

/- THE SECOND FORM. 'bulk': how many values and letters a reading holds, each counted each time it is reached (what is shared counts as often as it is met; a slice's spare places count too). A statement '..UptoSaid' is the law's where the arguments, and the package variables that the reading takes, are together of bulk at most 1048576: NARROWER than '..Said'. Prove '..Said' where nothing that the law and all that it calls make is longer than what came in: it says more and counts as full. Else prove '..UptoSaid'. A law counts once. -/
mutual
def uptoBulk {H : Type} : DataW H → Nat
  | .lit (.string bytes) => bytes.length + 1
  | .lit _ => 1
  | .nil => 1
  | .ptr d => uptoBulk d + 1
  | .slice elems spare => uptoBulkAll elems + uptoBulkAll spare + 1
  | .agg parts => uptoBulkAll parts + 1
  | .iface _ d => uptoBulk d + 1
  | .map entries => uptoBulkEntries entries + 1
  | .held _ => 1
def uptoBulkAll {H : Type} : List (DataW H) → Nat
  | [] => 0
  | d :: r => uptoBulk d + uptoBulkAll r
def uptoBulkEntries {H : Type} : List (Lit × DataW H) → Nat
  | [] => 0
  | x :: r => uptoBulkEntry x + uptoBulkEntries r
def uptoBulkEntry {H : Type} : Lit × DataW H → Nat
  | (.string bytes, d) => bytes.length + uptoBulk d + 1
  | (_, d) => uptoBulk d + 1
 end
def uptoSmall : (H : Type) → List (DataW H) → Bool := fun _ ds => decide (uptoBulkAll ds ≤ 1048576)
def OpenSpec.upto (s : _root_.Go.ChangeSpec) : _root_.Go.OpenSpec := { _root_.Go.OpenSpec.ofChange s with cond := some uptoSmall }

/-- 'shardqueuelaw14.SnapshotHolds', WHERE WHAT IT READS IS OF BULK AT MOST 1048576: true; the input reads as it did. -/
def snapshotHoldsUptoRow : OpenClaim := { program := "ytijpflljopckiaa", sum := "8ee912054c109011cff25f6fb030cf17bc4624c44d5976dea6925bc8be5ccbfc", func := "shardqueue/shardqueuelaw14.SnapshotHolds", spec := "snapshotHolds", inPlace := ["sync/atomic.StoreInt64", "sync/atomic.CompareAndSwapInt64", "sync/atomic.LoadInt64"], unfollowed := true, recurses := true, apart := false, narrowed := true }
def SnapshotHoldsUptoSaid : Prop := snapshotHoldsUptoRow.holds Try.pinned (OpenSpec.upto snapshotHoldsSpec)

/-- 'shardqueuelaw14.SnapshotSteps', WHERE WHAT IT READS IS OF BULK AT MOST 1048576: true; the input reads as it did. -/
def snapshotStepsUptoRow : OpenClaim := { program := "ytijpflljopckiaa", sum := "8ee912054c109011cff25f6fb030cf17bc4624c44d5976dea6925bc8be5ccbfc", func := "shardqueue/shardqueuelaw14.SnapshotSteps", spec := "snapshotSteps", unfollowed := true, recurses := true, apart := false, narrowed := true }
def SnapshotStepsUptoSaid : Prop := snapshotStepsUptoRow.holds Try.pinned (OpenSpec.upto snapshotStepsSpec)

/-- 'shardqueuelaw13.LockerScript', WHERE WHAT IT READS IS OF BULK AT MOST 1048576: true; the input reads as it did. -/
def lockerScriptUptoRow : OpenClaim := { program := "ytijpflljopckiaa", sum := "8ee912054c109011cff25f6fb030cf17bc4624c44d5976dea6925bc8be5ccbfc", func := "shardqueue/shardqueuelaw13.LockerScript", spec := "lockerScript", inPlace := ["sync/atomic.StoreInt64", "sync/atomic.CompareAndSwapInt64", "sync/atomic.LoadInt64"], unfollowed := true, recurses := true, apart := false, narrowed := true }
def LockerScriptUptoSaid : Prop := lockerScriptUptoRow.holds Try.pinned (OpenSpec.upto lockerScriptSpec)

/-- 'shardqueuelaw12.ArenaNew', WHERE WHAT IT READS IS OF BULK AT MOST 1048576: true; the input reads as it did. -/
def arenaNewUptoRow : OpenClaim := { program := "ytijpflljopckiaa", sum := "8ee912054c109011cff25f6fb030cf17bc4624c44d5976dea6925bc8be5ccbfc", func := "shardqueue/shardqueuelaw12.ArenaNew", spec := "arenaNew", inPlace := ["sync/atomic.StoreInt64", "sync/atomic.CompareAndSwapInt64", "sync/atomic.LoadInt64"], unfollowed := true, recurses := true, apart := false, narrowed := true }
def ArenaNewUptoSaid : Prop := arenaNewUptoRow.holds Try.pinned (OpenSpec.upto arenaNewSpec)

end Rows
end Go.Proofs.Ytijpflljopckiaa
