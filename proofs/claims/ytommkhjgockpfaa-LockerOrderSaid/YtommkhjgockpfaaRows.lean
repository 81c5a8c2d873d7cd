/-
  No cell of these rows narrows 'for every input' (looked for: loops, veiled, ifaces, maps, wideKeys, modest, calm, conditions, laid).
  DERIVED. THE GIVEN ROWS OF THIS SEAT. 4 by the template 'for every input the law returns true; each argument reads behind the call as it read before'; 0 by the template 'total and deterministic' (their statements: YtommkhjgockpfaaTotals.lean).
  GIVEN WITH THE SEED: the statements are not yours to turn. If you find one false, say at which input.
  Laid BY PROGRAM, IN A SANDBOX (cutbox-rows.mjs): the forced cells as the released guide's own fill.sh prints them over the translation c1ee8e4bbfb596da… (all of the seat's roots in one cut). By AI agents, Wed Nov 11 2026. No macro, syntax, notation, axiom, sorry.
-/
import Derived.Test.YtommkhjgockpfaaChecked
import GoSem.Claim
import GoSem.ClaimJoined
import GoSem.ClaimMapViews
import Derived.JoinedTies
import Derived.KernelRfl
namespace Go.Proofs.Ytommkhjgockpfaa
/- THE CELL 'sum', in the pinned program and in every row, IS THE sha256 OF THE DUMP (.gsa) THAT YtommkhjgockpfaaProg.lean LOADS. Nothing in Lean hashes anything: it is a label: what it is worth is what the hold of that sum in a sandbox is worth. -/
noncomputable def Try.pinned : Pinned := { name := "ytommkhjgockpfaa", sum := "c1ee8e4bbfb596da1803767f3fcea3410251800ce6c2d297c1f20e34c88aa533", checked := Try.checked }
namespace Rows
def none {H : Type} : Left H := { results := [], args := [] }

/-- 'shardqueuelaw13.LockerNew': WHATEVER THE INPUT: true; the input reads as it did. -/
def lockerNewSpec : ChangeSpec := { name := "lockerNew", fn := fun _ => fun
  | [d1, d2] => { results := [.lit (.bool true)], args := [d1, d2] }
  | _ => none }
def lockerNewRow : OpenClaim := { program := "ytommkhjgockpfaa", sum := "c1ee8e4bbfb596da1803767f3fcea3410251800ce6c2d297c1f20e34c88aa533", func := "shardqueue/shardqueuelaw13.LockerNew", spec := "lockerNew", inPlace := ["sync/atomic.StoreInt64", "sync/atomic.CompareAndSwapInt64", "sync/atomic.LoadInt64"], unfollowed := true, recurses := true, apart := false }
def LockerNewSaid : Prop := lockerNewRow.holds Try.pinned (OpenSpec.ofChange lockerNewSpec)

/-- ITS FALSE NEIGHBOUR: 'it returns false'. Refute it at one input. -/
def lockerNewWrong : ChangeSpec := { name := "lockerNew", fn := fun _ => fun
  | [d1, d2] => { results := [.lit (.bool false)], args := [d1, d2] }
  | _ => none }
def LockerNewWrongFalsely : Prop := lockerNewRow.holds Try.pinned (OpenSpec.ofChange lockerNewWrong)

/-- 'shardqueuelaw13.LockerScript': WHATEVER THE INPUT: true; the input reads as it did. -/
def lockerScriptSpec : ChangeSpec := { name := "lockerScript", fn := fun _ => fun
  | [d] => { results := [.lit (.bool true)], args := [d] }
  | _ => none }
def lockerScriptRow : OpenClaim := { program := "ytommkhjgockpfaa", sum := "c1ee8e4bbfb596da1803767f3fcea3410251800ce6c2d297c1f20e34c88aa533", func := "shardqueue/shardqueuelaw13.LockerScript", spec := "lockerScript", inPlace := ["sync/atomic.StoreInt64", "sync/atomic.CompareAndSwapInt64", "sync/atomic.LoadInt64"], unfollowed := true, recurses := true, apart := false }
def LockerScriptSaid : Prop := lockerScriptRow.holds Try.pinned (OpenSpec.ofChange lockerScriptSpec)

/-- ITS FALSE NEIGHBOUR: 'it returns false'. Refute it at one input. -/
def lockerScriptWrong : ChangeSpec := { name := "lockerScript", fn := fun _ => fun
  | [d] => { results := [.lit (.bool false)], args := [d] }
  | _ => none }
def LockerScriptWrongFalsely : Prop := lockerScriptRow.holds Try.pinned (OpenSpec.ofChange lockerScriptWrong)

/-- 'shardqueuelaw13.LockerOrder': WHATEVER THE INPUT: true; the input reads as it did. -/
def lockerOrderSpec : ChangeSpec := { name := "lockerOrder", fn := fun _ => fun
  | [d] => { results := [.lit (.bool true)], args := [d] }
  | _ => none }
def lockerOrderRow : OpenClaim := { program := "ytommkhjgockpfaa", sum := "c1ee8e4bbfb596da1803767f3fcea3410251800ce6c2d297c1f20e34c88aa533", func := "shardqueue/shardqueuelaw13.LockerOrder", spec := "lockerOrder", inPlace := ["sync/atomic.StoreInt64", "sync/atomic.CompareAndSwapInt64", "sync/atomic.LoadInt64"], unfollowed := true, recurses := true, apart := false }
def LockerOrderSaid : Prop := lockerOrderRow.holds Try.pinned (OpenSpec.ofChange lockerOrderSpec)

/-- ITS FALSE NEIGHBOUR: 'it returns false'. Refute it at one input. -/
def lockerOrderWrong : ChangeSpec := { name := "lockerOrder", fn := fun _ => fun
  | [d] => { results := [.lit (.bool false)], args := [d] }
  | _ => none }
def LockerOrderWrongFalsely : Prop := lockerOrderRow.holds Try.pinned (OpenSpec.ofChange lockerOrderWrong)

/-- 'shardqueuelaw13.LockerTurns': WHATEVER THE INPUT: true; the input reads as it did. -/
def lockerTurnsSpec : ChangeSpec := { name := "lockerTurns", fn := fun _ => fun
  | [d] => { results := [.lit (.bool true)], args := [d] }
  | _ => none }
def lockerTurnsRow : OpenClaim := { program := "ytommkhjgockpfaa", sum := "c1ee8e4bbfb596da1803767f3fcea3410251800ce6c2d297c1f20e34c88aa533", func := "shardqueue/shardqueuelaw13.LockerTurns", spec := "lockerTurns", inPlace := ["sync/atomic.StoreInt64", "sync/atomic.CompareAndSwapInt64", "sync/atomic.LoadInt64"], unfollowed := true, recurses := true, apart := false }
def LockerTurnsSaid : Prop := lockerTurnsRow.holds Try.pinned (OpenSpec.ofChange lockerTurnsSpec)

/-- ITS FALSE NEIGHBOUR: 'it returns false'. Refute it at one input. -/
def lockerTurnsWrong : ChangeSpec := { name := "lockerTurns", fn := fun _ => fun
  | [d] => { results := [.lit (.bool false)], args := [d] }
  | _ => none }
def LockerTurnsWrongFalsely : Prop := lockerTurnsRow.holds Try.pinned (OpenSpec.ofChange lockerTurnsWrong)

/- THE SECOND FORM. 'bulk': how many values and letters a reading holds, each counted each time it is reached (what is shared counts as often as it is met; a slice's spare places count too). A statement '..UptoSaid' is the law's where the arguments, and the package variables that the reading takes, are together of bulk at most 1048576: NARROWER than '..Said'. Prove '..Said' where nothing that the law and all that it calls make is longer than what came in: it says more and counts as full. Else prove '..UptoSaid'. A law counts once. -/
mutual
def uptoBulk {H : Type} : DataW H → Nat
  | .lit (.string bytes) => bytes.length + 1
  | .lit _ => 1
  | .nil => 1
  | .ptr d => uptoBulk d + 1
  | .slice elems spare => uptoBulkAll elems + uptoBulkAll spare + 1
  | .agg parts => uptoBulkAll parts + 1
  | .iface _ d => uptoBulk d + 1
  | .map entries => uptoBulkEntries entries + 1
  | .held _ => 1
def uptoBulkAll {H : Type} : List (DataW H) → Nat
  | [] => 0
  | d :: r => uptoBulk d + uptoBulkAll r
def uptoBulkEntries {H : Type} : List (Lit × DataW H) → Nat
  | [] => 0
  | x :: r => uptoBulkEntry x + uptoBulkEntries r
def uptoBulkEntry {H : Type} : Lit × DataW H → Nat
  | (.string bytes, d) => bytes.length + uptoBulk d + 1
  | (_, d) => uptoBulk d + 1
 end
def uptoSmall : (H : Type) → List (DataW H) → Bool := fun _ ds => decide (uptoBulkAll ds ≤ 1048576)
def OpenSpec.upto (s : _root_.Go.ChangeSpec) : _root_.Go.OpenSpec := { _root_.Go.OpenSpec.ofChange s with cond := some uptoSmall }

/-- 'shardqueuelaw13.LockerNew', WHERE WHAT IT READS IS OF BULK AT MOST 1048576: true; the input reads as it did. -/
def lockerNewUptoRow : OpenClaim := { program := "ytommkhjgockpfaa", sum := "c1ee8e4bbfb596da1803767f3fcea3410251800ce6c2d297c1f20e34c88aa533", func := "shardqueue/shardqueuelaw13.LockerNew", spec := "lockerNew", inPlace := ["sync/atomic.StoreInt64", "sync/atomic.CompareAndSwapInt64", "sync/atomic.LoadInt64"], unfollowed := true, recurses := true, apart := false, narrowed := true }
def LockerNewUptoSaid : Prop := lockerNewUptoRow.holds Try.pinned (OpenSpec.upto lockerNewSpec)

/-- 'shardqueuelaw13.LockerScript', WHERE WHAT IT READS IS OF BULK AT MOST 1048576: true; the input reads as it did. -/
def lockerScriptUptoRow : OpenClaim := { program := "ytommkhjgockpfaa", sum := "c1ee8e4bbfb596da1803767f3fcea3410251800ce6c2d297c1f20e34c88aa533", func := "shardqueue/shardqueuelaw13.LockerScript", spec := "lockerScript", inPlace := ["sync/atomic.StoreInt64", "sync/atomic.CompareAndSwapInt64", "sync/atomic.LoadInt64"], unfollowed := true, recurses := true, apart := false, narrowed := true }
def LockerScriptUptoSaid : Prop := lockerScriptUptoRow.holds Try.pinned (OpenSpec.upto lockerScriptSpec)

/-- 'shardqueuelaw13.LockerOrder', WHERE WHAT IT READS IS OF BULK AT MOST 1048576: true; the input reads as it did. -/
def lockerOrderUptoRow : OpenClaim := { program := "ytommkhjgockpfaa", sum := "c1ee8e4bbfb596da1803767f3fcea3410251800ce6c2d297c1f20e34c88aa533", func := "shardqueue/shardqueuelaw13.LockerOrder", spec := "lockerOrder", inPlace := ["sync/atomic.StoreInt64", "sync/atomic.CompareAndSwapInt64", "sync/atomic.LoadInt64"], unfollowed := true, recurses := true, apart := false, narrowed := true }
def LockerOrderUptoSaid : Prop := lockerOrderUptoRow.holds Try.pinned (OpenSpec.upto lockerOrderSpec)

/-- 'shardqueuelaw13.LockerTurns', WHERE WHAT IT READS IS OF BULK AT MOST 1048576: true; the input reads as it did. -/
def lockerTurnsUptoRow : OpenClaim := { program := "ytommkhjgockpfaa", sum := "c1ee8e4bbfb596da1803767f3fcea3410251800ce6c2d297c1f20e34c88aa533", func := "shardqueue/shardqueuelaw13.LockerTurns", spec := "lockerTurns", inPlace := ["sync/atomic.StoreInt64", "sync/atomic.CompareAndSwapInt64", "sync/atomic.LoadInt64"], unfollowed := true, recurses := true, apart := false, narrowed := true }
def LockerTurnsUptoSaid : Prop := lockerTurnsUptoRow.holds Try.pinned (OpenSpec.upto lockerTurnsSpec)

end Rows
end Go.Proofs.Ytommkhjgockpfaa
