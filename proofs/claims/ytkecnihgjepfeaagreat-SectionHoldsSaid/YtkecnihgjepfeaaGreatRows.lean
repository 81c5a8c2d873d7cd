/-
  No cell of these rows narrows 'for every input' (looked for: loops, veiled, ifaces, maps, wideKeys, modest, calm, conditions, laid).
  DERIVED. THE GIVEN ROWS OF THIS SEAT. 2 by the template 'for every input the law returns true; each argument reads behind the call as it read before'; 0 by the template 'total and deterministic' (their statements: YtkecnihgjepfeaaGreatTotals.lean).
  GIVEN WITH THE SEED: the statements are not yours to turn. If you find one false, say at which input.
  Laid BY PROGRAM, IN A SANDBOX (cutbox-rows.mjs): the forced cells as the released guide's own fill.sh prints them over the translation 72fb964fade6c09d… (all of the seat's roots in one cut). By AI agents, Wed Nov 11 2026. No macro, syntax, notation, axiom, sorry.
-/
import Derived.Test.YtkecnihgjepfeaaGreatChecked
import GoSem.Claim
import GoSem.ClaimJoined
import GoSem.ClaimMapViews
import Derived.JoinedTies
import Derived.KernelRfl
namespace Go.Proofs.YtkecnihgjepfeaaGreat
/- THE CELL 'sum', in the pinned program and in every row, IS THE sha256 OF THE DUMP (.gsa) THAT YtkecnihgjepfeaaGreatProg.lean LOADS. Nothing in Lean hashes anything: it is a label: what it is worth is what the hold of that sum in a sandbox is worth. -/
noncomputable def Tryz.pinned : Pinned := { name := "ytkecnihgjepfeaagreat", sum := "72fb964fade6c09d838091717b959de6f8d9ccd06f8a5d147d3d6186ae4268bf", checked := Tryz.checked }
namespace Rows
def none {H : Type} : Left H := { results := [], args := [] }

/-- 'shardqueuelaw15.SectionHolds': WHATEVER THE INPUT: true; the input reads as it did. -/
def sectionHoldsSpec : ChangeSpec := { name := "sectionHolds", fn := fun _ => fun
  | [d] => { results := [.lit (.bool true)], args := [d] }
  | _ => none }
def sectionHoldsRow : OpenClaim := { program := "ytkecnihgjepfeaagreat", sum := "72fb964fade6c09d838091717b959de6f8d9ccd06f8a5d147d3d6186ae4268bf", func := "shardqueue/shardqueuelaw15.SectionHolds", spec := "sectionHolds", inPlace := ["sync/atomic.StoreInt64", "sync/atomic.CompareAndSwapInt64", "sync/atomic.LoadInt64", "slices.overlaps[shardqueue/api.Span]"], unfollowed := true, recurses := true, apart := false }
def SectionHoldsSaid : Prop := sectionHoldsRow.holds Tryz.pinned (OpenSpec.ofChange sectionHoldsSpec)

/-- ITS FALSE NEIGHBOUR: 'it returns false'. Refute it at one input. -/
def sectionHoldsWrong : ChangeSpec := { name := "sectionHolds", fn := fun _ => fun
  | [d] => { results := [.lit (.bool false)], args := [d] }
  | _ => none }
def SectionHoldsWrongFalsely : Prop := sectionHoldsRow.holds Tryz.pinned (OpenSpec.ofChange sectionHoldsWrong)

/-- 'shardqueuelaw15.SectionCarries': WHATEVER THE INPUT: true; the input reads as it did. -/
def sectionCarriesSpec : ChangeSpec := { name := "sectionCarries", fn := fun _ => fun
  | [d] => { results := [.lit (.bool true)], args := [d] }
  | _ => none }
def sectionCarriesRow : OpenClaim := { program := "ytkecnihgjepfeaagreat", sum := "72fb964fade6c09d838091717b959de6f8d9ccd06f8a5d147d3d6186ae4268bf", func := "shardqueue/shardqueuelaw15.SectionCarries", spec := "sectionCarries", inPlace := ["sync/atomic.StoreInt64", "sync/atomic.CompareAndSwapInt64", "sync/atomic.LoadInt64", "slices.overlaps[shardqueue/api.Span]"], unfollowed := true, recurses := true, apart := false }
def SectionCarriesSaid : Prop := sectionCarriesRow.holds Tryz.pinned (OpenSpec.ofChange sectionCarriesSpec)

/-- ITS FALSE NEIGHBOUR: 'it returns false'. Refute it at one input. -/
def sectionCarriesWrong : ChangeSpec := { name := "sectionCarries", fn := fun _ => fun
  | [d] => { results := [.lit (.bool false)], args := [d] }
  | _ => none }
def SectionCarriesWrongFalsely : Prop := sectionCarriesRow.holds Tryz.pinned (OpenSpec.ofChange sectionCarriesWrong)

/- THE SECOND FORM. 'bulk': how many values and letters a reading holds, each counted each time it is reached (what is shared counts as often as it is met; a slice's spare places count too). A statement '..UptoSaid' is the law's where the arguments, and the package variables that the reading takes, are together of bulk at most 1048576: NARROWER than '..Said'. Prove '..Said' where nothing that the law and all that it calls make is longer than what came in: it says more and counts as full. Else prove '..UptoSaid'. A law counts once. -/
mutual
def uptoBulk {H : Type} : DataW H → Nat
  | .lit (.string bytes) => bytes.length + 1
  | .lit _ => 1
  | .nil => 1
  | .ptr d => uptoBulk d + 1
  | .slice elems spare => uptoBulkAll elems + uptoBulkAll spare + 1
  | .agg parts => uptoBulkAll parts + 1
  | .iface _ d => uptoBulk d + 1
  | .map entries => uptoBulkEntries entries + 1
  | .held _ => 1
def uptoBulkAll {H : Type} : List (DataW H) → Nat
  | [] => 0
  | d :: r => uptoBulk d + uptoBulkAll r
def uptoBulkEntries {H : Type} : List (Lit × DataW H) → Nat
  | [] => 0
  | x :: r => uptoBulkEntry x + uptoBulkEntries r
def uptoBulkEntry {H : Type} : Lit × DataW H → Nat
  | (.string bytes, d) => bytes.length + uptoBulk d + 1
  | (_, d) => uptoBulk d + 1
 end
def uptoSmall : (H : Type) → List (DataW H) → Bool := fun _ ds => decide (uptoBulkAll ds ≤ 1048576)
def OpenSpec.upto (s : _root_.Go.ChangeSpec) : _root_.Go.OpenSpec := { _root_.Go.OpenSpec.ofChange s with cond := some uptoSmall }

/-- 'shardqueuelaw15.SectionHolds', WHERE WHAT IT READS IS OF BULK AT MOST 1048576: true; the input reads as it did. -/
def sectionHoldsUptoRow : OpenClaim := { program := "ytkecnihgjepfeaagreat", sum := "72fb964fade6c09d838091717b959de6f8d9ccd06f8a5d147d3d6186ae4268bf", func := "shardqueue/shardqueuelaw15.SectionHolds", spec := "sectionHolds", inPlace := ["sync/atomic.StoreInt64", "sync/atomic.CompareAndSwapInt64", "sync/atomic.LoadInt64", "slices.overlaps[shardqueue/api.Span]"], unfollowed := true, recurses := true, apart := false, narrowed := true }
def SectionHoldsUptoSaid : Prop := sectionHoldsUptoRow.holds Tryz.pinned (OpenSpec.upto sectionHoldsSpec)

/-- 'shardqueuelaw15.SectionCarries', WHERE WHAT IT READS IS OF BULK AT MOST 1048576: true; the input reads as it did. -/
def sectionCarriesUptoRow : OpenClaim := { program := "ytkecnihgjepfeaagreat", sum := "72fb964fade6c09d838091717b959de6f8d9ccd06f8a5d147d3d6186ae4268bf", func := "shardqueue/shardqueuelaw15.SectionCarries", spec := "sectionCarries", inPlace := ["sync/atomic.StoreInt64", "sync/atomic.CompareAndSwapInt64", "sync/atomic.LoadInt64", "slices.overlaps[shardqueue/api.Span]"], unfollowed := true, recurses := true, apart := false, narrowed := true }
def SectionCarriesUptoSaid : Prop := sectionCarriesUptoRow.holds Tryz.pinned (OpenSpec.upto sectionCarriesSpec)

end Rows
end Go.Proofs.YtkecnihgjepfeaaGreat
