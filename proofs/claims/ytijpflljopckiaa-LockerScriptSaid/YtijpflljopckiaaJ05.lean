/- What is proved here: ring.hasValidNumbers, ring.hasZeroFreeCells, ring.hasSameID by contracts; ring.hasSameID, ring.Validate and ring.List by contracts; ring.List, ring.popError, ring.pushError by contracts; (plain functions) the bytes of a message, and what is read of bytes; ring.pushError by a contract. -/
import Derived.Test.YtijpflljopckiaaJ04
import Derived.Test.YtijpflljopckiaaJ03
import Derived.Test.YtijpflljopckiaaRows
import Derived.Test.YtijpflljopckiaaJ02
import Derived.WalkKit
import Derived.Outline
import Derived.IntWalk
import Derived.Lib.ConvBytes
import Derived.Lib.AppendStr
namespace Go.Proofs.Ytijpflljopckiaa
open Go.RowKit
set_option linter.unusedVariables false

theorem RgAt.step {w W W' : World} {p n c b m : Nat} {A : Option Addr} {hd sz : Int} {X : Msg} (h : RgAt w p A n c hd sz W) (hc : C7 W b m X) (hbw : b < W.heap.size) (hb : Below W.heap.size W W') :
    Hid (RgAt w p A n c hd sz W') ∧ (W'.cell? ⟨p, 0, none⟩ = some (.slice A n c) ∧ W'.cell? ⟨p, 1, none⟩ = some (.int .i64 hd) ∧ W'.cell? ⟨p, 2, none⟩ = some (.int .i64 sz) ∧ p < W'.heap.size) ∧ C7 W' b m X :=
  ⟨Lib.hid (h.below hb), (h.below hb).facts, hc.below hb hbw⟩

end Go.Proofs.Ytijpflljopckiaa
namespace Go.Proofs.Ytijpflljopckiaa
open Go.RowKit
set_option linter.unusedVariables false

open Classical in
/-- Two messages have the same ID. -/
noncomputable def dpB (l : List Msg) : Bool := decide (dupP l)
open Classical in
theorem dpB_no {l : List Msg} (h : ¬ dupP l) : dpB l = false := decide_eq_false h
end Go.Proofs.Ytijpflljopckiaa
namespace Go.Proofs.Ytijpflljopckiaa
open Go.RowKit
set_option linter.unusedVariables false

/-- What List returns. -/
noncomputable def lsF (cs : List Msg) (hd sz : Int) : List Msg := if rgV cs hd sz = 0 then ord cs hd.toNat sz.toNat else []
/-- The error of the two pushes. -/
noncomputable def puE (cs : List Msg) (hd sz : Int) (M : Msg) : Int := if rgV cs hd sz ≠ 0 then rgV cs hd sz else if vf M ≠ 0 then vf M else if sz = cs.length then 3 else if 0 ≤ ixF (ord cs hd.toNat sz.toNat) M.id then 10 else 0
end Go.Proofs.Ytijpflljopckiaa
namespace Go.Proofs.Ytijpflljopckiaa
open Go.RowKit
set_option linter.unusedVariables false

/-- The numbers of a message in their order. -/
def Msg.nth (M : Msg) : Nat → Int
  | 0 => M.id
  | 1 => M.rt
  | 2 => M.ep
  | 3 => M.ct
  | 4 => M.gn
  | _ => M.st
/-- The groups of the first k numbers. -/
def eb (M : Msg) : Nat → List UInt8
  | 0 => []
  | k + 1 => eb M k ++ groups 5 (M.nth k).toNat
end Go.Proofs.Ytijpflljopckiaa
namespace Go.Proofs.Ytijpflljopckiaa
open Go.RowKit
set_option linter.unusedVariables false

/-- A ring and a message in blocks. -/
structure RmAt (w : World) (p q : Nat) (A : Option Addr) (n c : Nat) (hd sz : Int) (M : Msg) (W : World) : Prop where
  rg : RgAt w p A n c hd sz W
  ms : MAt W q M.nth M.bd
  ne : p < q
section
variable {w W W' : World} {p q n c : Nat} {A : Option Addr} {hd sz : Int} {M : Msg}
theorem RmAt.below (h : RmAt w p q A n c hd sz M W) (hb : Below W.heap.size W W') : RmAt w p q A n c hd sz M W' := ⟨h.rg.below hb, h.ms.below hb h.ms.1, h.ne⟩
theorem RmAt.drew (h : RmAt w p q A n c hd sz M W) : RmAt w p q A n c hd sz M W.drew := ⟨h.rg.drew, h.ms, h.ne⟩
theorem RmAt.alloc (h : RmAt w p q A n c hd sz M W) (o : Obj) : RmAt w p q A n c hd sz M (W.alloc o) := h.below ((Below.refl _ _).alloc (Nat.le_refl _) o)
theorem RmAt.facts (h : RmAt w p q A n c hd sz M W) : (W.cell? ⟨p, 0, none⟩ = some (.slice A n c) ∧ W.cell? ⟨p, 1, none⟩ = some (.int .i64 hd) ∧ W.cell? ⟨p, 2, none⟩ = some (.int .i64 sz) ∧ p < W.heap.size) ∧ (W.cell? ⟨q, 0, none⟩ = some (.int .i64 M.id) ∧ W.cell? ⟨q, 1, none⟩ = some (.int .i64 M.rt) ∧ W.cell? ⟨q, 2, none⟩ = some (.int .i64 M.ep) ∧ W.cell? ⟨q, 3, none⟩ = some (.int .i64 M.ct) ∧ W.cell? ⟨q, 4, none⟩ = some (.int .i64 M.gn) ∧ W.cell? ⟨q, 5, none⟩ = some (.int .i64 M.st) ∧ W.cell? ⟨q, 6, none⟩ = some (.string M.bd)) ∧ q < W.heap.size :=
  ⟨h.rg.facts, h.ms.facts.1, h.ms.1⟩
theorem RmAt.start (w : World) (A : Option Addr) (n c : Nat) (hd sz : Int) (M : Msg) (t u : TypeId) : RmAt w w.heap.size (w.heap.size + 1) A n c hd sz M ((w.alloc (.cells #[.slice A n c, .int .i64 hd, .int .i64 sz] t)).alloc (.cells M.cs u)) := by
  refine ⟨(RgAt.start w A n c hd sz t).alloc _, ?_, Nat.lt_succ_self _⟩
  have h := MAt.fresh (f := M.nth) (w.alloc (.cells #[.slice A n c, .int .i64 hd, .int .i64 sz] t)) M.id M.rt M.ep M.ct M.gn M.st M.bd u rfl rfl rfl rfl rfl rfl
  have e : (w.alloc (.cells #[.slice A n c, .int .i64 hd, .int .i64 sz] t)).heap.size = w.heap.size + 1 := by simp
  rw [e] at h
  exact h
end
theorem Ls.up {w W : World} {v : Value} {l : List Msg} (h : Ls w w.heap.size v l) (hb : Below w.heap.size w W) : Ls W W.heap.size v l := (h.below hb).more hb.size

end Go.Proofs.Ytijpflljopckiaa
