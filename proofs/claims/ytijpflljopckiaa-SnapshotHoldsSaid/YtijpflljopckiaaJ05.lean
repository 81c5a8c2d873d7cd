/- What is proved here: ring.hasSameID, ring.Validate and ring.List by contracts; ring.List, ring.popError, ring.pushError by contracts; (plain functions) the bytes of a message, and what is read of bytes; ring.pushError by a contract; (plain) what changes of a ring's cells give, as fillings with the changed order; blocks that hold a ring and may be written. -/
import Derived.Test.YtijpflljopckiaaJ04
import Derived.Test.YtijpflljopckiaaJ02
import Derived.Lib.ConvBytes
import Derived.Lib.AppendStr
import Derived.Test.YtijpflljopckiaaJ03
namespace Go.Proofs.Ytijpflljopckiaa
open Go.RowKit
set_option linter.unusedVariables false

open Classical in
/-- Two messages have the same ID. -/
noncomputable def dpB (l : List Msg) : Bool := decide (dupP l)
open Classical in
theorem dpB_no {l : List Msg} (h : ¬ dupP l) : dpB l = false := decide_eq_false h
end Go.Proofs.Ytijpflljopckiaa
namespace Go.Proofs.Ytijpflljopckiaa
open Go.RowKit
set_option linter.unusedVariables false

/-- What List returns. -/
noncomputable def lsF (cs : List Msg) (hd sz : Int) : List Msg := if rgV cs hd sz = 0 then ord cs hd.toNat sz.toNat else []
/-- The error of the two pushes. -/
noncomputable def puE (cs : List Msg) (hd sz : Int) (M : Msg) : Int := if rgV cs hd sz ≠ 0 then rgV cs hd sz else if vf M ≠ 0 then vf M else if sz = cs.length then 3 else if 0 ≤ ixF (ord cs hd.toNat sz.toNat) M.id then 10 else 0
end Go.Proofs.Ytijpflljopckiaa
namespace Go.Proofs.Ytijpflljopckiaa
open Go.RowKit
set_option linter.unusedVariables false

/-- The numbers of a message in their order. -/
def Msg.nth (M : Msg) : Nat → Int
  | 0 => M.id
  | 1 => M.rt
  | 2 => M.ep
  | 3 => M.ct
  | 4 => M.gn
  | _ => M.st
/-- The groups of the first k numbers. -/
def eb (M : Msg) : Nat → List UInt8
  | 0 => []
  | k + 1 => eb M k ++ groups 5 (M.nth k).toNat
end Go.Proofs.Ytijpflljopckiaa
namespace Go.Proofs.Ytijpflljopckiaa
open Go.RowKit
set_option linter.unusedVariables false

/-- A ring and a message in blocks. -/
structure RmAt (w : World) (p q : Nat) (A : Option Addr) (n c : Nat) (hd sz : Int) (M : Msg) (W : World) : Prop where
  rg : RgAt w p A n c hd sz W
  ms : MAt W q M.nth M.bd
  ne : p < q
section
variable {w W W' : World} {p q n c : Nat} {A : Option Addr} {hd sz : Int} {M : Msg}
theorem RmAt.below (h : RmAt w p q A n c hd sz M W) (hb : Below W.heap.size W W') : RmAt w p q A n c hd sz M W' := ⟨h.rg.below hb, h.ms.below hb h.ms.1, h.ne⟩
theorem RmAt.drew (h : RmAt w p q A n c hd sz M W) : RmAt w p q A n c hd sz M W.drew := ⟨h.rg.drew, h.ms, h.ne⟩
theorem RmAt.alloc (h : RmAt w p q A n c hd sz M W) (o : Obj) : RmAt w p q A n c hd sz M (W.alloc o) := h.below ((Below.refl _ _).alloc (Nat.le_refl _) o)
theorem RmAt.facts (h : RmAt w p q A n c hd sz M W) : (W.cell? ⟨p, 0, none⟩ = some (.slice A n c) ∧ W.cell? ⟨p, 1, none⟩ = some (.int .i64 hd) ∧ W.cell? ⟨p, 2, none⟩ = some (.int .i64 sz) ∧ p < W.heap.size) ∧ (W.cell? ⟨q, 0, none⟩ = some (.int .i64 M.id) ∧ W.cell? ⟨q, 1, none⟩ = some (.int .i64 M.rt) ∧ W.cell? ⟨q, 2, none⟩ = some (.int .i64 M.ep) ∧ W.cell? ⟨q, 3, none⟩ = some (.int .i64 M.ct) ∧ W.cell? ⟨q, 4, none⟩ = some (.int .i64 M.gn) ∧ W.cell? ⟨q, 5, none⟩ = some (.int .i64 M.st) ∧ W.cell? ⟨q, 6, none⟩ = some (.string M.bd)) ∧ q < W.heap.size :=
  ⟨h.rg.facts, h.ms.facts.1, h.ms.1⟩
theorem RmAt.start (w : World) (A : Option Addr) (n c : Nat) (hd sz : Int) (M : Msg) (t u : TypeId) : RmAt w w.heap.size (w.heap.size + 1) A n c hd sz M ((w.alloc (.cells #[.slice A n c, .int .i64 hd, .int .i64 sz] t)).alloc (.cells M.cs u)) := by
  refine ⟨(RgAt.start w A n c hd sz t).alloc _, ?_, Nat.lt_succ_self _⟩
  have h := MAt.fresh (f := M.nth) (w.alloc (.cells #[.slice A n c, .int .i64 hd, .int .i64 sz] t)) M.id M.rt M.ep M.ct M.gn M.st M.bd u rfl rfl rfl rfl rfl rfl
  have e : (w.alloc (.cells #[.slice A n c, .int .i64 hd, .int .i64 sz] t)).heap.size = w.heap.size + 1 := by simp
  rw [e] at h
  exact h
end
theorem Ls.up {w W : World} {v : Value} {l : List Msg} (h : Ls w w.heap.size v l) (hb : Below w.heap.size w W) : Ls W W.heap.size v l := (h.below hb).more hb.size

end Go.Proofs.Ytijpflljopckiaa
namespace Go.Proofs.Ytijpflljopckiaa
open Go.RowKit
set_option linter.unusedVariables false

/-- A row of cells that reads as a filling. -/
theorem row_fil {n hd : Nat} {g : Nat → Msg} {l : List Msg} (hh : hd < n) (h : ∀ k, k < n → g ((hd + k) % n) = l.getD k zM) : (List.range n).map g = fil n hd l := by
  refine cel_ext (hd := hd) (by rw [fil_len]; simp) (by simpa using hh) fun k hk => ?_
  have hk' : k < n := by simpa using hk
  rw [cel_fil l hh hk', ← h k hk']
  have hm : (hd + k) % n < n := Nat.mod_lt _ (by omega)
  simp [cel, List.getD, hm]
/-- Block p holds a ring, and may be written. -/
structure RB (W : World) (p : Nat) (A : Option Addr) (n c : Nat) (hd sz : Int) : Prop where
  lt : p < W.heap.size
  c0 : W.cell? ⟨p, 0, none⟩ = some (.slice A n c)
  c1 : W.cell? ⟨p, 1, none⟩ = some (.int .i64 hd)
  c2 : W.cell? ⟨p, 2, none⟩ = some (.int .i64 sz)
  fr : ∀ o, W.frozen? ⟨p, o, none⟩ = false
section
variable {W W' : World} {p n c : Nat} {A : Option Addr} {hd sz : Int}
theorem RB.facts (h : RB W p A n c hd sz) : W.cell? ⟨p, 0, none⟩ = some (.slice A n c) ∧ W.cell? ⟨p, 1, none⟩ = some (.int .i64 hd) ∧ W.cell? ⟨p, 2, none⟩ = some (.int .i64 sz) ∧ W.frozen? ⟨p, 0, none⟩ = false ∧ W.frozen? ⟨p, 1, none⟩ = false ∧ W.frozen? ⟨p, 2, none⟩ = false ∧ p < W.heap.size := ⟨h.c0, h.c1, h.c2, h.fr 0, h.fr 1, h.fr 2, h.lt⟩
theorem RB.below {B : Nat} (h : RB W p A n c hd sz) (hb : Below B W W') (hp : p < B) : RB W' p A n c hd sz :=
  ⟨Nat.lt_of_lt_of_le h.lt hb.size, (hb.cell (p := ⟨p, 0, none⟩) hp).trans h.c0, (hb.cell (p := ⟨p, 1, none⟩) hp).trans h.c1, (hb.cell (p := ⟨p, 2, none⟩) hp).trans h.c2, fun o => (hb.frozen (p := ⟨p, o, none⟩) hp).trans (h.fr o)⟩
theorem RB.drew (h : RB W p A n c hd sz) : RB W.drew p A n c hd sz := ⟨h.lt, h.c0, h.c1, h.c2, h.fr⟩
theorem RB.alloc (h : RB W p A n c hd sz) (o : Obj) : RB (W.alloc o) p A n c hd sz := h.below (W' := W.alloc o) ((Below.refl W.heap.size W).alloc (Nat.le_refl _) o) h.lt
theorem RB.other (h : RB W p A n c hd sz) {a : Addr} (ha : a.block ≠ p) (v : Value) : RB (W.setCell a v) p A n c hd sz := by
  have e : ∀ o, (W.setCell a v).cell? ⟨p, o, none⟩ = W.cell? ⟨p, o, none⟩ := fun o => World.cell?_setCell_other W _ _ v (fun e => ha (by rw [e]))
  exact ⟨by simpa using h.lt, (e 0).trans h.c0, (e 1).trans h.c1, (e 2).trans h.c2, fun o => by rw [World.frozen?_setCell]; exact h.fr o⟩
theorem RB.sets (h : RB W p A n c hd sz) {b : Nat} (hb : b ≠ p) (m : Nat) (vs : List Value) : RB (W.setCells b m vs) p A n c hd sz :=
  ⟨by rw [sets_size]; exact h.lt, (sets_far (p := ⟨p, 0, none⟩) (fun e => hb e.symm) m vs).trans h.c0, (sets_far (p := ⟨p, 1, none⟩) (fun e => hb e.symm) m vs).trans h.c1, (sets_far (p := ⟨p, 2, none⟩) (fun e => hb e.symm) m vs).trans h.c2, fun o => by rw [World.frozen?_setCells]; exact h.fr o⟩
theorem RB.setA (h : RB W p A n c hd sz) (A' : Option Addr) (n' c' : Nat) : RB (W.setCell ⟨p, 0, none⟩ (.slice A' n' c')) p A' n' c' hd sz :=
  ⟨by simpa using h.lt, World.cell?_setCell_same' W _ _ (by rw [h.c0]; rfl), (World.cell?_setCell_other W _ _ _ (fun e => by injection e; omega)).trans h.c1, (World.cell?_setCell_other W _ _ _ (fun e => by injection e; omega)).trans h.c2, fun o => by rw [World.frozen?_setCell]; exact h.fr o⟩
theorem RB.setH (h : RB W p A n c hd sz) (x : Int) : RB (W.setCell ⟨p, 1, none⟩ (.int .i64 x)) p A n c x sz :=
  ⟨by simpa using h.lt, (World.cell?_setCell_other W _ _ _ (fun e => by injection e; omega)).trans h.c0, World.cell?_setCell_same' W _ _ (by rw [h.c1]; rfl), (World.cell?_setCell_other W _ _ _ (fun e => by injection e; omega)).trans h.c2, fun o => by rw [World.frozen?_setCell]; exact h.fr o⟩
theorem RB.setS (h : RB W p A n c hd sz) (x : Int) : RB (W.setCell ⟨p, 2, none⟩ (.int .i64 x)) p A n c hd x :=
  ⟨by simpa using h.lt, (World.cell?_setCell_other W _ _ _ (fun e => by injection e; omega)).trans h.c0, (World.cell?_setCell_other W _ _ _ (fun e => by injection e; omega)).trans h.c1, World.cell?_setCell_same' W _ _ (by rw [h.c2]; rfl), fun o => by rw [World.frozen?_setCell]; exact h.fr o⟩
theorem RB.fresh (w : World) (A : Option Addr) (n c : Nat) (hd sz : Int) (t : TypeId) : RB (w.alloc (.cells #[.slice A n c, .int .i64 hd, .int .i64 sz] t)) w.heap.size A n c hd sz :=
  ⟨by simp, by simp [go_sem], by simp [go_sem], by simp [go_sem], fun o => by simp [go_sem]⟩
theorem MAt.sets {q b : Nat} {f : Nat → Int} {s : ByteArray} (h : MAt W q f s) (hb : b ≠ q) (m : Nat) (vs : List Value) : MAt (W.setCells b m vs) q f s :=
  ⟨by rw [sets_size]; exact h.1, fun j hj => (sets_far (p := ⟨q, j, none⟩) (fun e => hb e.symm) m vs).trans (h.2.1 j hj), (sets_far (p := ⟨q, 6, none⟩) (fun e => hb e.symm) m vs).trans h.2.2.1, fun o ho => by rw [World.frozen?_setCells]; exact h.2.2.2 o ho⟩
theorem MRow.setCell {q m : Nat} {f : Nat → Msg} (h : MRow W q m f) {p : Addr} (hp : p.block ≠ q) (v : Value) : MRow (W.setCell p v) q m f := h.other hp v
theorem MRow.ls' {q m cap : Nat} {f : Nat → Msg} {l : List Msg} (h : MRow W q m f) (hl : (List.range m).map f = l) (hc : m ≤ cap) (hm : cap ≤ maxLen) : Ls W W.heap.size (.slice (some ⟨q, 0, none⟩) m cap) l := by
  rw [← hl]; exact h.ls m cap (Nat.le_refl _) hc hm
end

/-- A result that is a ring and an error. -/
def RP (w : World) (cs : List Msg) (hd sz x : Int) (e : Ending) (w' : World) : Prop := ∃ A c, e = .returned (.tuple #[.agg #[.slice A cs.length c, .int .i64 hd, .int .i64 sz], .int .i64 x]) ∧ Nw w.heap.size A ∧ Ls w' w'.heap.size (.slice A cs.length c) cs ∧ Below w.heap.size w w'
end Go.Proofs.Ytijpflljopckiaa
