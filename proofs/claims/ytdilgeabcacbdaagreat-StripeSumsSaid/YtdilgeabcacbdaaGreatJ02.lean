/- What is proved here: the bitwise operations of int at numbers that are not negative, as sums and remainders; (plain functions) the groups of seven bits of a number, and how they are read back; (plain functions) a text with its length; the bytes of a string in memory; (plain functions) what Decode reads; a message that lies in a block. -/
import Derived.Laws.BitsAllLaws
import Derived.Laws.BitsLemmas
import Derived.Laws.Bits128
import Derived.Test.YtdilgeabcacbdaaGreatJ01
import Derived.IntWalk
import Derived.Lib.ConvBytes
import Derived.Lib.AppendStr
import Derived.Deep.AppendLies
namespace Go.Proofs.YtdilgeabcacbdaaGreat

end Go.Proofs.YtdilgeabcacbdaaGreat
namespace Go.Proofs.YtdilgeabcacbdaaGreat
open Go.RowKit
set_option linter.unusedVariables false

/-- The groups of seven bits of n, the lowest first, at most f + 1 of them. -/
def groups : Nat → Nat → List UInt8
  | 0, n => [UInt8.ofNat n]
  | f + 1, n => if n < 128 then [UInt8.ofNat n] else UInt8.ofNat (n % 128 + 128) :: groups f (n / 128)

end Go.Proofs.YtdilgeabcacbdaaGreat
namespace Go.Proofs.YtdilgeabcacbdaaGreat
open Go.RowKit
set_option linter.unusedVariables false

end Go.Proofs.YtdilgeabcacbdaaGreat
namespace Go.Proofs.YtdilgeabcacbdaaGreat
open Go.RowKit
set_option linter.unusedVariables false

/-- Block g holds a message. -/
def MAt (w : World) (g : Nat) (f : Nat → Int) (b : ByteArray) : Prop :=
  g < w.heap.size ∧ (∀ j, j < 6 → w.cell? ⟨g, j, none⟩ = some (.int .i64 (f j))) ∧ w.cell? ⟨g, 6, none⟩ = some (.string b) ∧ ∀ o, o < 7 → w.frozen? ⟨g, o, none⟩ = false

section
variable {w w' : World} {g B : Nat} {f : Nat → Int} {b : ByteArray}
theorem MAt.fresh (w : World) (x0 x1 x2 x3 x4 x5 : Int) (b : ByteArray) (t : TypeId) (h0 : f 0 = x0) (h1 : f 1 = x1) (h2 : f 2 = x2) (h3 : f 3 = x3) (h4 : f 4 = x4) (h5 : f 5 = x5) : MAt (w.alloc (.cells #[.int .i64 x0, .int .i64 x1, .int .i64 x2, .int .i64 x3, .int .i64 x4, .int .i64 x5, .string b] t)) w.heap.size f b := by
  subst h0; subst h1; subst h2; subst h3; subst h4; subst h5
  refine ⟨by simp, fun j hj => ?_, by simp [go_sem], fun o ho => by simp [go_sem]⟩
  match j, hj with
  | 0, _ => simp [go_sem]
  | 1, _ => simp [go_sem]
  | 2, _ => simp [go_sem]
  | 3, _ => simp [go_sem]
  | 4, _ => simp [go_sem]
  | 5, _ => simp [go_sem]
theorem MAt.below (h : MAt w g f b) (hb : Below B w w') (hg : g < B) : MAt w' g f b :=
  ⟨Nat.lt_of_lt_of_le h.1 hb.size, fun j hj => (hb.cell (p := ⟨g, j, none⟩) hg).trans (h.2.1 j hj), (hb.cell (p := ⟨g, 6, none⟩) hg).trans h.2.2.1, fun o ho => (hb.frozen (p := ⟨g, o, none⟩) hg).trans (h.2.2.2 o ho)⟩
theorem MAt.grown (h : MAt w g f b) {r : Nat} (hg : w.grownBy w' (some r)) (hne : g ≠ r) : MAt w' g f b :=
  ⟨Nat.lt_of_lt_of_le h.1 hg.size, fun j hj => (hg.cell_far ⟨g, j, none⟩ h.1 (fun e => hne (by injection e))).trans (h.2.1 j hj), (hg.cell_far ⟨g, 6, none⟩ h.1 (fun e => hne (by injection e))).trans h.2.2.1, fun o ho => (hg.frozen_far ⟨g, o, none⟩ h.1 (fun e => hne (by injection e))).trans (h.2.2.2 o ho)⟩
theorem MAt.alloc (h : MAt w g f b) (o : Obj) : MAt (w.alloc o) g f b := h.below (w' := w.alloc o) ((Below.refl w.heap.size w).alloc (Nat.le_refl _) o) h.1
theorem MAt.other (h : MAt w g f b) {p : Addr} (hp : p.block ≠ g) (v : Value) : MAt (w.setCell p v) g f b :=
  ⟨by simpa using h.1, fun j hj => (World.cell?_setCell_other w p ⟨g, j, none⟩ v (fun e => hp (by rw [e]))).trans (h.2.1 j hj), (World.cell?_setCell_other w p ⟨g, 6, none⟩ v (fun e => hp (by rw [e]))).trans h.2.2.1, fun o ho => by rw [World.frozen?_setCell]; exact h.2.2.2 o ho⟩
theorem MAt.put (h : MAt w g f b) (k : Nat) (hk : k < 6) (n : Int) : MAt (w.setCell ⟨g, k, none⟩ (.int .i64 n)) g (fun j => if j = k then n else f j) b := by
  refine ⟨by simpa using h.1, fun j hj => ?_, ?_, fun o ho => by rw [World.frozen?_setCell]; exact h.2.2.2 o ho⟩
  · by_cases e : j = k
    · subst e
      have := h.2.1 j hj
      simp [go_sem, this]
    · show _ = some (Value.int .i64 (if j = k then n else f j))
      rw [if_neg e]
      exact (World.cell?_setCell_other w _ _ _ (fun he => by injection he; omega)).trans (h.2.1 j hj)
  · exact (World.cell?_setCell_other w _ _ _ (fun he => by injection he; omega)).trans h.2.2.1
theorem MAt.body (h : MAt w g f b) (s : ByteArray) : MAt (w.setCell ⟨g, 6, none⟩ (.string s)) g f s := by
  refine ⟨by simpa using h.1, fun j hj => (World.cell?_setCell_other w _ _ _ (fun he => by injection he; omega)).trans (h.2.1 j hj), ?_, fun o ho => by rw [World.frozen?_setCell]; exact h.2.2.2 o ho⟩
  have := h.2.2.1
  simp [go_sem, this]
/-- All that the walk asks of it. -/
theorem MAt.facts (h : MAt w g f b) : (w.cell? ⟨g, 0, none⟩ = some (.int .i64 (f 0)) ∧ w.cell? ⟨g, 1, none⟩ = some (.int .i64 (f 1)) ∧ w.cell? ⟨g, 2, none⟩ = some (.int .i64 (f 2)) ∧ w.cell? ⟨g, 3, none⟩ = some (.int .i64 (f 3)) ∧ w.cell? ⟨g, 4, none⟩ = some (.int .i64 (f 4)) ∧ w.cell? ⟨g, 5, none⟩ = some (.int .i64 (f 5)) ∧ w.cell? ⟨g, 6, none⟩ = some (.string b)) ∧
    (w.frozen? ⟨g, 0, none⟩ = false ∧ w.frozen? ⟨g, 1, none⟩ = false ∧ w.frozen? ⟨g, 2, none⟩ = false ∧ w.frozen? ⟨g, 3, none⟩ = false ∧ w.frozen? ⟨g, 4, none⟩ = false ∧ w.frozen? ⟨g, 5, none⟩ = false ∧ w.frozen? ⟨g, 6, none⟩ = false) :=
  ⟨⟨h.2.1 0 (by omega), h.2.1 1 (by omega), h.2.1 2 (by omega), h.2.1 3 (by omega), h.2.1 4 (by omega), h.2.1 5 (by omega), h.2.2.1⟩, h.2.2.2 0 (by omega), h.2.2.2 1 (by omega), h.2.2.2 2 (by omega), h.2.2.2 3 (by omega), h.2.2.2 4 (by omega), h.2.2.2 5 (by omega), h.2.2.2 6 (by omega)⟩
/-- Block g holds six numbers. -/
def NAt (w : World) (g : Nat) (f : Nat → Int) : Prop :=
  g < w.heap.size ∧ (∀ j, j < 6 → w.cell? ⟨g, j, none⟩ = some (.int .i64 (f j))) ∧ ∀ o, o < 6 → w.frozen? ⟨g, o, none⟩ = false
theorem NAt.fresh (w : World) (t : TypeId) : NAt (w.alloc (.cells #[.int .i64 0, .int .i64 0, .int .i64 0, .int .i64 0, .int .i64 0, .int .i64 0] t)) w.heap.size (fun _ => 0) := by
  refine ⟨by simp, fun j hj => ?_, fun o ho => by simp [go_sem]⟩
  match j, hj with
  | 0, _ => simp [go_sem]
  | 1, _ => simp [go_sem]
  | 2, _ => simp [go_sem]
  | 3, _ => simp [go_sem]
  | 4, _ => simp [go_sem]
  | 5, _ => simp [go_sem]
theorem NAt.below (h : NAt w g f) (hb : Below B w w') (hg : g < B) : NAt w' g f :=
  ⟨Nat.lt_of_lt_of_le h.1 hb.size, fun j hj => (hb.cell (p := ⟨g, j, none⟩) hg).trans (h.2.1 j hj), fun o ho => (hb.frozen (p := ⟨g, o, none⟩) hg).trans (h.2.2 o ho)⟩
theorem NAt.alloc (h : NAt w g f) (o : Obj) : NAt (w.alloc o) g f := h.below (w' := w.alloc o) ((Below.refl w.heap.size w).alloc (Nat.le_refl _) o) h.1
theorem NAt.put (h : NAt w g f) (k : Nat) (hk : k < 6) (n : Int) : NAt (w.setCell ⟨g, k, none⟩ (.int .i64 n)) g (fun j => if j = k then n else f j) := by
  refine ⟨by simpa using h.1, fun j hj => ?_, fun o ho => by rw [World.frozen?_setCell]; exact h.2.2 o ho⟩
  by_cases e : j = k
  · subst e
    have := h.2.1 j hj
    simp [go_sem, this]
  · show _ = some (Value.int .i64 (if j = k then n else f j))
    rw [if_neg e]
    exact (World.cell?_setCell_other w _ _ _ (fun he => by injection he; omega)).trans (h.2.1 j hj)
theorem NAt.facts (h : NAt w g f) : w.cell? ⟨g, 0, none⟩ = some (.int .i64 (f 0)) ∧ w.cell? ⟨g, 1, none⟩ = some (.int .i64 (f 1)) ∧ w.cell? ⟨g, 2, none⟩ = some (.int .i64 (f 2)) ∧ w.cell? ⟨g, 3, none⟩ = some (.int .i64 (f 3)) ∧ w.cell? ⟨g, 4, none⟩ = some (.int .i64 (f 4)) ∧ w.cell? ⟨g, 5, none⟩ = some (.int .i64 (f 5)) :=
  ⟨h.2.1 0 (by omega), h.2.1 1 (by omega), h.2.1 2 (by omega), h.2.1 3 (by omega), h.2.1 4 (by omega), h.2.1 5 (by omega)⟩
end

end Go.Proofs.YtdilgeabcacbdaaGreat
