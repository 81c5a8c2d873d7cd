/- What is proved here: shardqueueref04.order returns the messages of a ring in order; cuts of a list of messages: what the walk gets, and how it reads; ring.hasValidNumbers, ring.hasZeroFreeCells, ring.hasSameID by contracts; ring.hasSameID, ring.Validate and ring.List by contracts. -/
import Derived.Test.YtommkhjgockpfaaJ04
import Derived.Deep.RegionHeld3
import Derived.Deep.DrawnRows
import Derived.Deep.AppendLies
import Derived.Test.YtommkhjgockpfaaJ03
import Derived.Test.YtommkhjgockpfaaRows
import Derived.Test.YtommkhjgockpfaaJ02
import Derived.WalkKit
import Derived.Outline
import Derived.IntWalk
import Derived.Laws.Slices
import Derived.Laws.StructEq
import Derived.KernelRfl
namespace Go.Proofs.Ytommkhjgockpfaa
open Go.RowKit
set_option linter.unusedVariables false

/-- A ring in a block, and what was made beside it. -/
structure RgAt (w : World) (p : Nat) (A : Option Addr) (n c : Nat) (hd sz : Int) (W : World) : Prop where
  c0 : W.cell? ⟨p, 0, none⟩ = some (.slice A n c)
  c1 : W.cell? ⟨p, 1, none⟩ = some (.int .i64 hd)
  c2 : W.cell? ⟨p, 2, none⟩ = some (.int .i64 sz)
  bel : Below w.heap.size w W
  old : w.heap.size ≤ p ∧ p < W.heap.size
section
variable {w W W' : World} {p n c : Nat} {A : Option Addr} {hd sz : Int}
theorem RgAt.facts (h : RgAt w p A n c hd sz W) : W.cell? ⟨p, 0, none⟩ = some (.slice A n c) ∧ W.cell? ⟨p, 1, none⟩ = some (.int .i64 hd) ∧ W.cell? ⟨p, 2, none⟩ = some (.int .i64 sz) ∧ p < W.heap.size := ⟨h.c0, h.c1, h.c2, h.old.2⟩
theorem RgAt.below (h : RgAt w p A n c hd sz W) (hb : Below W.heap.size W W') : RgAt w p A n c hd sz W' :=
  ⟨(hb.cell (p := ⟨p, 0, none⟩) h.old.2).trans h.c0, (hb.cell (p := ⟨p, 1, none⟩) h.old.2).trans h.c1, (hb.cell (p := ⟨p, 2, none⟩) h.old.2).trans h.c2, h.bel.trans (hb.mono h.bel.size), h.old.1, Nat.lt_of_lt_of_le h.old.2 hb.size⟩
theorem RgAt.drew (h : RgAt w p A n c hd sz W) : RgAt w p A n c hd sz W.drew := ⟨h.c0, h.c1, h.c2, h.bel.drew, h.old⟩
theorem RgAt.drewN (h : RgAt w p A n c hd sz W) (k : Nat) : RgAt w p A n c hd sz (W.drewN k) := ⟨h.c0, h.c1, h.c2, below_drewN h.bel k, h.old⟩
theorem RgAt.alloc (h : RgAt w p A n c hd sz W) (o : Obj) : RgAt w p A n c hd sz (W.alloc o) := h.below ((Below.refl _ _).alloc (Nat.le_refl _) o)
/-- Something was written behind the ring. -/
theorem RgAt.grown (h : RgAt w p A n c hd sz W) {row : Option Nat} (hg : W.grownBy W' row) (hr : ∀ k, row = some k → p < k) : RgAt w p A n c hd sz W' := by
  have e : ∀ o, W'.cell? ⟨p, o, none⟩ = W.cell? ⟨p, o, none⟩ := fun o => hg.cell_far ⟨p, o, none⟩ h.old.2 (fun e => by have := hr p e.symm; omega)
  exact ⟨(e 0).trans h.c0, (e 1).trans h.c1, (e 2).trans h.c2, h.bel.grown hg h.bel.size (fun k hk => by have := hr k hk; have := h.old.1; omega), h.old.1, Nat.lt_of_lt_of_le h.old.2 hg.size⟩
theorem RgAt.start (w : World) (A : Option Addr) (n c : Nat) (hd sz : Int) (t : TypeId) : RgAt w w.heap.size A n c hd sz (w.alloc (.cells #[.slice A n c, .int .i64 hd, .int .i64 sz] t)) :=
  ⟨by simp [go_sem], by simp [go_sem], by simp [go_sem], (Below.refl _ _).alloc (Nat.le_refl _) _, Nat.le_refl _, by simp⟩
end

theorem C7.grown {W W' : World} {b m p : Nat} {X : Msg} {row : Option Nat} (h : C7 W b m X) (hg : W.grownBy W' row) (hb : b < p) (hp : p < W.heap.size) (hr : ∀ k, row = some k → p < k) : C7 W' b m X := by
  have e : ∀ o, W'.cell? ⟨b, o, none⟩ = W.cell? ⟨b, o, none⟩ := fun o => hg.cell_far ⟨b, o, none⟩ (show b < W.heap.size by omega) (fun e => by have := hr b e.symm; omega)
  obtain ⟨c0, c1, c2, c3, c4, c5, c6⟩ := h
  exact ⟨(e _).trans c0, (e _).trans c1, (e _).trans c2, (e _).trans c3, (e _).trans c4, (e _).trans c5, (e _).trans c6⟩

attribute [local go_sem ↓] Go.wp_at_zero Go.wp_at_succ
end Go.Proofs.Ytommkhjgockpfaa
namespace Go.Proofs.Ytommkhjgockpfaa
open Go.RowKit
set_option linter.unusedVariables false

section
variable {w : World} {B : Nat} {A : Option Addr} {n c : Nat} {l : List Msg}
theorem Ls.upto (h : Ls w B (.slice A n c) l) (j : Nat) (hj : j ≤ n) : Ls w B (.slice A j c) (l.take j) := by
  obtain ⟨hn, hl, hm⟩ := h.len
  have hlen : (l.take j).length = j := by simp; omega
  refine ⟨A, c, by rw [hlen], by rw [hlen]; omega, hm, by rw [lcs_len], fun h0 => ?_⟩
  rw [hlen] at h0
  obtain ⟨b, o, rfl, hb, hc⟩ := h.rd.2 (by omega)
  refine ⟨b, o, rfl, hb, fun k u hu => hc k u ?_⟩
  rw [← lcs_take] at hu
  have hk : k < j * 7 := by
    have := (List.getElem?_eq_some_iff.1 hu).1
    simp at this; omega
  rw [← hu, List.getElem?_take_of_lt hk]
theorem Ls.cut (h : Ls w B (.slice A n c) l) (k : Nat) (hk : k ≤ n) : Ls w B (.slice (if c = k then A else A.map (·.add (k * 7))) (n - k) (c - k)) (l.drop k) := by
  obtain ⟨hn, hl, hm⟩ := h.len
  refine ⟨_, c - k, by rw [List.length_drop, hn], by simp; omega, by omega, by rw [lcs_len], fun h0 => ?_⟩
  rw [List.length_drop] at h0
  obtain ⟨b, o, rfl, hb, hc⟩ := h.rd.2 (by omega)
  rw [if_neg (by omega)]
  refine ⟨b, o + k * 7, by rw [Option.map_some, add_mk], hb, fun j u hu => ?_⟩
  rw [Nat.add_assoc]
  refine hc _ u ?_
  rw [← hu, ← lcs_drop, List.getElem?_drop]
end
end Go.Proofs.Ytommkhjgockpfaa
namespace Go.Proofs.Ytommkhjgockpfaa
open Go.RowKit
set_option linter.unusedVariables false

theorem RgAt.step {w W W' : World} {p n c b m : Nat} {A : Option Addr} {hd sz : Int} {X : Msg} (h : RgAt w p A n c hd sz W) (hc : C7 W b m X) (hbw : b < W.heap.size) (hb : Below W.heap.size W W') :
    Hid (RgAt w p A n c hd sz W') ∧ (W'.cell? ⟨p, 0, none⟩ = some (.slice A n c) ∧ W'.cell? ⟨p, 1, none⟩ = some (.int .i64 hd) ∧ W'.cell? ⟨p, 2, none⟩ = some (.int .i64 sz) ∧ p < W'.heap.size) ∧ C7 W' b m X :=
  ⟨Lib.hid (h.below hb), (h.below hb).facts, hc.below hb hbw⟩

end Go.Proofs.Ytommkhjgockpfaa
namespace Go.Proofs.Ytommkhjgockpfaa
open Go.RowKit
set_option linter.unusedVariables false

open Classical in
/-- Two messages have the same ID. -/
noncomputable def dpB (l : List Msg) : Bool := decide (dupP l)
open Classical in
theorem dpB_no {l : List Msg} (h : ¬ dupP l) : dpB l = false := decide_eq_false h
end Go.Proofs.Ytommkhjgockpfaa
