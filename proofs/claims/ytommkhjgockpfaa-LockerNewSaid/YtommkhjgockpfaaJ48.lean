/- What is proved here: in the statements of layer 13, some gives cells in ascending order; Jkp; Jkl. -/
import Derived.Test.YtommkhjgockpfaaJ46
import Derived.Test.YtommkhjgockpfaaJ16
import Derived.Test.YtommkhjgockpfaaJ47
import Derived.Deep.AppendLies
import Derived.Deep.DeepCutAuto
import Derived.Deep.RegionHeld3
namespace Go.Proofs.Ytommkhjgockpfaa
open Go.RowKit
set_option linter.unusedVariables false

/-- A source and a row of numbers that may be appended to. -/
structure JW (w : World) (B g : Nat) (A : Option Addr) (c : Nat) (l : List Int) (W : World) : Prop where
  src : SrcAt W B g
  own : W.ownsRow w.heap.size 3 1 (.slice A l.length c) l.length (ics l)
  grow : w.grownBy W (some g)
  gl : g < w.heap.size
section
variable {w W W' : World} {B g c : Nat} {A : Option Addr} {l : List Int}
theorem JW.start (h : SrcAt w B g) : JW w B g none 0 [] w := ⟨h, World.ownsRow_nil _ _ _ _, World.grownBy.refl _ _, h.2.1⟩
theorem JW.turn (h : JW w B g A c l W) (hs : SrcAt W' B g) (hg : W.grownBy W' (some g)) : JW w B g A c l W' :=
  ⟨hs, own_farT h.own hg (fun k hk e => by injection e with e; have := (h.own.lt k hk).1; have := h.gl; omega), h.grow.trans hg, h.gl⟩
theorem JW.below (h : JW w B g A c l W) (hb : Below W.heap.size W W') : JW w B g A c l W' :=
  ⟨h.src.below hb, own_upT h.own hb, only_below h.grow hb, h.gl⟩
theorem JW.alloc (h : JW w B g A c l W) (o : Obj) : JW w B g A c l (W.alloc o) := h.below ((Below.refl _ _).alloc (Nat.le_refl _) o)
theorem JW.app (h : JW w B g A c l W) {x : Int} {A1 : Option Addr} {c1 : Nat} (ho : W'.ownsRow w.heap.size 3 1 (.slice A1 (l.length + 1) c1) (l.length + 1) (ics l ++ [.int .i64 x])) (hg : W.grownBy W' (Value.ownBlock (.slice A l.length c))) : JW w B g A1 c1 (l ++ [x]) W' := by
  have hlt : ∀ x, Value.ownBlock (.slice A l.length c) = some x → w.heap.size ≤ x := fun x e => (h.own.lt x e).1
  have hgl := h.gl
  have hB := h.src.1
  have hs : SrcAt W' B g := by
    refine h.src.keep hg.size (fun o => hg.cell_far ⟨g, o, none⟩ h.src.2.1 (fun e => by have := hlt g e.symm; omega)) (fun o => hg.frozen_far ⟨g, o, none⟩ h.src.2.1 (fun e => by have := hlt g e.symm; omega)) (fun x hx => hg.cell_far x (by have := h.src.2.1; omega) (fun e => by have := hlt _ e.symm; omega))
  have hw : w.grownBy W' (some g) := by
    refine ⟨hg.os.trans h.grow.os, hg.tape.trans h.grow.tape, hg.output.trans h.grow.output, Nat.le_trans h.grow.size hg.size, fun x hx hne => ?_⟩
    rw [hg.block x (Nat.lt_of_lt_of_le hx h.grow.size) (fun e => by have := hlt x e.symm; omega), h.grow.block x hx hne]
  have e1 : (l ++ [x]).length = l.length + 1 := by simp
  have e2 : ics (l ++ [x]) = ics l ++ [.int .i64 x] := by simp [ics, i64v]
  exact ⟨hs, by rw [e1, e2]; exact ho, hw, hgl⟩
theorem JW.fl (h : JW w B g A c l W) : Fl W W.heap.size (.slice A l.length c) l := Fl.of_own h.own
theorem JW.nw (h : JW w B g A c l W) : Nw w.heap.size A := nwv_of (nwv_own h.own (Nat.le_refl _))
end
/-- Cells that New accepts, in an arena with N slots. -/
structure OkC (N : Nat) (cs : List Int) : Prop where
  l3 : cs.length ≤ 3
  asc : ∀ i j, i < j → j < cs.length → ig cs i < ig cs j
  rng : ∀ i, i < cs.length → 0 ≤ ig cs i ∧ ig cs i ≤ N
theorem ig_app {cs : List Int} {x : Int} {i : Nat} (hi : i < cs.length + 1) : ig (cs ++ [x]) i = if i < cs.length then ig cs i else x := by
  unfold ig
  by_cases h : i < cs.length
  · rw [if_pos h, List.getD_eq_getElem?_getD, List.getD_eq_getElem?_getD, List.getElem?_append_left h]
  · rw [if_neg h, List.getD_eq_getElem?_getD, List.getElem?_append_right (by omega), show i - cs.length = 0 by omega]
    rfl
theorem OkC.app {N k : Nat} {cs : List Int} (h : OkC N cs) (hk : ∀ i, i < cs.length → ig cs i < k) (hkN : k ≤ N) (hl : cs.length < 3) : OkC N (cs ++ [(k : Int)]) := by
  refine ⟨by simp; omega, fun i j hij hj => ?_, fun i hi => ?_⟩
  · rw [List.length_append, List.length_singleton] at hj
    rw [ig_app (by omega), ig_app hj, if_pos (show i < cs.length by omega)]
    split
    · exact h.asc i j hij (by omega)
    · exact hk i (by omega)
  · rw [List.length_append, List.length_singleton] at hi
    rw [ig_app hi]
    split
    · exact h.rng i (by omega)
    · omega
end Go.Proofs.Ytommkhjgockpfaa
/- Plain: lockers that are stepped in turn all come to an end: a number that falls in each round. -/
namespace Go.Proofs.Ytommkhjgockpfaa
open Go.RowKit
set_option linter.unusedVariables false

/-- Lockers that still acquire. -/
def un13 (l : Lk) : Nat := if l.ph ≤ 2 then 1 else 0
def Un13 (L : List Lk) : Nat := (L.map un13).sum
/-- A number that falls, and the locker whose turn makes it fall. -/
inductive Pot13 (N : Nat) (o : Nat → Int) (L : List Lk) (P j : Nat) : Prop
  | top (l : Lk) (m : Nat) : L[j]? = some l → 1 ≤ l.h → ig l.cs (l.h - 1) = (m : Int) → m ≤ N → (∀ c, c ≤ N → m < c → o c = 0) → (l.ph = 0 ∧ P = 20 * Un13 L + (6 - m)) ∨ ((l.ph = 1 ∨ l.ph = 3 ∨ l.ph = 4) ∧ P = 20 * Un13 L + 13 + m) → Pot13 N o L P j
  | none (l : Lk) : L[j]? = some l → (∀ c, c ≤ N → o c = 0) → (l.ph = 0 ∧ P = 20 * Un13 L + 8) ∨ (l.ph = 2 ∧ P = 20 * Un13 L + 8 + l.wt.toNat) → Pot13 N o L P j
section
variable {N : Nat} {T : Int} {o o' : Nat → Int} {L : List Lk} {k j P : Nat} {l l' : Lk}
theorem Pot13.at_ (h : Pot13 N o L P j) : ∃ l, L[j]? = some l ∧ l.ph ≠ 5 := by
  cases h with
  | top l m hj _ _ _ _ hp => exact ⟨l, hj, by omega⟩
  | none l hj _ hp => exact ⟨l, hj, by omega⟩
theorem Pot13.lt (h : Pot13 N o L P j) : j < L.length := by
  obtain ⟨l, hj, _⟩ := h.at_
  exact (List.getElem?_eq_some_iff.1 hj).1
theorem Pot13.ge (h : Pot13 N o L P j) : 20 * Un13 L ≤ P := by
  cases h with
  | top l m hj _ _ _ _ hp => omega
  | none l hj _ hp => omega
variable {P0 j0 : Nat}
end
end Go.Proofs.Ytommkhjgockpfaa
/- Plain: what Step of a locker does to an arena whose owners are known. -/
namespace Go.Proofs.Ytommkhjgockpfaa
open Go.RowKit
set_option linter.unusedVariables false

theorem own_set13 {a : Ar} {n x : Nat} {v : Int} (hn : n ≤ a.sl.length) (hx : x ≤ a.sl.length) : (a.setOwn n v).own x = (if x = n then v else a.own x) ∧ (a.setOwn n v).sl.length = a.sl.length := by
  by_cases e : n = a.sl.length
  · have e1 : a.setOwn n v = ⟨a.sl, a.st, v, a.cap, a.dl, a.dir, a.ep, a.ck, a.ni⟩ := if_pos e
    rw [e1]
    refine ⟨?_, rfl⟩
    unfold Ar.own
    by_cases h : x = a.sl.length
    · rw [if_pos h, if_pos (by omega)]
    · rw [if_neg h, if_neg (by omega), if_neg h]
  · have e1 : a.setOwn n v = ⟨a.sl.set n ⟨v, (og a.sl n).sh⟩, a.st, a.ow, a.cap, a.dl, a.dir, a.ep, a.ck, a.ni⟩ := if_neg e
    have hl : (a.setOwn n v).sl.length = a.sl.length := by rw [e1]; simp
    refine ⟨?_, hl⟩
    unfold Ar.own
    rw [hl, e1]
    by_cases h : x = a.sl.length
    · rw [if_pos h, if_neg (by omega), if_pos h]
    · rw [if_neg h, if_neg h, og_get (by simp; omega)]
      by_cases hxn : x = n
      · subst hxn
        rw [if_pos rfl]
        simp only [List.getElem_set_self]
      · rw [if_neg hxn]
        simp only [List.getElem_set_ne (fun e => hxn e.symm)]
        rw [og_get (show x < a.sl.length by omega)]
section
variable {a : Ar} {l : Lk} {t : Int} {c : Nat}
theorem st_acq (p0 : l.ph = 0) (hh : l.hv = (l.h : Int)) (hl : l.h < l.cs.length) (hc : ig l.cs l.h = (c : Int)) (hn : c ≤ a.sl.length) (t1 : 1 ≤ t) (t2 : t ≤ 200) :
    stE13 a l t = 0 ∧ stA13 a l t = a.setOwn c (if a.own c = 0 then t else a.own c) ∧ stL13 a l t = aqL l (decide (a.own c = 0)) := by
  have e : ctF l.cs l.hv = (c : Int) := by rw [hh, ctF_nat hl, hc]
  have k := lk_yes hn (wi_true t1 t2)
  have e0 : aqE a l t = 0 := by unfold aqE; rw [e, k]
  refine ⟨by unfold stE13; rw [if_pos p0, e0], ?_, ?_⟩
  · unfold stA13
    rw [if_pos p0, e]
    unfold tlA
    rw [if_pos k]
    rfl
  · unfold stL13
    rw [if_pos p0]
    unfold aqR
    rw [if_pos e0, e]
    unfold tlB
    rw [k]
    simp
end
end Go.Proofs.Ytommkhjgockpfaa
