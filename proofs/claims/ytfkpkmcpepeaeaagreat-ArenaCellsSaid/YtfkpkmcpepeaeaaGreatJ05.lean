/- What is proved here: cuts of a list of messages: what the walk gets, and how it reads; ring.hasValidNumbers, ring.hasZeroFreeCells, ring.hasSameID by contracts; ring.hasSameID, ring.Validate and ring.List by contracts; ring.List, ring.popError, ring.pushError by contracts. -/
import Derived.Test.YtfkpkmcpepeaeaaGreatJ02
import Derived.Test.YtfkpkmcpepeaeaaGreatRows
import Derived.Test.YtfkpkmcpepeaeaaGreatJ01
import Derived.WalkKit
import Derived.Outline
import Derived.IntWalk
import Derived.Laws.Slices
import Derived.Test.YtfkpkmcpepeaeaaGreatJ04
import Derived.Test.YtfkpkmcpepeaeaaGreatJ03
namespace Go.Proofs.YtfkpkmcpepeaeaaGreat
open Go.RowKit
set_option linter.unusedVariables false

section
variable {w : World} {B : Nat} {A : Option Addr} {n c : Nat} {l : List Msg}
theorem Ls.upto (h : Ls w B (.slice A n c) l) (j : Nat) (hj : j ≤ n) : Ls w B (.slice A j c) (l.take j) := by
  obtain ⟨hn, hl, hm⟩ := h.len
  have hlen : (l.take j).length = j := by simp; omega
  refine ⟨A, c, by rw [hlen], by rw [hlen]; omega, hm, by rw [lcs_len], fun h0 => ?_⟩
  rw [hlen] at h0
  obtain ⟨b, o, rfl, hb, hc⟩ := h.rd.2 (by omega)
  refine ⟨b, o, rfl, hb, fun k u hu => hc k u ?_⟩
  rw [← lcs_take] at hu
  have hk : k < j * 7 := by
    have := (List.getElem?_eq_some_iff.1 hu).1
    simp at this; omega
  rw [← hu, List.getElem?_take_of_lt hk]
theorem Ls.cut (h : Ls w B (.slice A n c) l) (k : Nat) (hk : k ≤ n) : Ls w B (.slice (if c = k then A else A.map (·.add (k * 7))) (n - k) (c - k)) (l.drop k) := by
  obtain ⟨hn, hl, hm⟩ := h.len
  refine ⟨_, c - k, by rw [List.length_drop, hn], by simp; omega, by omega, by rw [lcs_len], fun h0 => ?_⟩
  rw [List.length_drop] at h0
  obtain ⟨b, o, rfl, hb, hc⟩ := h.rd.2 (by omega)
  rw [if_neg (by omega)]
  refine ⟨b, o + k * 7, by rw [Option.map_some, add_mk], hb, fun j u hu => ?_⟩
  rw [Nat.add_assoc]
  refine hc _ u ?_
  rw [← hu, ← lcs_drop, List.getElem?_drop]
end
end Go.Proofs.YtfkpkmcpepeaeaaGreat
namespace Go.Proofs.YtfkpkmcpepeaeaaGreat
open Go.RowKit
set_option linter.unusedVariables false

theorem RgAt.step {w W W' : World} {p n c b m : Nat} {A : Option Addr} {hd sz : Int} {X : Msg} (h : RgAt w p A n c hd sz W) (hc : C7 W b m X) (hbw : b < W.heap.size) (hb : Below W.heap.size W W') :
    Hid (RgAt w p A n c hd sz W') ∧ (W'.cell? ⟨p, 0, none⟩ = some (.slice A n c) ∧ W'.cell? ⟨p, 1, none⟩ = some (.int .i64 hd) ∧ W'.cell? ⟨p, 2, none⟩ = some (.int .i64 sz) ∧ p < W'.heap.size) ∧ C7 W' b m X :=
  ⟨Lib.hid (h.below hb), (h.below hb).facts, hc.below hb hbw⟩

end Go.Proofs.YtfkpkmcpepeaeaaGreat
namespace Go.Proofs.YtfkpkmcpepeaeaaGreat
open Go.RowKit
set_option linter.unusedVariables false

open Classical in
/-- Two messages have the same ID. -/
noncomputable def dpB (l : List Msg) : Bool := decide (dupP l)
open Classical in
theorem dpB_no {l : List Msg} (h : ¬ dupP l) : dpB l = false := decide_eq_false h
end Go.Proofs.YtfkpkmcpepeaeaaGreat
namespace Go.Proofs.YtfkpkmcpepeaeaaGreat
open Go.RowKit
set_option linter.unusedVariables false

/-- What List returns. -/
noncomputable def lsF (cs : List Msg) (hd sz : Int) : List Msg := if rgV cs hd sz = 0 then ord cs hd.toNat sz.toNat else []
/-- The error of the two pushes. -/
noncomputable def puE (cs : List Msg) (hd sz : Int) (M : Msg) : Int := if rgV cs hd sz ≠ 0 then rgV cs hd sz else if vf M ≠ 0 then vf M else if sz = cs.length then 3 else if 0 ≤ ixF (ord cs hd.toNat sz.toNat) M.id then 10 else 0
end Go.Proofs.YtfkpkmcpepeaeaaGreat
