/- What is proved here: cuts of a list of leases: what the walk gets, and how it reads; slices.Clone, slices.Grow, slices.Concat of leases, lease.without by contracts; shard.within, isSpan, has, size, capacity, aTime, aVisibility, anEpoch, aLimit, clone by contracts; Wnp; ring.ordered and ring.List return lists that may be appended to. -/
import Derived.Test.YtijpflljopckiaaJ08
import Derived.Test.YtijpflljopckiaaRows
import Derived.Test.YtijpflljopckiaaJ02
import Derived.WalkKit
import Derived.Outline
import Derived.IntWalk
import Derived.Laws.Slices
import Derived.Test.YtijpflljopckiaaJ14
import Derived.Deep.AppendLies
import Derived.WalkSpells
import Derived.Lib.AppendZerosOnto
import Derived.Shelf.Spec.SlicesGrow
import Derived.Deep.RegionHeld3
import Derived.Test.YtijpflljopckiaaJ12
import Derived.Test.YtijpflljopckiaaJ06
import Derived.Test.YtijpflljopckiaaJ10
import Derived.Test.YtijpflljopckiaaJ03
import Derived.ArgAppend
import Derived.BigFrame
import Derived.Test.YtijpflljopckiaaJ05
namespace Go.Proofs.Ytijpflljopckiaa
open Go.RowKit
set_option linter.unusedVariables false

section
variable {w : World} {B : Nat} {A : Option Addr} {n c : Nat} {l : List Le}
theorem El.upto (h : El w B (.slice A n c) l) (j : Nat) (hj : j ≤ n) : El w B (.slice A j c) (l.take j) := by
  obtain ⟨hn, hl, hm⟩ := h.len
  have hlen : (l.take j).length = j := by simp; omega
  refine ⟨A, c, by rw [hlen], by rw [hlen]; omega, hm, by rw [ecs_len], fun h0 => ?_⟩
  rw [hlen] at h0
  obtain ⟨b, o, rfl, hb, hc⟩ := h.rd.2 (by omega)
  refine ⟨b, o, rfl, hb, fun k u hu => hc k u ?_⟩
  rw [← ecs_take] at hu
  have hk : k < j * 8 := by
    have := (List.getElem?_eq_some_iff.1 hu).1
    simp at this; omega
  rw [← hu, List.getElem?_take_of_lt hk]
theorem El.cut (h : El w B (.slice A n c) l) (k : Nat) (hk : k ≤ n) : El w B (.slice (if c = k then A else A.map (·.add (k * 8))) (n - k) (c - k)) (l.drop k) := by
  obtain ⟨hn, hl, hm⟩ := h.len
  refine ⟨_, c - k, by rw [List.length_drop, hn], by simp; omega, by omega, by rw [ecs_len], fun h0 => ?_⟩
  rw [List.length_drop] at h0
  obtain ⟨b, o, rfl, hb, hc⟩ := h.rd.2 (by omega)
  rw [if_neg (by omega)]
  refine ⟨b, o + k * 8, by rw [Option.map_some, add_mk], hb, fun j u hu => ?_⟩
  rw [Nat.add_assoc]
  refine hc _ u ?_
  rw [← hu, ← ecs_drop, List.getElem?_drop]
end
end Go.Proofs.Ytijpflljopckiaa
namespace Go.Proofs.Ytijpflljopckiaa
open Go.RowKit
set_option linter.unusedVariables false

theorem info_lease : (Try.prog.info? 154).map (fun i => (i.zero, i.size, i.bytes)) = some (some (Le.v zL), 8, 72) := by kernel_rfl
/-- A copy, that the call owns. -/
def EClP (w : World) (l : List Le) (e : Ending) (w' : World) : Prop := ∃ v, e = .returned v ∧ w'.ownsRow w.heap.size 154 8 v l.length (ecs l) ∧ Below w.heap.size w w'
theorem eclone_end {w w1 : World} {l : List Le} {v1 : Value} {o : Obj} (hown : w1.ownsRow w.heap.size 154 8 v1 (0 + l.length) ([] ++ ecs l)) (hg : (w.alloc o).grownBy w1 (Value.ownBlock (.slice (some ⟨w.heap.size, 0, none⟩) 0 0))) : EClP w l (.returned v1) w1 := by
  rw [Nat.zero_add, List.nil_append] at hown
  exact ⟨v1, rfl, hown, (((Below.refl _ _).alloc (Nat.le_refl _) o)).grown hg (by simp) (fun k hk => by simp [Value.ownBlock] at hk; omega)⟩

set_option maxHeartbeats 2000000 in
theorem eclone_any (A : Option Addr) (n c : Nat) (l : List Le) (w : World) (hv : El w w.heap.size (.slice A n c) l) (h2 : n ≤ 1000) :
    Calls Try.prog 98 #[.slice A n c] w (EClP w l) := by
  obtain ⟨rfl, hm1, hm2⟩ := hv.len
  obtain ⟨i0, hi0, hz0⟩ := Option.map_eq_some_iff.1 info_lease
  simp only [Prod.mk.injEq] at hz0
  have HI := Lib.hid hi0
  have HZ := Lib.hid hz0
  have HV := Lib.hid hv
  have heq : ∀ W, (binOp .eql 80 (.slice A l.length c) (.slice none 0 0)).run Try.prog W = .ok (.bool A.isNone) W := fun W => Lib.run_eql_slice_nil W _ _ _ _ _ _ _ Try.underlying80
  have HRD := Lib.hid hv.rd
  clear hv hi0 hz0
  cases A with
  | none =>
    have hl : l = [] := by
      cases l with
      | nil => rfl
      | cons d l => obtain ⟨b, o, e, _⟩ := HRD.out.2 (by simp); cases e
    subst hl
    have HP := Lib.hid (show EClP w [] (.returned (.slice none 0 0)) w from ⟨_, rfl, World.ownsRow_nil w _ _ _, Below.refl _ _⟩)
    simp only [List.length_nil, Option.isNone_none] at heq ⊢
    go_enter Try.func98, Try.ntmps98
    go_wp2
    go_ret
    exact HP.out
  | some a =>
    simp only [Option.isNone_some] at heq
    go_enter Try.func98, Try.ntmps98
    go_wp2_with (at_builtin; refine wpList_append_rd _ rfl (.tmp 5) (.tmp 6) 80 rfl w.heap.size 154 i0 _ 8 72 Try.underlying80 HI.out HZ.out.1 HZ.out.2.1 HZ.out.2.2 rfl (by omega) (.slice (some ⟨w.heap.size, 0, none⟩) 0 0) 0 [] rfl (World.ownsRow_made w #[] 0 (Nat.le_refl _) (Nat.zero_le _) rfl) w.heap.size (some a) l.length c (ecs l) rfl (HV.out.alloc (Nat.le_refl _) _).rd (ecs_one l) (by unfold maxLen; omega) (by omega) (by simp) ?_; intro v1 w1 hown1 hg1 hat1)
    have HP := Lib.hid (eclone_end hown1 hg1)
    clear hown1 hg1 hat1
    go_wp2
    go_ret
    exact HP.out

/-- Two slices in an array of the call's own. -/
structure Cc2 (W : World) (g : Nat) (v0 v1 : Value) (l0 l1 : List Le) : Prop where
  c0 : W.cell? ⟨g, 0, none⟩ = some v0
  c1 : W.cell? ⟨g, 1, none⟩ = some v1
  lt : g < W.heap.size
  e0 : El W W.heap.size v0 l0
  e1 : El W W.heap.size v1 l1
theorem Cc2.start {w : World} {v0 v1 : Value} {l0 l1 : List Le} (t : TypeId) (h0 : El w w.heap.size v0 l0) (h1 : El w w.heap.size v1 l1) : Cc2 (w.alloc (.cells #[v0, v1] t)) w.heap.size v0 v1 l0 l1 := by
  have hb := (Below.refl w.heap.size w).alloc (Nat.le_refl _) (.cells #[v0, v1] t)
  refine ⟨?_, ?_, by simp, (h0.below hb).more hb.size, (h1.below hb).more hb.size⟩
  · rw [World.cell?_alloc_new]; rfl
  · rw [World.cell?_alloc_new]; rfl
end Go.Proofs.Ytijpflljopckiaa
namespace Go.Proofs.Ytijpflljopckiaa
open Go.RowKit
set_option linter.unusedVariables false

theorem sspan_any (lo hi : Int) (w : World) : Calls Try.prog 96 #[.int .i64 lo, .int .i64 hi] w fun e w' => e = .returned (.bool (spB lo hi)) ∧ w = w' := by
  by_cases h1 : 0 ≤ lo
  · by_cases h2 : lo ≤ hi
    · by_cases h3 : hi < 65536
      · have H := Lib.hid (spB_iff.2 ⟨h1, h2, h3⟩)
        go_enter Try.func96, Try.ntmps96
        go_wp2
        go_ret
        exact ⟨by rw [H.out]; rfl, rfl⟩
      · have H := Lib.hid (show spB lo hi = false from decide_eq_false (fun h => h3 h.2.2))
        go_enter Try.func96, Try.ntmps96
        go_wp2
        go_ret
        exact ⟨by rw [H.out]; rfl, rfl⟩
    · have H := Lib.hid (show spB lo hi = false from decide_eq_false (fun h => h2 h.2.1))
      go_enter Try.func96, Try.ntmps96
      go_wp2
      go_ret
      exact ⟨by rw [H.out]; rfl, rfl⟩
  · have H := Lib.hid (show spB lo hi = false from decide_eq_false (fun h => h1 h.1))
    go_enter Try.func96, Try.ntmps96
    go_wp2
    go_ret
    exact ⟨by rw [H.out]; rfl, rfl⟩
/-- Three numbers: a number and its range. -/
abbrev r3 (n lo hi : Int) : Value := .agg #[.int .i64 n, .int .i64 lo, .int .i64 hi]
end Go.Proofs.Ytijpflljopckiaa
/- Plain: a list of messages that is cut at both ends and appended to. -/
namespace Go.Proofs.Ytijpflljopckiaa
open Go.RowKit
set_option linter.unusedVariables false

/-- A list of messages from block 'base' on, below Bd: it may be appended to in place. -/
def Wn (W : World) (base Bd : Nat) (v : Value) (l : List Msg) : Prop := ∃ A c, v = .slice A l.length c ∧ l.length ≤ c ∧ c ≤ maxLen ∧ (A = none → c = 0) ∧
  (0 < c → ∃ b o, A = some ⟨b, o, none⟩ ∧ base ≤ b ∧ b < Bd ∧ (∀ j u, (lcs l)[j]? = some u → W.cell? ⟨b, o + j, none⟩ = some u) ∧ ∀ j, j < c * 7 → (W.cell? ⟨b, o + j, none⟩).isSome = true ∧ W.frozen? ⟨b, o + j, none⟩ = false)
section
variable {W W' : World} {base Bd Bd' : Nat} {v : Value} {l : List Msg} {A : Option Addr} {n c : Nat}
theorem Wn.nil : Wn W base Bd (.slice none 0 0) [] := ⟨none, 0, rfl, Nat.le_refl _, Nat.zero_le _, fun _ => rfl, fun h => absurd h (by omega)⟩
theorem Wn.more (h : Wn W base Bd v l) (hB : Bd ≤ Bd') : Wn W base Bd' v l := by
  obtain ⟨A, c, e, h1, h2, h3, h4⟩ := h
  exact ⟨A, c, e, h1, h2, h3, fun h0 => by obtain ⟨b, o, e, k1, k2, k3⟩ := h4 h0; exact ⟨b, o, e, k1, by omega, k3⟩⟩
theorem Wn.keep (h : Wn W base Bd v l) (hc : ∀ b o, base ≤ b → b < Bd → W'.cell? ⟨b, o, none⟩ = W.cell? ⟨b, o, none⟩ ∧ W'.frozen? ⟨b, o, none⟩ = W.frozen? ⟨b, o, none⟩) : Wn W' base Bd v l := by
  obtain ⟨A, c, e, h1, h2, h3, h4⟩ := h
  refine ⟨A, c, e, h1, h2, h3, fun h0 => ?_⟩
  obtain ⟨b, o, e, k1, k2, k3, k4⟩ := h4 h0
  exact ⟨b, o, e, k1, k2, fun j u hu => (hc b _ k1 k2).1.trans (k3 j u hu), fun j hj => ⟨by rw [(hc b (o + j) k1 k2).1]; exact (k4 j hj).1, (hc b (o + j) k1 k2).2.trans (k4 j hj).2⟩⟩
theorem Wn.below (h : Wn W base Bd v l) (hB : Bd ≤ W.heap.size) (hb : Below W.heap.size W W') : Wn W' base Bd v l :=
  h.keep fun b o _ h2 => ⟨hb.cell (p := ⟨b, o, none⟩) (by show b < _; omega), hb.frozen (p := ⟨b, o, none⟩) (by show b < _; omega)⟩
theorem Wn.grown (h : Wn W base Bd v l) (hB : Bd ≤ W.heap.size) {row : Option Nat} (hg : W.grownBy W' row) (hr : ∀ x, row = some x → x < base ∨ Bd ≤ x) : Wn W' base Bd v l :=
  h.keep fun b o h1 h2 => ⟨hg.cell_far ⟨b, o, none⟩ (by show b < _; omega) (fun e => by have := hr b e.symm; omega), hg.frozen_far ⟨b, o, none⟩ (by show b < _; omega) (fun e => by have := hr b e.symm; omega)⟩
theorem Wn.alloc (h : Wn W base Bd v l) (hB : Bd ≤ W.heap.size) (o : Obj) : Wn (W.alloc o) base Bd v l := h.below hB ((Below.refl _ _).alloc (Nat.le_refl _) o)
theorem Wn.drewN (h : Wn W base Bd v l) (k : Nat) : Wn (W.drewN k) base Bd v l := h
theorem Wn.set (h : Wn W base Bd v l) {p : Addr} (hp : p.block < base ∨ Bd ≤ p.block) (u : Value) : Wn (W.setCell p u) base Bd v l :=
  h.keep fun b o h1 h2 => ⟨World.cell?_setCell_other W p ⟨b, o, none⟩ u (fun e => by subst e; simp at hp; omega), by rw [World.frozen?_setCell]⟩
theorem Wn.ls (h : Wn W base Bd v l) : Ls W Bd v l := by
  obtain ⟨A, c, e, h1, h2, h3, h4⟩ := h
  refine ⟨A, c, e, h1, h2, by rw [lcs_len], fun h0 => ?_⟩
  obtain ⟨b, o, e, k1, k2, k3, _⟩ := h4 (by omega)
  exact ⟨b, o, e, k2, k3⟩
theorem Wn.form (h : Wn W base Bd v l) : ∃ A c, v = .slice A l.length c := by obtain ⟨A, c, e, _⟩ := h; exact ⟨A, c, e⟩
theorem Wn.own {base' : Nat} {e : TypeId} (h : W.ownsRow base' e 7 v l.length (lcs l)) (hb : base ≤ base') : Wn W base W.heap.size v l := by
  rcases h.2 with ⟨hv, h0⟩ | ⟨g, cap, cur, hv, hg, hh, hl, hm, hs, ht⟩
  · have hl : l = [] := List.length_eq_zero_iff.1 h0
    subst hl
    subst hv
    exact Wn.nil
  · subst hv
    refine ⟨_, cap, rfl, hl, hm, fun h => by simp at h, fun _ => ⟨g, 0, rfl, by omega, (Array.getElem?_eq_some_iff.1 hh).1, fun j u hu => by have := h.cells (g := g) rfl j u hu; rwa [add_mk] at this, fun j hj => ⟨?_, by rw [Nat.zero_add]; exact h.frozenAt j⟩⟩⟩
    rw [Nat.zero_add]
    have hj' : j < cur.size := by omega
    simp [World.cell?, hh, hj']
/-- It is cut at its end. -/
theorem Wn.upto (h : Wn W base Bd (.slice A n c) l) (j : Nat) (hj : j ≤ n) : Wn W base Bd (.slice A j c) (l.take j) := by
  obtain ⟨A', c', e, h1, h2, h3, h4⟩ := h
  injection e with e1 e2 e3
  subst e1; subst e3
  have hl : (l.take j).length = j := by rw [List.length_take]; omega
  refine ⟨A, c, by rw [hl], by omega, h2, h3, fun h0 => ?_⟩
  obtain ⟨b, o, e, k1, k2, k3, k4⟩ := h4 h0
  refine ⟨b, o, e, k1, k2, fun i u hu => k3 i u ?_, k4⟩
  rw [← lcs_take] at hu
  rw [List.getElem?_take] at hu
  split at hu
  · exact hu
  · simp at hu
/-- In place. -/
theorem Wn.room (h : Wn W base Bd (.slice A l.length c) l) (hc : l.length + 1 ≤ c) {b o : Nat} (hA : A = some ⟨b, o, none⟩) (M : Msg) : Wn (W.setCells b (o + l.length * 7) M.l) base Bd (.slice A (l.length + 1) c) (l ++ [M]) := by
  obtain ⟨A', c', e, h1, h2, h3, h4⟩ := h
  injection e with e1 e2 e3
  subst e1; subst e3
  refine ⟨A, c, by simp, by simpa using hc, h2, h3, fun h0 => ?_⟩
  obtain ⟨b', o', e, k1, k2, k3, k4⟩ := h4 h0
  rw [hA] at e
  injection e with e
  injection e with e1 e2 _
  subst e1; subst e2
  refine ⟨b, o, hA, k1, k2, fun j u hu => ?_, fun j hj => ⟨?_, by rw [World.frozen?_setCells]; exact (k4 j hj).2⟩⟩
  · have hll := lcs_len l
    rw [lcs_app] at hu
    by_cases hj : j < (lcs l).length
    · rw [List.getElem?_append_left hj] at hu
      rw [World.cell?_setCells_out b M.l (o + l.length * 7) W ⟨b, o + j, none⟩ (fun _ _ => by left; show o + j < o + l.length * 7; omega)]
      exact k3 j u hu
    · rw [List.getElem?_append_right (by omega)] at hu
      have hM : lcs [M] = M.l := by simp [lcs]
      rw [hM] at hu
      have hjl : j - (lcs l).length < 7 := (List.getElem?_eq_some_iff.1 hu).1
      have e : o + j = o + l.length * 7 + (j - (lcs l).length) := by omega
      rw [e, World.cell?_setCells_in b M.l (o + l.length * 7) W (fun i hi => by rw [Nat.add_assoc]; exact (k4 (l.length * 7 + i) (by rw [Msg.l_len] at hi; omega)).1) (j - (lcs l).length) (by rw [Msg.l_len]; exact hjl)]
      rw [← hu]
      exact (List.getElem?_eq_getElem _).symm
  · by_cases hj2 : l.length * 7 ≤ j ∧ j < l.length * 7 + 7
    · have e : o + j = o + l.length * 7 + (j - l.length * 7) := by omega
      rw [e, World.cell?_setCells_in b M.l (o + l.length * 7) W (fun i hi => by rw [Nat.add_assoc]; exact (k4 (l.length * 7 + i) (by rw [Msg.l_len] at hi; omega)).1) (j - l.length * 7) (by rw [Msg.l_len]; omega)]
      rfl
    · rw [World.cell?_setCells_out b M.l (o + l.length * 7) W ⟨b, o + j, none⟩ (fun _ _ => by rw [Msg.l_len]; show o + j < o + l.length * 7 ∨ o + l.length * 7 + 7 ≤ o + j; omega)]
      exact (k4 j hj).1
end
end Go.Proofs.Ytijpflljopckiaa
namespace Go.Proofs.Ytijpflljopckiaa
open Go.RowKit
set_option linter.unusedVariables false

theorem Wn.base {W : World} {base base' Bd : Nat} {v : Value} {l : List Msg} (h : Wn W base Bd v l) (hb : base' ≤ base) : Wn W base' Bd v l := by
  obtain ⟨A, c, e, h1, h2, h3, h4⟩ := h
  exact ⟨A, c, e, h1, h2, h3, fun h0 => by obtain ⟨b, o, e, k1, k2, k3⟩ := h4 h0; exact ⟨b, o, e, by omega, k2, k3⟩⟩
end Go.Proofs.Ytijpflljopckiaa
