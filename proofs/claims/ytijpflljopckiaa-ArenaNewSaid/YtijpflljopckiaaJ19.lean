/- What is proved here: shard.within, isSpan, has, size, capacity, aTime, aVisibility, anEpoch, aLimit, clone by contracts; Wnp; ring.ordered and ring.List return lists that may be appended to; shard.hasSameID and shard.messages by contracts; lease.leaseError, lease.dueOf, lease.listError by contracts. -/
import Derived.Test.YtijpflljopckiaaJ12
import Derived.Test.YtijpflljopckiaaJ06
import Derived.Test.YtijpflljopckiaaJ18
import Derived.Test.YtijpflljopckiaaJ10
import Derived.Test.YtijpflljopckiaaJ03
import Derived.ArgAppend
import Derived.BigFrame
import Derived.Test.YtijpflljopckiaaJ05
import Derived.Test.YtijpflljopckiaaRows
import Derived.Test.YtijpflljopckiaaJ02
import Derived.WalkKit
import Derived.Outline
import Derived.IntWalk
import Derived.Test.YtijpflljopckiaaJ09
namespace Go.Proofs.Ytijpflljopckiaa
open Go.RowKit
set_option linter.unusedVariables false

theorem sspan_any (lo hi : Int) (w : World) : Calls Try.prog 96 #[.int .i64 lo, .int .i64 hi] w fun e w' => e = .returned (.bool (spB lo hi)) ∧ w = w' := by
  by_cases h1 : 0 ≤ lo
  · by_cases h2 : lo ≤ hi
    · by_cases h3 : hi < 65536
      · have H := Lib.hid (spB_iff.2 ⟨h1, h2, h3⟩)
        go_enter Try.func96, Try.ntmps96
        go_wp2
        go_ret
        exact ⟨by rw [H.out]; rfl, rfl⟩
      · have H := Lib.hid (show spB lo hi = false from decide_eq_false (fun h => h3 h.2.2))
        go_enter Try.func96, Try.ntmps96
        go_wp2
        go_ret
        exact ⟨by rw [H.out]; rfl, rfl⟩
    · have H := Lib.hid (show spB lo hi = false from decide_eq_false (fun h => h2 h.2.1))
      go_enter Try.func96, Try.ntmps96
      go_wp2
      go_ret
      exact ⟨by rw [H.out]; rfl, rfl⟩
  · have H := Lib.hid (show spB lo hi = false from decide_eq_false (fun h => h1 h.1))
    go_enter Try.func96, Try.ntmps96
    go_wp2
    go_ret
    exact ⟨by rw [H.out]; rfl, rfl⟩
/-- Three numbers: a number and its range. -/
abbrev r3 (n lo hi : Int) : Value := .agg #[.int .i64 n, .int .i64 lo, .int .i64 hi]
end Go.Proofs.Ytijpflljopckiaa
/- Plain: a list of messages that is cut at both ends and appended to. -/
namespace Go.Proofs.Ytijpflljopckiaa
open Go.RowKit
set_option linter.unusedVariables false

/-- A list of messages from block 'base' on, below Bd: it may be appended to in place. -/
def Wn (W : World) (base Bd : Nat) (v : Value) (l : List Msg) : Prop := ∃ A c, v = .slice A l.length c ∧ l.length ≤ c ∧ c ≤ maxLen ∧ (A = none → c = 0) ∧
  (0 < c → ∃ b o, A = some ⟨b, o, none⟩ ∧ base ≤ b ∧ b < Bd ∧ (∀ j u, (lcs l)[j]? = some u → W.cell? ⟨b, o + j, none⟩ = some u) ∧ ∀ j, j < c * 7 → (W.cell? ⟨b, o + j, none⟩).isSome = true ∧ W.frozen? ⟨b, o + j, none⟩ = false)
section
variable {W W' : World} {base Bd Bd' : Nat} {v : Value} {l : List Msg} {A : Option Addr} {n c : Nat}
theorem Wn.nil : Wn W base Bd (.slice none 0 0) [] := ⟨none, 0, rfl, Nat.le_refl _, Nat.zero_le _, fun _ => rfl, fun h => absurd h (by omega)⟩
theorem Wn.more (h : Wn W base Bd v l) (hB : Bd ≤ Bd') : Wn W base Bd' v l := by
  obtain ⟨A, c, e, h1, h2, h3, h4⟩ := h
  exact ⟨A, c, e, h1, h2, h3, fun h0 => by obtain ⟨b, o, e, k1, k2, k3⟩ := h4 h0; exact ⟨b, o, e, k1, by omega, k3⟩⟩
theorem Wn.keep (h : Wn W base Bd v l) (hc : ∀ b o, base ≤ b → b < Bd → W'.cell? ⟨b, o, none⟩ = W.cell? ⟨b, o, none⟩ ∧ W'.frozen? ⟨b, o, none⟩ = W.frozen? ⟨b, o, none⟩) : Wn W' base Bd v l := by
  obtain ⟨A, c, e, h1, h2, h3, h4⟩ := h
  refine ⟨A, c, e, h1, h2, h3, fun h0 => ?_⟩
  obtain ⟨b, o, e, k1, k2, k3, k4⟩ := h4 h0
  exact ⟨b, o, e, k1, k2, fun j u hu => (hc b _ k1 k2).1.trans (k3 j u hu), fun j hj => ⟨by rw [(hc b (o + j) k1 k2).1]; exact (k4 j hj).1, (hc b (o + j) k1 k2).2.trans (k4 j hj).2⟩⟩
theorem Wn.below (h : Wn W base Bd v l) (hB : Bd ≤ W.heap.size) (hb : Below W.heap.size W W') : Wn W' base Bd v l :=
  h.keep fun b o _ h2 => ⟨hb.cell (p := ⟨b, o, none⟩) (by show b < _; omega), hb.frozen (p := ⟨b, o, none⟩) (by show b < _; omega)⟩
theorem Wn.grown (h : Wn W base Bd v l) (hB : Bd ≤ W.heap.size) {row : Option Nat} (hg : W.grownBy W' row) (hr : ∀ x, row = some x → x < base ∨ Bd ≤ x) : Wn W' base Bd v l :=
  h.keep fun b o h1 h2 => ⟨hg.cell_far ⟨b, o, none⟩ (by show b < _; omega) (fun e => by have := hr b e.symm; omega), hg.frozen_far ⟨b, o, none⟩ (by show b < _; omega) (fun e => by have := hr b e.symm; omega)⟩
theorem Wn.alloc (h : Wn W base Bd v l) (hB : Bd ≤ W.heap.size) (o : Obj) : Wn (W.alloc o) base Bd v l := h.below hB ((Below.refl _ _).alloc (Nat.le_refl _) o)
theorem Wn.drewN (h : Wn W base Bd v l) (k : Nat) : Wn (W.drewN k) base Bd v l := h
theorem Wn.set (h : Wn W base Bd v l) {p : Addr} (hp : p.block < base ∨ Bd ≤ p.block) (u : Value) : Wn (W.setCell p u) base Bd v l :=
  h.keep fun b o h1 h2 => ⟨World.cell?_setCell_other W p ⟨b, o, none⟩ u (fun e => by subst e; simp at hp; omega), by rw [World.frozen?_setCell]⟩
theorem Wn.ls (h : Wn W base Bd v l) : Ls W Bd v l := by
  obtain ⟨A, c, e, h1, h2, h3, h4⟩ := h
  refine ⟨A, c, e, h1, h2, by rw [lcs_len], fun h0 => ?_⟩
  obtain ⟨b, o, e, k1, k2, k3, _⟩ := h4 (by omega)
  exact ⟨b, o, e, k2, k3⟩
theorem Wn.form (h : Wn W base Bd v l) : ∃ A c, v = .slice A l.length c := by obtain ⟨A, c, e, _⟩ := h; exact ⟨A, c, e⟩
theorem Wn.own {base' : Nat} {e : TypeId} (h : W.ownsRow base' e 7 v l.length (lcs l)) (hb : base ≤ base') : Wn W base W.heap.size v l := by
  rcases h.2 with ⟨hv, h0⟩ | ⟨g, cap, cur, hv, hg, hh, hl, hm, hs, ht⟩
  · have hl : l = [] := List.length_eq_zero_iff.1 h0
    subst hl
    subst hv
    exact Wn.nil
  · subst hv
    refine ⟨_, cap, rfl, hl, hm, fun h => by simp at h, fun _ => ⟨g, 0, rfl, by omega, (Array.getElem?_eq_some_iff.1 hh).1, fun j u hu => by have := h.cells (g := g) rfl j u hu; rwa [add_mk] at this, fun j hj => ⟨?_, by rw [Nat.zero_add]; exact h.frozenAt j⟩⟩⟩
    rw [Nat.zero_add]
    have hj' : j < cur.size := by omega
    simp [World.cell?, hh, hj']
/-- It is cut at its end. -/
theorem Wn.upto (h : Wn W base Bd (.slice A n c) l) (j : Nat) (hj : j ≤ n) : Wn W base Bd (.slice A j c) (l.take j) := by
  obtain ⟨A', c', e, h1, h2, h3, h4⟩ := h
  injection e with e1 e2 e3
  subst e1; subst e3
  have hl : (l.take j).length = j := by rw [List.length_take]; omega
  refine ⟨A, c, by rw [hl], by omega, h2, h3, fun h0 => ?_⟩
  obtain ⟨b, o, e, k1, k2, k3, k4⟩ := h4 h0
  refine ⟨b, o, e, k1, k2, fun i u hu => k3 i u ?_, k4⟩
  rw [← lcs_take] at hu
  rw [List.getElem?_take] at hu
  split at hu
  · exact hu
  · simp at hu
/-- In place. -/
theorem Wn.room (h : Wn W base Bd (.slice A l.length c) l) (hc : l.length + 1 ≤ c) {b o : Nat} (hA : A = some ⟨b, o, none⟩) (M : Msg) : Wn (W.setCells b (o + l.length * 7) M.l) base Bd (.slice A (l.length + 1) c) (l ++ [M]) := by
  obtain ⟨A', c', e, h1, h2, h3, h4⟩ := h
  injection e with e1 e2 e3
  subst e1; subst e3
  refine ⟨A, c, by simp, by simpa using hc, h2, h3, fun h0 => ?_⟩
  obtain ⟨b', o', e, k1, k2, k3, k4⟩ := h4 h0
  rw [hA] at e
  injection e with e
  injection e with e1 e2 _
  subst e1; subst e2
  refine ⟨b, o, hA, k1, k2, fun j u hu => ?_, fun j hj => ⟨?_, by rw [World.frozen?_setCells]; exact (k4 j hj).2⟩⟩
  · have hll := lcs_len l
    rw [lcs_app] at hu
    by_cases hj : j < (lcs l).length
    · rw [List.getElem?_append_left hj] at hu
      rw [World.cell?_setCells_out b M.l (o + l.length * 7) W ⟨b, o + j, none⟩ (fun _ _ => by left; show o + j < o + l.length * 7; omega)]
      exact k3 j u hu
    · rw [List.getElem?_append_right (by omega)] at hu
      have hM : lcs [M] = M.l := by simp [lcs]
      rw [hM] at hu
      have hjl : j - (lcs l).length < 7 := (List.getElem?_eq_some_iff.1 hu).1
      have e : o + j = o + l.length * 7 + (j - (lcs l).length) := by omega
      rw [e, World.cell?_setCells_in b M.l (o + l.length * 7) W (fun i hi => by rw [Nat.add_assoc]; exact (k4 (l.length * 7 + i) (by rw [Msg.l_len] at hi; omega)).1) (j - (lcs l).length) (by rw [Msg.l_len]; exact hjl)]
      rw [← hu]
      exact (List.getElem?_eq_getElem _).symm
  · by_cases hj2 : l.length * 7 ≤ j ∧ j < l.length * 7 + 7
    · have e : o + j = o + l.length * 7 + (j - l.length * 7) := by omega
      rw [e, World.cell?_setCells_in b M.l (o + l.length * 7) W (fun i hi => by rw [Nat.add_assoc]; exact (k4 (l.length * 7 + i) (by rw [Msg.l_len] at hi; omega)).1) (j - l.length * 7) (by rw [Msg.l_len]; omega)]
      rfl
    · rw [World.cell?_setCells_out b M.l (o + l.length * 7) W ⟨b, o + j, none⟩ (fun _ _ => by rw [Msg.l_len]; show o + j < o + l.length * 7 ∨ o + l.length * 7 + 7 ≤ o + j; omega)]
      exact (k4 j hj).1
end
end Go.Proofs.Ytijpflljopckiaa
namespace Go.Proofs.Ytijpflljopckiaa
open Go.RowKit
set_option linter.unusedVariables false

theorem Wn.base {W : World} {base base' Bd : Nat} {v : Value} {l : List Msg} (h : Wn W base Bd v l) (hb : base' ≤ base) : Wn W base' Bd v l := by
  obtain ⟨A, c, e, h1, h2, h3, h4⟩ := h
  exact ⟨A, c, e, h1, h2, h3, fun h0 => by obtain ⟨b, o, e, k1, k2, k3⟩ := h4 h0; exact ⟨b, o, e, by omega, k2, k3⟩⟩
end Go.Proofs.Ytijpflljopckiaa
namespace Go.Proofs.Ytijpflljopckiaa
open Go.RowKit
set_option linter.unusedVariables false

/-- A box of a message, of whose ID something is asked. -/
def IdAt (q : Nat) (id : Int) (W : World) : Prop := q < W.heap.size ∧ W.cell? ⟨q, 0, none⟩ = some (.int .i64 id)
theorem IdAt.below {q : Nat} {id : Int} (W W' : World) (h : IdAt q id W) (hb : Below W.heap.size W W') : IdAt q id W' := ⟨Nat.lt_of_lt_of_le h.1 hb.size, (hb.cell (p := ⟨q, 0, none⟩) h.1).trans h.2⟩
end Go.Proofs.Ytijpflljopckiaa
namespace Go.Proofs.Ytijpflljopckiaa
open Go.RowKit
set_option linter.unusedVariables false

/-- A lease in a box, all its cells. -/
abbrev El8 (W : World) (q : Nat) (X : Le) : Prop := W.cell? ⟨q, 0, none⟩ = some (.int .i64 X.m.id) ∧ W.cell? ⟨q, 1, none⟩ = some (.int .i64 X.m.rt) ∧ W.cell? ⟨q, 2, none⟩ = some (.int .i64 X.m.ep) ∧ W.cell? ⟨q, 3, none⟩ = some (.int .i64 X.m.ct) ∧ W.cell? ⟨q, 4, none⟩ = some (.int .i64 X.m.gn) ∧ W.cell? ⟨q, 5, none⟩ = some (.int .i64 X.m.st) ∧ W.cell? ⟨q, 6, none⟩ = some (.string X.m.bd) ∧ W.cell? ⟨q, 7, none⟩ = some (.int .i64 X.dl) ∧ q < W.heap.size
theorem El8.start (w : World) (X : Le) (t : TypeId) : El8 (w.alloc (.cells #[.int .i64 X.m.id, .int .i64 X.m.rt, .int .i64 X.m.ep, .int .i64 X.m.ct, .int .i64 X.m.gn, .int .i64 X.m.st, .string X.m.bd, .int .i64 X.dl] t)) w.heap.size X :=
  ⟨by simp [go_sem], by simp [go_sem], by simp [go_sem], by simp [go_sem], by simp [go_sem], by simp [go_sem], by simp [go_sem], by simp [go_sem], by simp⟩
theorem El8.below {B : Nat} {W W' : World} {q : Nat} {X : Le} (h : El8 W q X) (hb : Below B W W') (hq : q < B) : El8 W' q X := by
  obtain ⟨h0, h1, h2, h3, h4, h5, h6, h7, hl⟩ := h
  exact ⟨(hb.cell (p := ⟨q, 0, none⟩) hq).trans h0, (hb.cell (p := ⟨q, 1, none⟩) hq).trans h1, (hb.cell (p := ⟨q, 2, none⟩) hq).trans h2, (hb.cell (p := ⟨q, 3, none⟩) hq).trans h3, (hb.cell (p := ⟨q, 4, none⟩) hq).trans h4, (hb.cell (p := ⟨q, 5, none⟩) hq).trans h5, (hb.cell (p := ⟨q, 6, none⟩) hq).trans h6, (hb.cell (p := ⟨q, 7, none⟩) hq).trans h7, Nat.lt_of_lt_of_le hl hb.size⟩
end Go.Proofs.Ytijpflljopckiaa
