/- What is proved here: a list of messages among the arguments opened to what lies in memory; a dead-letter store among the arguments opened to what lies in memory; (plain) the source of numbers that the statements' base reads from: what lies at its block, and how it is kept. -/
import Derived.Test.YtbeafcjbldnkhaaJ12
import Derived.Test.YtbeafcjbldnkhaaJ04
import Derived.Deep.Slices
import Derived.Deep.Fields
import Derived.Lib.SmallJoins
import Derived.ChangeSame
import Derived.Test.YtbeafcjbldnkhaaJ01
import Derived.Deep.AppendLies
import Derived.Maps.AppendAt
namespace Go.Proofs.Ytbeafcjbldnkhaa
open Go.Joins Go.ChangeShapes Go.WideShapes Go.RowKit Go.Deep
set_option linter.unusedVariables false

section
variable {H : Type} {enc : TypeId × Value → H} {w : World} {base : Nat} {spare : Nat → Bool} {held : Bool}
theorem open_msgs {fuel : Nat} {cs : List Value} {x : DataW H × List MemPlace} (h : DataW.trod enc Try.prog w base spare held fuel 22 cs = some x) :
    ∃ (A : Option Addr) (n c : Nat) (l : List Msg), cs = [.slice A n c] ∧ Ls w w.heap.size (.slice A n c) l := by
  rcases open_slice Try.underlying22 h with ⟨rfl, _⟩ | ⟨a, len, cap, m, n, D, Pl, rfl, _, hl, hm, hmm, _, hi⟩
  · exact ⟨none, 0, 0, [], rfl, Ls.nil⟩
  · have hlm : len ≤ m := by rw [hmm]; split <;> omega
    rw [msg_cells] at hi
    have hM : ∀ i, i < len → ∃ M : Msg, ∀ j, j < 7 → w.cell? (a.add (i * 7 + j)) = M.l[j]? := fun i hil => by
      obtain ⟨cs', hc, ht⟩ := hi i (by omega)
      obtain ⟨_, hcl, hat⟩ := World.cells?_some hc
      obtain ⟨M, rfl⟩ := msg_one ht hcl
      refine ⟨M, fun j hj => ?_⟩
      have g := hat j hj
      rw [← Go.Deep.add_add]
      exact g
    by_cases h0 : len = 0
    · subst h0
      exact ⟨some a, 0, cap, [], rfl, some a, cap, rfl, hl, hm, Rd.nil _⟩
    · let f : Nat → Msg := fun i => if h : i < len then (hM i h).choose else zM
      have hfs : ∀ i, i < len → ∀ j, j < 7 → w.cell? (a.add (i * 7 + j)) = (f i).l[j]? := fun i hil j hj => by
        show _ = (if h : i < len then (hM i h).choose else zM).l[j]?
        rw [dif_pos hil]
        exact (hM i hil).choose_spec j hj
      obtain ⟨b, o, spot⟩ := a
      have c0 := hfs 0 (by omega) 0 (by omega)
      have c0' : w.cell? (Addr.add ⟨b, o, spot⟩ (0 * 7 + 0)) = some (.int .i64 (f 0).id) := c0
      have hspot : spot = none := by simpa [Addr.add] using World.cell?_spot c0'
      subst hspot
      have hb : b < w.heap.size := World.block_lt_of_cell? w ⟨b, o, none⟩ (by simpa [Addr.add] using c0')
      have hll : ((List.range len).map f).length = len := by simp
      refine ⟨some ⟨b, o, none⟩, len, cap, (List.range len).map f, rfl, some ⟨b, o, none⟩, cap, by rw [hll], by rw [hll]; exact hl, hm, by rw [lcs_len, hll], fun _ => ⟨b, o, rfl, hb, fun i u hu => ?_⟩⟩
      have hi7 : i < len * 7 := by have := (List.getElem?_eq_some_iff.1 hu).1; rw [lcs_len, hll] at this; exact this
      have e : i = i / 7 * 7 + i % 7 := by omega
      have hlt : i / 7 < len := by omega
      rw [e] at hu ⊢
      rw [lcs_at _ _ _ (by rw [hll]; exact hlt) (by omega)] at hu
      have g := hfs (i / 7) hlt (i % 7) (by omega)
      rw [add_mk] at g
      rw [g, ← hu]
      simp
end
end Go.Proofs.Ytbeafcjbldnkhaa
namespace Go.Proofs.Ytbeafcjbldnkhaa
open Go.Joins Go.ChangeShapes Go.WideShapes Go.RowKit Go.Deep
set_option linter.unusedVariables false

section
variable {H : Type} {enc : TypeId × Value → H} {w : World} {base : Nat} {spare : Nat → Bool} {held : Bool}
theorem open_dead {r : Reach} {b0 : Nat} {v : Value} {d : DataW H} {p : List MemPlace} (hv : Value.okWide Try.prog w r b0 24 v) (h : DataW.Trod enc Try.prog w base spare held 24 v d p) :
    ∃ (cap : Int) (A : Option Addr) (n c : Nat) (l : List Msg), v = .agg #[.int .i64 cap, .slice A n c] ∧ (Lit.int .i64 cap).wf = true ∧ Ls w w.heap.size (.slice A n c) l := by
  obtain ⟨c0, c1, y0, y1, n, rfl, _, _, hy0, hy1⟩ := open_agg2 Try.underlying24 (by kernel_rfl) (by kernel_rfl) hv h
  obtain ⟨a, e0, _, hw⟩ := DataW.trod_int Try.underlying3 hy0
  obtain ⟨A, n', c', l, e1, hl⟩ := open_msgs hy1
  simp at e0 e1
  subst e0 e1
  exact ⟨a, A, n', c', l, rfl, hw, hl⟩
end
end Go.Proofs.Ytbeafcjbldnkhaa
namespace Go.Proofs.Ytbeafcjbldnkhaa
open Go.RowKit
set_option linter.unusedVariables false

/-- A number of 64 bits as a cell. -/
def i64v (z : Int) : Value := .int .i64 z

/-- Block g, from B on, is a source: a list that lies below B, and a position in it. -/
def SrcAt (W : World) (B g : Nat) : Prop := B ≤ g ∧ g < W.heap.size ∧ ∃ (A : Option Addr) (n c k : Nat) (zs : List Int),
  k ≤ n ∧ n ≤ 4000 ∧ n ≤ c ∧ c ≤ maxLen ∧ W.cell? ⟨g, 0, none⟩ = some (.slice A n c) ∧ W.cell? ⟨g, 1, none⟩ = some (.int .i64 k) ∧ W.frozen? ⟨g, 1, none⟩ = false ∧ Rd W B 1 A n (zs.map i64v) ∧ ∀ z ∈ zs, -9223372036854775808 ≤ z ∧ z ≤ 9223372036854775807

section
variable {W W' : World} {B g h : Nat}
theorem SrcAt.keep (s : SrcAt W B g) (hs : W.heap.size ≤ W'.heap.size) (h0 : ∀ o, W'.cell? ⟨g, o, none⟩ = W.cell? ⟨g, o, none⟩) (h1 : ∀ o, W'.frozen? ⟨g, o, none⟩ = W.frozen? ⟨g, o, none⟩) (hk : ∀ p : Addr, p.block < B → W'.cell? p = W.cell? p) : SrcAt W' B g := by
  obtain ⟨hB, hg, A, n, c, k, zs, a1, a2, a3, a4, a5, a6, a7, a8, a9⟩ := s
  exact ⟨hB, by omega, A, n, c, k, zs, a1, a2, a3, a4, (h0 0).trans a5, (h0 1).trans a6, (h1 1).trans a7, a8.keep hk, a9⟩
theorem SrcAt.grown (s : SrcAt W B g) (hg : W.grownBy W' (some h)) (hne : h ≠ g) (hB : B ≤ h) : SrcAt W' B g :=
  s.keep hg.size (fun o => hg.cell_far _ s.2.1 (fun e => hne (by injection e with e; exact e.symm))) (fun o => hg.frozen_far _ s.2.1 (fun e => hne (by injection e with e; exact e.symm)))
    (fun p hp => hg.cell_far p (by have := s.1; have := s.2.1; omega) (fun e => by injection e with e; omega))
theorem SrcAt.below (s : SrcAt W B g) (hb : Below W.heap.size W W') : SrcAt W' B g :=
  s.keep hb.size (fun o => hb.cell s.2.1) (fun o => hb.frozen s.2.1) (fun p hp => hb.cell (by have := s.1; have := s.2.1; omega))
theorem SrcAt.alloc (s : SrcAt W B g) (o : Obj) : SrcAt (W.alloc o) B g := s.below ((Below.refl _ _).alloc (Nat.le_refl _) o)
theorem SrcAt.drew (s : SrcAt W B g) : SrcAt W.drew B g := s
theorem SrcAt.drewN (s : SrcAt W B g) (n : Nat) : SrcAt (W.drewN n) B g := s
theorem SrcAt.other (s : SrcAt W B g) {p : Addr} (hp : p.block ≠ g) (hB : B ≤ p.block) (v : Value) : SrcAt (W.setCell p v) B g :=
  s.keep (by simp) (fun o => World.cell?_setCell_other W p _ v (fun e => hp (by rw [e]))) (fun o => by rw [World.frozen?_setCell]) (fun q hq => World.cell?_setCell_other W p q v (fun e => by rw [e] at hB; omega))

theorem SrcAt.next (s : SrcAt W B g) {A : Option Addr} {n c k : Nat} (h0 : W.cell? ⟨g, 0, none⟩ = some (.slice A n c)) (h1 : W.cell? ⟨g, 1, none⟩ = some (.int .i64 k)) (hk : k < n) : SrcAt (W.setCell ⟨g, 1, none⟩ (.int .i64 ((k : Int) + 1))) B g := by
  obtain ⟨hB, hg, A', n', c', k', zs, a1, a2, a3, a4, a5, a6, a7, a8, a9⟩ := s
  rw [h0] at a5
  injection a5 with a5
  injection a5 with e1 e2 e3
  subst e1; subst e2; subst e3
  refine ⟨hB, by simpa using hg, A, n, c, k + 1, zs, by omega, a2, a3, a4, (World.cell?_setCell_other W _ _ _ (fun e => by injection e; omega)).trans h0, ?_, by rw [World.frozen?_setCell]; exact a7, a8.setCell hB _, a9⟩
  simp [go_sem, h1]

theorem only_drewN {a w : World} {row : Option Nat} (h : a.grownBy w row) (n : Nat) : a.grownBy (w.drewN n) row := ⟨h.os, h.tape, h.output, h.size, h.block⟩
theorem only_drew {a w : World} {row : Option Nat} (h : a.grownBy w row) : a.grownBy w.drew row := ⟨h.os, h.tape, h.output, h.size, h.block⟩
theorem gdrew {w w' : World} {row : Option Nat} (h : w.drew.grownBy w' row) : w.grownBy w' row := ⟨h.os, h.tape, h.output, h.size, h.block⟩
theorem only_alloc {a w : World} {row : Option Nat} (h : a.grownBy w row) (o : Obj) : a.grownBy (w.alloc o) row :=
  ⟨h.os, h.tape, h.output, Nat.le_trans h.size (by simp), fun i hi hne => (Below.heap_alloc w o i (Nat.lt_of_lt_of_le hi h.size)).trans (h.block i hi hne)⟩
theorem only_set {a w : World} {g : Nat} (h : a.grownBy w (some g)) {p : Addr} (hp : p.block = g ∨ a.heap.size ≤ p.block) (u : Value) : a.grownBy (w.setCell p u) (some g) :=
  ⟨h.os, h.tape, h.output, by simpa [World.setCell] using h.size, fun i hi hne => (Below.heap_setCell w p u i (by
    rintro rfl
    rcases hp with hp | hp
    · exact hne (by rw [hp])
    · omega)).trans (h.block i hi hne)⟩
theorem only_below {a w w' : World} {g : Nat} (h : a.grownBy w (some g)) (hb : Below w.heap.size w w') : a.grownBy w' (some g) :=
  ⟨hb.os.trans h.os, hb.tape.trans h.tape, hb.output.trans h.output, Nat.le_trans h.size hb.size, fun i hi hne => (hb.block i (Nat.lt_of_lt_of_le hi h.size)).trans (h.block i hi hne)⟩
/-- A source lies behind B: what is below stays. -/
theorem below_only {B g : Nat} {a w w' : World} (h : Below B a w) (hg : w.grownBy w' (some g)) (hB : B ≤ g) (hz : B ≤ a.heap.size) : Below B a w' :=
  h.grown hg (Nat.le_trans hz h.size) (fun k hk => by injection hk with hk; omega)
end

/-- A call that reads a number of a source. -/
def SrInt (B g : Nat) (lo hi : Int) (w : World) (e : Ending) (w' : World) : Prop := ∃ x, e = .returned (.int .i64 x) ∧ lo ≤ x ∧ x ≤ hi ∧ SrcAt w' B g ∧ w.grownBy w' (some g)
end Go.Proofs.Ytbeafcjbldnkhaa
