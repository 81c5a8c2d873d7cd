/- What is proved here: the cells of a message among the arguments are a message's; a list of messages among the arguments opened to what lies in memory; a deadline and a list of deadlines among the arguments opened to what lies in memory, a deadline shut again. -/
import Derived.Test.YtdilgeabcacbdaaJ03
import Derived.Deep.Slices
import Derived.Deep.Fields
import Derived.ChangeArms
import Derived.Lib.SmallJoins
import Derived.ChangeSame
import Derived.Test.YtdilgeabcacbdaaJ40
import Derived.Test.YtdilgeabcacbdaaJ04
import Derived.Test.YtdilgeabcacbdaaJ20
namespace Go.Proofs.Ytdilgeabcacbdaa
open Go.Joins Go.ChangeShapes Go.WideShapes Go.RowKit Go.Deep
set_option linter.unusedVariables false

section
variable {H : Type} {enc : TypeId × Value → H} {w : World} {base : Nat} {spare : Nat → Bool} {held : Bool}
theorem cells7 {P : Program} {t : TypeId} {f0 f1 f2 f3 f4 f5 f6 : Field} {fuel : Nat} {cs : List Value} {x : DataW H × List MemPlace} (hs : P.underlying t = some (.struct #[f0, f1, f2, f3, f4, f5, f6])) (hone : oneCellFields P #[f0, f1, f2, f3, f4, f5, f6] = true)
    (hl : cs.length = 7) (h : DataW.trod enc P w base spare held fuel t cs = some x) :
    ∃ (v0 v1 v2 v3 v4 v5 v6 : Value) (y0 y1 y2 y3 y4 y5 y6 : DataW H × List MemPlace) (n : Nat), cs = [v0, v1, v2, v3, v4, v5, v6] ∧
      DataW.trod enc P w base spare held n f0.type [v0] = some y0 ∧ DataW.trod enc P w base spare held n f1.type [v1] = some y1 ∧ DataW.trod enc P w base spare held n f2.type [v2] = some y2 ∧ DataW.trod enc P w base spare held n f3.type [v3] = some y3 ∧ DataW.trod enc P w base spare held n f4.type [v4] = some y4 ∧ DataW.trod enc P w base spare held n f5.type [v5] = some y5 ∧ DataW.trod enc P w base spare held n f6.type [v6] = some y6 := by
  match cs, hl with
  | [c0, c1, c2, c3, c4, c5, c6], _ =>
    obtain ⟨xs, n, _, hx, _, hlen, hg⟩ := DataW.trod_struct hs h
    obtain ⟨o0, k0⟩ := hone_of hone 0 f0 rfl
    obtain ⟨o1, k1⟩ := hone_of hone 1 f1 rfl
    obtain ⟨o2, k2⟩ := hone_of hone 2 f2 rfl
    obtain ⟨o3, k3⟩ := hone_of hone 3 f3 rfl
    obtain ⟨o4, k4⟩ := hone_of hone 4 f4 rfl
    obtain ⟨o5, k5⟩ := hone_of hone 5 f5 rfl
    obtain ⟨o6, k6⟩ := hone_of hone 6 f6 rfl
    match xs, hlen with
    | [y0, y1, y2, y3, y4, y5, y6], _ =>
      exact ⟨c0, c1, c2, c3, c4, c5, c6, y0, y1, y2, y3, y4, y5, y6, n, rfl, by simpa [o0, k0] using hg 0 f0 rfl, by simpa [o1, k1] using hg 1 f1 rfl, by simpa [o2, k2] using hg 2 f2 rfl, by simpa [o3, k3] using hg 3 f3 rfl, by simpa [o4, k4] using hg 4 f4 rfl, by simpa [o5, k5] using hg 5 f5 rfl, by simpa [o6, k6] using hg 6 f6 rfl⟩
theorem msg_one {fuel : Nat} {cs : List Value} {x : DataW H × List MemPlace} (h : DataW.trod enc Try.prog w base spare held fuel 92 cs = some x) (hl : cs.length = 7) :
    ∃ M : Msg, cs = M.l := by
  obtain ⟨c0, c1, c2, c3, c4, c5, c6, y0, y1, y2, y3, y4, y5, y6, n, rfl, g0, g1, g2, g3, g4, g5, g6⟩ := cells7 Try.underlying92 (by kernel_rfl) hl h
  obtain ⟨a0, z0, _, _⟩ := DataW.trod_int Try.underlying3 g0
  obtain ⟨a1, z1, _, _⟩ := DataW.trod_int Try.underlying3 g1
  obtain ⟨a2, z2, _, _⟩ := DataW.trod_int Try.underlying3 g2
  obtain ⟨a3, z3, _, _⟩ := DataW.trod_int Try.underlying3 g3
  obtain ⟨a4, z4, _, _⟩ := DataW.trod_int Try.underlying3 g4
  obtain ⟨a5, z5, _, _⟩ := DataW.trod_int Try.underlying3 g5
  obtain ⟨a6, z6, _, _⟩ := DataW.trod_string Try.underlying9 g6
  simp at z0 z1 z2 z3 z4 z5 z6
  subst z0 z1 z2 z3 z4 z5 z6
  exact ⟨⟨a0, a1, a2, a3, a4, a5, a6⟩, rfl⟩
end
end Go.Proofs.Ytdilgeabcacbdaa
namespace Go.Proofs.Ytdilgeabcacbdaa
open Go.Joins Go.ChangeShapes Go.WideShapes Go.RowKit Go.Deep
set_option linter.unusedVariables false

section
variable {H : Type} {enc : TypeId × Value → H} {w : World} {base : Nat} {spare : Nat → Bool} {held : Bool}
theorem open_msgs {fuel : Nat} {cs : List Value} {x : DataW H × List MemPlace} (h : DataW.trod enc Try.prog w base spare held fuel 24 cs = some x) :
    ∃ (A : Option Addr) (n c : Nat) (l : List Msg), cs = [.slice A n c] ∧ Ls w w.heap.size (.slice A n c) l := by
  rcases open_slice Try.underlying24 h with ⟨rfl, _⟩ | ⟨a, len, cap, m, n, D, Pl, rfl, _, hl, hm, hmm, _, hi⟩
  · exact ⟨none, 0, 0, [], rfl, Ls.nil⟩
  · have hlm : len ≤ m := by rw [hmm]; split <;> omega
    rw [msg_cells] at hi
    have hM : ∀ i, i < len → ∃ M : Msg, ∀ j, j < 7 → w.cell? (a.add (i * 7 + j)) = M.l[j]? := fun i hil => by
      obtain ⟨cs', hc, ht⟩ := hi i (by omega)
      obtain ⟨_, hcl, hat⟩ := World.cells?_some hc
      obtain ⟨M, rfl⟩ := msg_one ht hcl
      refine ⟨M, fun j hj => ?_⟩
      have g := hat j hj
      rw [← Go.Deep.add_add]
      exact g
    by_cases h0 : len = 0
    · subst h0
      exact ⟨some a, 0, cap, [], rfl, some a, cap, rfl, hl, hm, Rd.nil _⟩
    · let f : Nat → Msg := fun i => if h : i < len then (hM i h).choose else zM
      have hfs : ∀ i, i < len → ∀ j, j < 7 → w.cell? (a.add (i * 7 + j)) = (f i).l[j]? := fun i hil j hj => by
        show _ = (if h : i < len then (hM i h).choose else zM).l[j]?
        rw [dif_pos hil]
        exact (hM i hil).choose_spec j hj
      obtain ⟨b, o, spot⟩ := a
      have c0 := hfs 0 (by omega) 0 (by omega)
      have c0' : w.cell? (Addr.add ⟨b, o, spot⟩ (0 * 7 + 0)) = some (.int .i64 (f 0).id) := c0
      have hspot : spot = none := by simpa [Addr.add] using World.cell?_spot c0'
      subst hspot
      have hb : b < w.heap.size := World.block_lt_of_cell? w ⟨b, o, none⟩ (by simpa [Addr.add] using c0')
      have hll : ((List.range len).map f).length = len := by simp
      refine ⟨some ⟨b, o, none⟩, len, cap, (List.range len).map f, rfl, some ⟨b, o, none⟩, cap, by rw [hll], by rw [hll]; exact hl, hm, by rw [lcs_len, hll], fun _ => ⟨b, o, rfl, hb, fun i u hu => ?_⟩⟩
      have hi7 : i < len * 7 := by have := (List.getElem?_eq_some_iff.1 hu).1; rw [lcs_len, hll] at this; exact this
      have e : i = i / 7 * 7 + i % 7 := by omega
      have hlt : i / 7 < len := by omega
      rw [e] at hu ⊢
      rw [lcs_at _ _ _ (by rw [hll]; exact hlt) (by omega)] at hu
      have g := hfs (i / 7) hlt (i % 7) (by omega)
      rw [add_mk] at g
      rw [g, ← hu]
      simp
end
end Go.Proofs.Ytdilgeabcacbdaa
namespace Go.Proofs.Ytdilgeabcacbdaa
open Go.Joins Go.ChangeShapes Go.WideShapes Go.RowKit Go.Deep
set_option linter.unusedVariables false

/-- The element as data. -/
def Du.d {H : Type} (x : Du) : DataW H := .agg [.lit (.int .i64 x.dl), .lit (.int .i64 x.id)]
/-- Its numbers are numbers of 64 bits. -/
def Du.wf (x : Du) : Prop := (Lit.int .i64 x.dl).wf = true ∧ (Lit.int .i64 x.id).wf = true
theorem due_cells : Try.prog.cellsOf 118 = 2 := by kernel_rfl

section
variable {H : Type} {enc : TypeId × Value → H} {w : World} {base : Nat} {spare : Nat → Bool} {held : Bool}
theorem cells2 {P : Program} {t : TypeId} {f0 f1 : Field} {fuel : Nat} {cs : List Value} {x : DataW H × List MemPlace} (hs : P.underlying t = some (.struct #[f0, f1])) (hone : oneCellFields P #[f0, f1] = true)
    (hl : cs.length = 2) (h : DataW.trod enc P w base spare held fuel t cs = some x) :
    ∃ (v0 v1 : Value) (y0 y1 : DataW H × List MemPlace) (n : Nat), cs = [v0, v1] ∧
      DataW.trod enc P w base spare held n f0.type [v0] = some y0 ∧ DataW.trod enc P w base spare held n f1.type [v1] = some y1 := by
  match cs, hl with
  | [c0, c1], _ =>
    obtain ⟨xs, n, _, hx, _, hlen, hg⟩ := DataW.trod_struct hs h
    obtain ⟨o0, k0⟩ := hone_of hone 0 f0 rfl
    obtain ⟨o1, k1⟩ := hone_of hone 1 f1 rfl
    match xs, hlen with
    | [y0, y1], _ =>
      exact ⟨c0, c1, y0, y1, n, rfl, by simpa [o0, k0] using hg 0 f0 rfl, by simpa [o1, k1] using hg 1 f1 rfl⟩
set_option maxRecDepth 20000 in
theorem due_one {fuel : Nat} {cs : List Value} {x : DataW H × List MemPlace} (h : DataW.trod enc Try.prog w base spare held fuel 118 cs = some x) (hl : cs.length = 2) :
    ∃ d : Du, cs = d.l := by
  obtain ⟨c0, c1, y0, y1, n, rfl, g0, g1⟩ := cells2 Try.underlying118 (by kernel_rfl) hl h
  obtain ⟨a0, z0, _, _⟩ := DataW.trod_int Try.underlying3 g0
  obtain ⟨a1, z1, _, _⟩ := DataW.trod_int Try.underlying3 g1
  simp at z0 z1
  subst z0 z1
  exact ⟨⟨a0, a1⟩, rfl⟩

set_option maxRecDepth 20000 in
theorem open_dues {fuel : Nat} {cs : List Value} {x : DataW H × List MemPlace} (h : DataW.trod enc Try.prog w base spare held fuel 28 cs = some x) :
    ∃ (A : Option Addr) (n c : Nat) (l : List Du), cs = [.slice A n c] ∧ Dl w w.heap.size (.slice A n c) l := by
  rcases open_slice Try.underlying28 h with ⟨rfl, _⟩ | ⟨a, len, cap, m, n, D, Pl, rfl, _, hl, hm, hmm, _, hi⟩
  · exact ⟨none, 0, 0, [], rfl, Dl.nil⟩
  · have hlm : len ≤ m := by rw [hmm]; split <;> omega
    rw [due_cells] at hi
    have hM : ∀ i, i < len → ∃ d : Du, ∀ j, j < 2 → w.cell? (a.add (i * 2 + j)) = d.l[j]? := fun i hil => by
      obtain ⟨cs', hc, ht⟩ := hi i (by omega)
      obtain ⟨_, hcl, hat⟩ := World.cells?_some hc
      obtain ⟨d, rfl⟩ := due_one ht hcl
      refine ⟨d, fun j hj => ?_⟩
      have g := hat j hj
      rw [← Go.Deep.add_add]
      exact g
    by_cases h0 : len = 0
    · subst h0
      exact ⟨some a, 0, cap, [], rfl, some a, cap, rfl, hl, hm, Rd.nil _⟩
    · let f : Nat → Du := fun i => if h : i < len then (hM i h).choose else zD
      have hfs : ∀ i, i < len → ∀ j, j < 2 → w.cell? (a.add (i * 2 + j)) = (f i).l[j]? := fun i hil j hj => by
        show _ = (if h : i < len then (hM i h).choose else zD).l[j]?
        rw [dif_pos hil]
        exact (hM i hil).choose_spec j hj
      obtain ⟨b, o, spot⟩ := a
      have c0 := hfs 0 (by omega) 0 (by omega)
      have c0' : w.cell? (Addr.add ⟨b, o, spot⟩ (0 * 2 + 0)) = some (.int .i64 (f 0).dl) := c0
      have hspot : spot = none := by simpa [Addr.add] using World.cell?_spot c0'
      subst hspot
      have hb : b < w.heap.size := World.block_lt_of_cell? w ⟨b, o, none⟩ (by simpa [Addr.add] using c0')
      have hll : ((List.range len).map f).length = len := by simp
      refine ⟨some ⟨b, o, none⟩, len, cap, (List.range len).map f, rfl, some ⟨b, o, none⟩, cap, by rw [hll], by rw [hll]; exact hl, hm, by rw [dcs_len, hll], fun _ => ⟨b, o, rfl, hb, fun i u hu => ?_⟩⟩
      have hi2 : i < len * 2 := by have := (List.getElem?_eq_some_iff.1 hu).1; rw [dcs_len, hll] at this; exact this
      have e : i = i / 2 * 2 + i % 2 := by omega
      have hlt : i / 2 < len := by omega
      rw [e] at hu ⊢
      rw [dcs_at _ _ _ (by rw [hll]; exact hlt) (by omega)] at hu
      have g := hfs (i / 2) hlt (i % 2) (by omega)
      rw [add_mk] at g
      rw [g, ← hu]
      simp
end
end Go.Proofs.Ytdilgeabcacbdaa
