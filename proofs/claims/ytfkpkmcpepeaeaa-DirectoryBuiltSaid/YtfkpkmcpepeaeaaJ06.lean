/- What is proved here: slices.Insert of one span by a contract; slices.Delete of one span by a contract; directory.split by a contract. -/
import Derived.Test.YtfkpkmcpepeaeaaJ05
import Derived.Laws.Slices
import Derived.Lib.Overlaps
import Derived.Laws.Externs
import Derived.Lib.AppendZerosOnto
import Derived.ArgAppend
import Derived.Deep.CutBlock
import Derived.Deep.DeepCutAuto
import Derived.KernelRfl
import Derived.Test.YtfkpkmcpepeaeaaJ03
namespace Go.Proofs.Ytfkpkmcpepeaeaa
open Go.RowKit
set_option linter.unusedVariables false

section
variable {A : Option Addr} {n c : Nat}
theorem sel_under : Try.prog.underlying 22 = some (.slice (Try.prog.elem 22)) := by kernel_rfl
theorem sel_elem : Try.prog.elem 22 = 43 := by kernel_rfl
theorem srun_eupto (A : Option Addr) (n c : Nat) (kh : IntKind) (j : Nat) (hj : j ≤ c) : ∀ W, (Instr.slice 22 (.slice A n c) none (some (.int kh (j : Int))) none).run Try.prog W = .ok (.slice A j c) W := fun W => by
  rw [run_slice_h W _ _ _ _ sel_under kh _ (by omega) (by omega), sel_elem, Try.sizeOf43]
  cases A <;> simp [Result.andThen, sliced, Addr.add]
theorem srun_ecut (A : Option Addr) (n c : Nat) (kl : IntKind) (k : Nat) (hk : k ≤ n) : ∃ A', A' = (if c = k then A else A.map (·.add (k * 3))) ∧ ∀ W, (Instr.slice 22 (.slice A n c) (some (.int kl (k : Int))) none none).run Try.prog W = .ok (.slice A' (n - k) (c - k)) W := by
  refine ⟨_, rfl, fun W => ?_⟩
  rw [run_slice_l W _ _ _ _ sel_under kl _ (by omega) (by omega), sel_elem, Try.sizeOf43]
  simp [Result.andThen, sliced]
end
/-- Nothing is asked. -/
abbrev TruS (_ : World) : Prop := True
/-- A list with one span more, that the call owns from a block on. -/
def InS (base : Nat) (own : Option Nat) (l : List Sp) (i : Nat) (X : Sp) (w : World) (e : Ending) (w' : World) : Prop := ∃ A c, e = .returned (.slice A (l.length + 1) c) ∧ w'.ownsRow base 43 3 (.slice A (l.length + 1) c) (l.length + 1) (scs (l.take i ++ X :: l.drop i)) ∧ w.grownBy w' own ∧ ∀ k, (Value.slice A (l.length + 1) c).ownBlock = some k → own = some k ∨ w.heap.size ≤ k
theorem span_size : (Try.prog.info? 43).map (·.size) = some 3 := by kernel_rfl
theorem scs_one1x (X : Sp) : scs [X] = X.l := by simp [scs]
theorem scs_mid (l : List Sp) (i : Nat) (X : Sp) : scs (l.take i ++ X :: l.drop i) = scs (l.take i) ++ (X.l ++ scs (l.drop i)) := by rw [scs_app, scs_cons]
theorem scs_split (l : List Sp) (i : Nat) : scs l = scs (l.take i) ++ scs (l.drop i) := by rw [← scs_app, List.take_append_drop]
theorem scs_take_len {l : List Sp} {i : Nat} (hi : i ≤ l.length) : (scs (l.take i)).length = i * 3 := by rw [scs_len, List.length_take, Nat.min_eq_left hi]
theorem scs_drop_len (l : List Sp) (i : Nat) : (scs (l.drop i)).length = (l.length - i) * 3 := by rw [scs_len, List.length_drop]

set_option maxHeartbeats 4000000 in
set_option maxRecDepth 20000 in
/-- At the end. -/
theorem sinsert_end (base vb : Nat) (v : Value) (l : List Sp) (X : Sp) (w : World) (hl : l.length ≤ 100) (ho : w.ownsRow base 43 3 v l.length (scs l)) (hb : base ≤ w.heap.size) (hx : Rw w vb 43 X.l) (hne : v.ownBlock ≠ some vb) :
    Calls Try.prog 63 #[v, .int .i64 (l.length : Int), .slice (some ⟨vb, 0, none⟩) 1 1] w (InS base v.ownBlock l l.length X w) := by
  obtain ⟨A, c, rfl⟩ := own_form ho
  have hnc : l.length ≤ c := (Pl.of_own ho).len.2.1
  obtain ⟨i0, hi0, hz0⟩ := Option.map_eq_some_iff.1 info_sp
  simp only [Prod.mk.injEq] at hz0
  have HI := Lib.hid hi0
  have HZ := Lib.hid hz0
  have HO := Lib.hid ho
  have HB := Lib.hid hb
  have HRX := Lib.hid (show Rd w w.heap.size 3 (some ⟨vb, 0, none⟩) 1 X.l from ⟨rfl, fun _ => ⟨vb, 0, rfl, hx.lt, fun j u hu => by rw [Nat.zero_add]; exact hx.cell hu⟩⟩)
  have HE := Lib.hid (show scs (l.take l.length ++ X :: l.drop l.length) = scs l ++ X.l by rw [List.take_length, List.drop_length, scs_app, scs_one1x])
  obtain ⟨A', hA', hcut⟩ := srun_ecut A l.length c .i64 l.length (Nat.le_refl _)
  rw [Nat.sub_self] at hcut
  clear hA'
  have hLX : X.l.length = 3 := rfl
  clear ho hb hx hne hi0 hz0
  go_enter Try.func63, Try.ntmps63
  go_wp2_with (at_builtin; refine wpList_append_rd _ rfl (.tmp 23) (.tmp 24) 22 rfl base 43 i0 _ 3 24 Try.underlying22 HI.out HZ.out.1 HZ.out.2.1 HZ.out.2.2 rfl (by omega) (.slice A l.length c) l.length (scs l) rfl HO.out w.heap.size (some ⟨vb, 0, none⟩) 1 1 X.l rfl HRX.out X.l_one (by unfold maxLen; omega) (by omega) HB.out ?_; intro v1 w1 hown1 hg1 hat1)
  obtain ⟨A1, c1, rfl⟩ := own_form hown1
  have HF := Lib.hid (show InS base (Value.slice A l.length c).ownBlock l l.length X w (.returned (.slice A1 (l.length + 1) c1)) w1 from ⟨A1, c1, rfl, by rw [HE.out]; exact hown1, hg1, fun k hk => by
    rcases hat1 with h | h
    · exact .inl (by rw [← h]; exact hk)
    · rw [h] at hk; injection hk with hk; exact .inr (by omega)⟩)
  clear hown1 hg1 hat1
  go_wp2
  go_ret
  exact HF.out

set_option maxHeartbeats 4000000 in
set_option maxRecDepth 20000 in
/-- In a new row. -/
theorem sinsert_grow (base vb : Nat) (l : List Sp) (i : Nat) (X : Sp) (w : World) (hi : i < l.length) (hl : l.length ≤ 100) (g cap : Nat) (cur : List Value) (hbg : base ≤ g) (hg : Rw w g 43 cur) (hlc : l.length ≤ cap) (hm : cap ≤ maxLen) (hcs : cur.length = cap * 3) (hct : cur.take (l.length * 3) = scs l) (hb : base ≤ w.heap.size) (hx : Rw w vb 43 X.l) (hne : g ≠ vb) (hroom : cap < l.length + 1) :
    Calls Try.prog 63 #[.slice (some ⟨g, 0, none⟩) l.length cap, .int .i64 (i : Int), .slice (some ⟨vb, 0, none⟩) 1 1] w (InS base (some g) l i X w) := by
  obtain ⟨i0, hi0, hz0⟩ := Option.map_eq_some_iff.1 info_sp
  simp only [Prod.mk.injEq] at hz0
  obtain ⟨hz1, hz2, hz3⟩ := hz0
  have hread : ∀ j u, (scs l)[j]? = some u → w.cell? ⟨g, j, none⟩ = some u := fun j u hu => hg.cell (by
    rw [← hct, List.getElem?_take] at hu
    split at hu
    · exact hu
    · cases hu)
  have hold : (Builtin.firstCells i0.size i (.slice (some ⟨g, 0, none⟩) i cap)).run Try.prog w.drew = .ok (scs (l.take i)).toArray w.drew := by
    rw [hz2]
    exact run_firstCells_some w.drew 3 i ⟨g, 0, none⟩ i cap (scs (l.take i)) (by rw [scs_take_len (by omega)]) (fun j u hu => by
      rw [add_mk, Nat.zero_add]
      refine hread j u ?_
      rw [scs_split l i, List.getElem?_append_left (List.getElem?_eq_some_iff.1 hu).1]
      exact hu)
  have hsub : IntKind.i64.wrap ((l.length : Int) + 1 - (i : Int)) = (l.length : Int) + 1 - (i : Int) := IntWalk.i64_in _ (by omega)
  have hrz : ∀ ty, (Builtin.append_ #[22, 3] ty #[.slice (some ⟨g, 0, none⟩) i cap, .int .i64 ((l.length : Int) + 1 - (i : Int))]).run Try.prog w =
      .ok (.slice (some ⟨w.heap.size, 0, none⟩) (l.length + 1) (grownCap w (l.length + 1) cap 43)) (w.drew.alloc (.cells ((scs (l.take i)).toArray ++ Builtin.zeroCells (Sp.v zSp).cells (l.length + 1 - i) ++ Builtin.zeroCells (Sp.v zSp).cells (grownCap w (l.length + 1) cap 43 - (l.length + 1))) 43)) := fun ty => by
    have h := Lib.run_append_grow_zeros (P := Try.prog) w 22 3 ty 43 i0 (Sp.v zSp) .i64 .i64 Try.underlying22 Try.underlying3 hi0 hz1 (some ⟨g, 0, none⟩) i cap (scs (l.take i)) hold (l.length + 1 - i) (by omega) (by omega) (by omega) (by omega) (by rw [hz3]; omega) (by rw [hz3, show i + (l.length + 1 - i) = l.length + 1 by omega]; exact growslice_fits hroom (by omega))
    rw [show i + (l.length + 1 - i) = l.length + 1 by omega, show ((l.length + 1 - i : Nat) : Int) = (l.length : Int) + 1 - (i : Int) by omega] at h
    exact h
  have hGn : l.length + 1 ≤ grownCap w (l.length + 1) cap 43 := grownCap_ge w _ _ _
  have hGm : grownCap w (l.length + 1) cap 43 ≤ maxLen := grownCap_le_maxLen w (l.length + 1) cap 43 (by unfold maxLen; omega)
  obtain ⟨G, hG⟩ : ∃ G, G = grownCap w (l.length + 1) cap 43 := ⟨_, rfl⟩
  rw [← hG] at hrz hGn hGm
  obtain ⟨ROW, hROW⟩ : ∃ ROW : List Value, ROW = ((scs (l.take i)).toArray ++ Builtin.zeroCells (Sp.v zSp).cells (l.length + 1 - i) ++ Builtin.zeroCells (Sp.v zSp).cells (G - (l.length + 1))).toList := ⟨_, rfl⟩
  have hRL : ROW.length = G * 3 := by
    have e8 : (Sp.v zSp).cells.size = 3 := rfl
    rw [hROW]
    simp [Builtin.zeroCells, scs_len]
    rw [e8] at *
    omega
  have hRT : ROW.take (i * 3) = scs (l.take i) := by
    rw [hROW]
    simp only [Array.toList_append, List.append_assoc]
    rw [List.take_append_of_le_length (Nat.le_of_eq (scs_take_len (by omega)).symm), List.take_of_length_le (Nat.le_of_eq (scs_take_len (by omega)))]
  obtain ⟨W1, hW1⟩ : ∃ W1, W1 = w.drew.alloc (.cells ROW.toArray 43) := ⟨_, rfl⟩
  rw [show (scs (l.take i)).toArray ++ Builtin.zeroCells (Sp.v zSp).cells (l.length + 1 - i) ++ Builtin.zeroCells (Sp.v zSp).cells (G - (l.length + 1)) = ROW.toArray by rw [hROW], ← hW1] at hrz
  have HR1 := Lib.hid (show Rw W1 w.heap.size 43 ROW by rw [hW1]; simpa using Rw.fresh w.drew ROW.toArray 43)
  have HB1 := Lib.hid (show Below w.heap.size w W1 by rw [hW1]; exact (Below.refl _ _).drew.alloc (Nat.le_refl _) _)
  obtain ⟨N, hN⟩ : ∃ N, N = w.heap.size := ⟨_, rfl⟩
  rw [← hN] at HR1 HB1 hrz
  have HNN := Lib.hid hN
  have HN := Lib.hid (show base ≤ N ∧ g < N ∧ vb < N by have := hg.lt; have := hx.lt; omega)
  have hk := srun_eupto (some ⟨g, 0, none⟩) l.length cap .i64 i (by omega)
  have hc1 : ∀ W, (Instr.slice 22 (.slice (some ⟨g, 0, none⟩) l.length cap) (some (.int .i64 (i : Int))) none none).run Try.prog W = .ok (.slice (some ⟨g, i * 3, none⟩) (l.length - i) (cap - i)) W := fun W => by
    obtain ⟨A', hA', h⟩ := srun_ecut (some ⟨g, 0, none⟩) l.length cap .i64 i (by omega)
    rw [hA', if_neg (by omega), Option.map_some, add_mk, Nat.zero_add] at h
    exact h W
  have hc2 : ∀ W, (Instr.slice 22 (.slice (some ⟨N, 0, none⟩) (l.length + 1) G) (some (.int .i64 (i : Int))) none none).run Try.prog W = .ok (.slice (some ⟨N, i * 3, none⟩) (l.length + 1 - i) (G - i)) W := fun W => by
    obtain ⟨A', hA', h⟩ := srun_ecut (some ⟨N, 0, none⟩) (l.length + 1) G .i64 i (by omega)
    rw [hA', if_neg (by omega), Option.map_some, add_mk, Nat.zero_add] at h
    exact h W
  have hc3 : ∀ W, (Instr.slice 22 (.slice (some ⟨N, 0, none⟩) (l.length + 1) G) (some (.int .i64 ((i : Int) + 1))) none none).run Try.prog W = .ok (.slice (some ⟨N, (i + 1) * 3, none⟩) (l.length + 1 - (i + 1)) (G - (i + 1))) W := fun W => by
    obtain ⟨A', hA', h⟩ := srun_ecut (some ⟨N, 0, none⟩) (l.length + 1) G .i64 (i + 1) (by omega)
    rw [hA', if_neg (by omega), Option.map_some, add_mk, Nat.zero_add, show ((i + 1 : Nat) : Int) = (i : Int) + 1 by omega] at h
    exact h W
  have hgr : (cap : Int) < (l.length : Int) + 1 := by omega
  have hne1 : ((i : Int) == (l.length : Int)) = false := by simp; omega
  have hw1 : IntKind.i64.wrap ((l.length : Int) + 1) = (l.length : Int) + 1 := IntWalk.i64_in _ (by omega)
  have hw2 : IntKind.i64.wrap ((i : Int) + 1) = (i : Int) + 1 := IntWalk.i64_in _ (by omega)
  have HX := Lib.hid hx
  have HG := Lib.hid (fun j u (hu : (scs (l.drop i))[j]? = some u) => show w.cell? ⟨g, i * 3 + j, none⟩ = some u from hread _ u (by rw [scs_split l i, List.getElem?_append_right (by rw [scs_take_len (by omega)]; omega), scs_take_len (by omega), Nat.add_sub_cancel_left]; exact hu))
  have HLN := Lib.hid (show (scs (l.take i)).length = i * 3 ∧ (scs (l.drop i)).length = (l.length - i) * 3 ∧ X.l.length = 3 from ⟨scs_take_len (by omega), scs_drop_len l i, rfl⟩)
  have HRR := Lib.hid (And.intro hRL (And.intro hRT (And.intro hGn hGm)))
  have hiL : (i : Int) < (l.length : Int) := by omega
  have hil : i < l.length := hi
  have em1 : Nat.min 1 (l.length + 1 - i) = 1 := Nat.min_eq_left (by omega)
  have em2 : Nat.min (l.length - i) (l.length + 1 - (i + 1)) = l.length - i := by rw [show l.length + 1 - (i + 1) = l.length - i by omega]; exact Nat.min_self _
  have hcp1 : ∀ ty, (Builtin.copy_ #[22, 22] ty #[.slice (some ⟨N, i * 3, none⟩) (l.length + 1 - i) (G - i), .slice (some ⟨vb, 0, none⟩) 1 1]).run Try.prog W1 = .ok (goInt (Nat.min 1 (l.length + 1 - i))) (W1.setRow N (splice ROW (i * 3) X.l).toArray) := fun ty =>
    run_copy_sized W1 22 22 ty 43 3 N (i * 3) (l.length + 1 - i) (G - i) ⟨vb, 0, none⟩ 1 1 ROW 43 X.l Try.underlying22 span_size HR1.out (by rw [HLN.out.2.2, em1]) (fun j u hu => by rw [add_mk, Nat.zero_add]; exact (HB1.out.cell (p := ⟨vb, j, none⟩) HN.out.2.2).trans (HX.out.cell hu)) (by rw [HRR.out.1, HLN.out.2.2]; omega) X.l_one
  have HR2 := Lib.hid (Rw.set HR1.out (i * 3) X.l)
  have HG2 := Lib.hid (grown_setRow W1 N (splice ROW (i * 3) X.l).toArray)
  rw [em1] at hcp1
  generalize W1.setRow N (splice ROW (i * 3) X.l).toArray = W2 at *
  have HSP := Lib.hid (splice_len ROW (i * 3) X.l (by rw [HRR.out.1, HLN.out.2.2]; omega))
  have hcp2 : ∀ ty, (Builtin.copy_ #[22, 22] ty #[.slice (some ⟨N, (i + 1) * 3, none⟩) (l.length + 1 - (i + 1)) (G - (i + 1)), .slice (some ⟨g, i * 3, none⟩) (l.length - i) (cap - i)]).run Try.prog W2.drew = .ok (goInt (Nat.min (l.length - i) (l.length + 1 - (i + 1)))) (W2.drew.setRow N (splice (splice ROW (i * 3) X.l) ((i + 1) * 3) (scs (l.drop i))).toArray) := fun ty =>
    run_copy_sized W2.drew 22 22 ty 43 3 N ((i + 1) * 3) (l.length + 1 - (i + 1)) (G - (i + 1)) ⟨g, i * 3, none⟩ (l.length - i) (cap - i) (splice ROW (i * 3) X.l) 43 (scs (l.drop i)) Try.underlying22 span_size HR2.out (by rw [HLN.out.2.1, em2]) (fun j u hu => by rw [add_mk]; exact ((HG2.out.cell_far ⟨g, i * 3 + j, none⟩ (by have := HB1.out.size; have := HN.out; show g < _; omega) (by have := HN.out; intro e; injection e with e; simp at e; omega)).trans (HB1.out.cell (p := ⟨g, i * 3 + j, none⟩) HN.out.2.1)).trans (HG.out j u hu)) (by rw [HSP.out, HRR.out.1, HLN.out.2.1]; omega) (scs_one _)
  have HR3 := Lib.hid (Rw.set (show Rw W2.drew N 43 _ from HR2.out) ((i + 1) * 3) (scs (l.drop i)))
  have HG3 := Lib.hid (grown_setRow W2.drew N (splice (splice ROW (i * 3) X.l) ((i + 1) * 3) (scs (l.drop i))).toArray)
  generalize W2.drew.setRow N (splice (splice ROW (i * 3) X.l) ((i + 1) * 3) (scs (l.drop i))).toArray = W3 at *
  rw [em2, show l.length + 1 - (i + 1) = l.length - i by omega] at hcp2
  rw [show l.length + 1 - (i + 1) = l.length - i by omega] at hc3
  clear em1 em2
  have HF := Lib.hid (show InS base (some g) l i X w (.returned (.slice (some ⟨N, 0, none⟩) (l.length + 1) G)) W3 from by
    refine ⟨_, _, rfl, Rw.own HR3.out HN.out.1 HRR.out.2.2.1 HRR.out.2.2.2 ?_ ?_, ?_⟩
    · rw [splice_len _ _ _ (by rw [HSP.out, HRR.out.1, HLN.out.2.1]; omega), HSP.out, HRR.out.1]
    · rw [scs_mid]
      have := splice_two (A := scs (l.take i)) (M := X.l) (B := scs (l.drop i)) (cur := ROW) (by rw [HLN.out.1]; exact HRR.out.2.1) (by rw [HLN.out.1, HLN.out.2.1, HLN.out.2.2, HRR.out.1]; omega)
      rw [HLN.out.1, HLN.out.2.1, HLN.out.2.2, show i * 3 + 3 = (i + 1) * 3 by omega, show (i + 1) * 3 + (l.length - i) * 3 = (l.length + 1) * 3 by omega] at this
      exact this
    · have hb3 : Below N w W3 := ((HB1.out.grown HG2.out (by have := HB1.out.size; have := HN.out; omega) (fun k e => by injection e with e; subst e; exact Nat.le_refl _)).drew).grown HG3.out (by have := HB1.out.size; have := HG2.out.size; have := HN.out; show N ≤ W2.heap.size; omega) (fun k e => by injection e with e; subst e; exact Nat.le_refl _)
      refine ⟨only_below (World.grownBy.refl w (some g)) (by rw [HNN.out] at hb3; exact hb3), fun k hk => ?_⟩
      injection hk with hk
      exact .inr (by have := HNN.out; simp at hk; omega))
  clear hg hx hct hcs hm hi0 hz1 hz2 hz3 hread hold hG hROW hW1 hRL hRT hi hN
  go_enter Try.func63, Try.ntmps63
  go_wp2_with (at_builtin; refine Lib.wpList_append_run _ rfl _ _ _ _ rfl _ _ rfl rfl _ _ (hrz _) ?_)
  go_region_held3 (fun W => TruS W) (exact trivial) (first | (fail))
  go_wp2
  go_ret
  exact HF.out

set_option maxHeartbeats 4000000 in
set_option maxRecDepth 20000 in
/-- In place. -/
theorem sinsert_shift (base vb : Nat) (l : List Sp) (i : Nat) (X : Sp) (w : World) (hi : i < l.length) (hl : l.length ≤ 100) (g cap : Nat) (cur : List Value) (hbg : base ≤ g) (hg : Rw w g 43 cur) (hm : cap ≤ maxLen) (hcs : cur.length = cap * 3) (hct : cur.take (l.length * 3) = scs l) (hb : base ≤ w.heap.size) (hx : Rw w vb 43 X.l) (hne : g ≠ vb) (hroom : l.length + 1 ≤ cap) :
    Calls Try.prog 63 #[.slice (some ⟨g, 0, none⟩) l.length cap, .int .i64 (i : Int), .slice (some ⟨vb, 0, none⟩) 1 1] w (InS base (some g) l i X w) := by
  have hcap : cap ≤ 9223372036854775807 := by unfold maxLen at hm; omega
  have hread : ∀ j u, (scs l)[j]? = some u → w.cell? ⟨g, j, none⟩ = some u := fun j u hu => hg.cell (by
    rw [← hct, List.getElem?_take] at hu
    split at hu
    · exact hu
    · cases hu)
  have HLN := Lib.hid (show (scs (l.take i)).length = i * 3 ∧ (scs (l.drop i)).length = (l.length - i) * 3 ∧ X.l.length = 3 from ⟨scs_take_len (by omega), scs_drop_len l i, rfl⟩)
  have hG : ∀ j u, (scs (l.drop i))[j]? = some u → w.cell? ⟨g, i * 3 + j, none⟩ = some u := fun j u hu => hread _ u (by rw [scs_split l i, List.getElem?_append_right (by rw [scs_take_len (by omega)]; omega), scs_take_len (by omega), Nat.add_sub_cancel_left]; exact hu)
  have em1 : Nat.min (l.length + 1 - i) (l.length - i) = l.length - i := Nat.min_eq_right (by omega)
  have em2 : Nat.min 1 (l.length + 1 - i) = 1 := Nat.min_eq_left (by omega)
  have hcp1 : ∀ ty, (Builtin.copy_ #[22, 22] ty #[.slice (some ⟨g, (i + 1) * 3, none⟩) (l.length - i) (cap - (i + 1)), .slice (some ⟨g, i * 3, none⟩) (l.length + 1 - i) (cap - i)]).run Try.prog w.drew = .ok (goInt (Nat.min (l.length + 1 - i) (l.length - i))) (w.drew.setRow g (splice cur ((i + 1) * 3) (scs (l.drop i))).toArray) := fun ty =>
    run_copy_sized w.drew 22 22 ty 43 3 g ((i + 1) * 3) (l.length - i) (cap - (i + 1)) ⟨g, i * 3, none⟩ (l.length + 1 - i) (cap - i) cur 43 (scs (l.drop i)) Try.underlying22 span_size hg (by rw [HLN.out.2.1, em1]) (fun j u hu => by rw [add_mk]; exact hG j u hu) (by rw [hcs, HLN.out.2.1]; omega) (scs_one _)
  rw [em1] at hcp1
  have HR1 := Lib.hid (Rw.set (show Rw w.drew g 43 cur from hg) ((i + 1) * 3) (scs (l.drop i)))
  have HG1 := Lib.hid (grown_setRow w.drew g (splice cur ((i + 1) * 3) (scs (l.drop i))).toArray)
  generalize w.drew.setRow g (splice cur ((i + 1) * 3) (scs (l.drop i))).toArray = W1 at *
  have HSP := Lib.hid (splice_len cur ((i + 1) * 3) (scs (l.drop i)) (by rw [hcs, HLN.out.2.1]; omega))
  have HX1 := Lib.hid (show Rw W1 vb 43 X.l from Rw.grown (show Rw w.drew vb 43 X.l from hx) HG1.out (fun e => hne (by injection e with e; exact e.symm)))
  have hcp2 : ∀ ty, (Builtin.copy_ #[22, 22] ty #[.slice (some ⟨g, i * 3, none⟩) (l.length + 1 - i) (cap - i), .slice (some ⟨vb, 0, none⟩) 1 1]).run Try.prog W1 = .ok (goInt (Nat.min 1 (l.length + 1 - i))) (W1.setRow g (splice (splice cur ((i + 1) * 3) (scs (l.drop i))) (i * 3) X.l).toArray) := fun ty =>
    run_copy_sized W1 22 22 ty 43 3 g (i * 3) (l.length + 1 - i) (cap - i) ⟨vb, 0, none⟩ 1 1 _ 43 X.l Try.underlying22 span_size HR1.out (by rw [HLN.out.2.2, em2]) (fun j u hu => by rw [add_mk, Nat.zero_add]; exact HX1.out.cell hu) (by rw [HSP.out, hcs, HLN.out.2.2]; omega) X.l_one
  rw [em2] at hcp2
  have HR2 := Lib.hid (Rw.set HR1.out (i * 3) X.l)
  have HG2 := Lib.hid (grown_setRow W1 g (splice (splice cur ((i + 1) * 3) (scs (l.drop i))) (i * 3) X.l).toArray)
  generalize W1.setRow g (splice (splice cur ((i + 1) * 3) (scs (l.drop i))) (i * 3) X.l).toArray = W2 at *
  clear em1 em2
  have hsz8 : ∀ W, (sizeOf 43).run Try.prog W = .ok 3 W := fun W => by rw [Try.sizeOf43]
  have hov : ∀ lb cb, (callFunc 80 #[.slice (some ⟨vb, 0, none⟩) 1 1, .slice (some ⟨g, (i + 1) * 3, none⟩) lb cb]).run Try.prog w = .ok (.value (.bool false)) w := fun lb cb => by
    rw [run_callFunc_extern Try.func80 (by kernel_rfl) (by kernel_rfl) (by kernel_rfl) (e := Extern.SlicesOverlaps.overlaps #[22, 22] #[4]) (by kernel_rfl),
      Lib.run_overlaps_apart w 22 4 43 Try.underlying22 3 hsz8 ⟨vb, 0, none⟩ ⟨g, (i + 1) * 3, none⟩ 1 1 lb cb (fun e => hne e.symm) 43 43 3 cur.length hx.shape hg.shape (by rw [hcs]; omega) (hx.free _) (hx.free _)]
    rfl
  have HF := Lib.hid (show InS base (some g) l i X w (.returned (.slice (some ⟨g, 0, none⟩) (l.length + 1) cap)) W2 from by
    have hcur : cur = scs (l.take i) ++ (scs (l.drop i) ++ cur.drop (l.length * 3)) := by
      rw [← List.append_assoc, ← scs_split, ← hct, List.take_append_drop]
    refine ⟨_, _, rfl, Rw.own HR2.out hbg hroom hm ?_ ?_, ?_⟩
    · rw [splice_len _ _ _ (by rw [HSP.out, hcs, HLN.out.2.2]; omega), HSP.out, hcs]
    · rw [scs_mid]
      have hlen : (cur.drop (l.length * 3)).length = (cap - l.length) * 3 := by rw [List.length_drop, hcs]; omega
      have := splice_shift (M := X.l) hcur (by rw [hlen, HLN.out.2.2]; omega)
      rw [HLN.out.1, HLN.out.2.2, show i * 3 + 3 = (i + 1) * 3 by omega] at this
      rw [this, ← List.append_assoc, ← List.append_assoc, List.take_append_of_le_length (by simp [HLN.out.1, HLN.out.2.1, HLN.out.2.2]; omega), List.take_of_length_le (by simp [HLN.out.1, HLN.out.2.1, HLN.out.2.2]; omega), List.append_assoc]
    · refine ⟨((show w.grownBy w.drew (some g) from ⟨rfl, rfl, rfl, Nat.le_refl _, fun _ _ _ => rfl⟩).trans HG1.out).trans HG2.out, fun k hk => .inl ?_⟩
      exact hk)
  have hk := srun_eupto (some ⟨g, 0, none⟩) l.length cap .i64 (l.length + 1) (by omega)
  have hc1 : ∀ W, (Instr.slice 22 (.slice (some ⟨g, 0, none⟩) l.length cap) (some (.int .i64 (i : Int))) none none).run Try.prog W = .ok (.slice (some ⟨g, i * 3, none⟩) (l.length - i) (cap - i)) W := fun W => by
    obtain ⟨A', hA', h⟩ := srun_ecut (some ⟨g, 0, none⟩) l.length cap .i64 i (by omega)
    rw [hA', if_neg (by omega), Option.map_some, add_mk, Nat.zero_add] at h
    exact h W
  have hk2 : ∀ W, (Instr.slice 22 (.slice (some ⟨g, 0, none⟩) l.length cap) none (some (.int .i64 ((l.length : Int) + 1))) none).run Try.prog W = .ok (.slice (some ⟨g, 0, none⟩) (l.length + 1) cap) W := fun W => by
    have h := hk W
    rwa [show ((l.length + 1 : Nat) : Int) = (l.length : Int) + 1 by omega] at h
  have hc2 : ∀ W, (Instr.slice 22 (.slice (some ⟨g, 0, none⟩) (l.length + 1) cap) (some (.int .i64 (i : Int))) none none).run Try.prog W = .ok (.slice (some ⟨g, i * 3, none⟩) (l.length + 1 - i) (cap - i)) W := fun W => by
    obtain ⟨A', hA', h⟩ := srun_ecut (some ⟨g, 0, none⟩) (l.length + 1) cap .i64 i (by omega)
    rw [hA', if_neg (by omega), Option.map_some, add_mk, Nat.zero_add] at h
    exact h W
  have hc3 : ∀ W, (Instr.slice 22 (.slice (some ⟨g, 0, none⟩) (l.length + 1) cap) (some (.int .i64 ((i : Int) + 1))) none none).run Try.prog W = .ok (.slice (some ⟨g, (i + 1) * 3, none⟩) (l.length - i) (cap - (i + 1))) W := fun W => by
    obtain ⟨A', hA', h⟩ := srun_ecut (some ⟨g, 0, none⟩) (l.length + 1) cap .i64 (i + 1) (by omega)
    rw [hA', if_neg (by omega), Option.map_some, add_mk, Nat.zero_add, show ((i + 1 : Nat) : Int) = (i : Int) + 1 by omega, show l.length + 1 - (i + 1) = l.length - i by omega] at h
    exact h W
  have hgr : ¬ (cap : Int) < (l.length : Int) + 1 := by omega
  have hne1 : ((i : Int) == (l.length : Int)) = false := by simp; omega
  have hw1 : IntKind.i64.wrap ((l.length : Int) + 1) = (l.length : Int) + 1 := IntWalk.i64_in _ (by omega)
  have hw2 : IntKind.i64.wrap ((i : Int) + 1) = (i : Int) + 1 := IntWalk.i64_in _ (by omega)
  have hiL : (i : Int) < (l.length : Int) := by omega
  have hil : i < l.length := hi
  clear hg hx hct hcs hm hread hG hk hi hsz8
  go_enter Try.func63, Try.ntmps63
  go_wp2_with (simp only [hov])
  go_region_held3 (fun W => TruS W) (exact trivial) (first | (fail))
  go_wp2
  go_ret
  exact HF.out

/-- slices.Insert of one span. -/
theorem sinsert_any (base vb : Nat) (v : Value) (l : List Sp) (i : Nat) (X : Sp) (w : World) (hi : i ≤ l.length) (hl : l.length ≤ 100) (ho : w.ownsRow base 43 3 v l.length (scs l)) (hb : base ≤ w.heap.size) (hx : Rw w vb 43 X.l) (hne : v.ownBlock ≠ some vb) :
    Calls Try.prog 63 #[v, .int .i64 (i : Int), .slice (some ⟨vb, 0, none⟩) 1 1] w (InS base v.ownBlock l i X w) := by
  by_cases e : i = l.length
  · subst e; exact sinsert_end base vb v l X w hl ho hb hx hne
  · obtain ⟨g, cap, cur, rfl, hbg, hg, hlc, hm, hcs, hct⟩ := Rw.of_own ho (by omega)
    have hgv : g ≠ vb := fun e => hne (by rw [e]; rfl)
    by_cases hr : l.length + 1 ≤ cap
    · exact sinsert_shift base vb l i X w (by omega) hl g cap cur hbg hg hm hcs hct hb hx hgv hr
    · exact sinsert_grow base vb l i X w (by omega) hl g cap cur hbg hg hlc hm hcs hct hb hx hgv (by omega)
end Go.Proofs.Ytfkpkmcpepeaeaa
namespace Go.Proofs.Ytfkpkmcpepeaeaa
open Go.RowKit
set_option linter.unusedVariables false

/-- Values laid into a list from a place on. -/
def setl : List Value → Nat → List Value → List Value
  | c, _, [] => c
  | c, m, v :: r => setl (c.set m v) (m + 1) r
theorem setl_len : ∀ (vs : List Value) (c : List Value) (m : Nat), (setl c m vs).length = c.length
  | [], _, _ => rfl
  | v :: r, c, m => by rw [setl, setl_len r]; simp
theorem setl_out : ∀ (vs : List Value) (c : List Value) (m j : Nat), (j < m ∨ m + vs.length ≤ j) → (setl c m vs)[j]? = c[j]?
  | [], _, _, _, _ => rfl
  | v :: r, c, m, j, h => by
    rw [setl, setl_out r _ _ _ (by rcases h with h | h; left; omega; right; simp at h; omega), List.getElem?_set_ne (by rcases h with h | h; omega; simp at h; omega)]
theorem setl_in : ∀ (vs : List Value) (c : List Value) (m j : Nat), m ≤ j → j < m + vs.length → j < c.length → (setl c m vs)[j]? = vs[j - m]?
  | [], _, m, j, h1, h2, _ => by simp at h2; omega
  | v :: r, c, m, j, h1, h2, h3 => by
    rw [setl]
    by_cases e : j = m
    · subst e
      rw [setl_out r _ _ _ (.inl (by omega)), List.getElem?_set_self h3]
      simp
    · rw [setl_in r _ (m + 1) j (by omega) (by simp at h2; omega) (by simpa using h3), show j - m = (j - (m + 1)) + 1 by omega]
      simp
theorem Rw.setl {g : Nat} {t : TypeId} : ∀ (vs : List Value) (m : Nat) (W : World) (cur : List Value), Rw W g t cur → Rw (W.setCells g m vs) g t (Go.Proofs.Ytfkpkmcpepeaeaa.setl cur m vs)
  | [], _, _, _, h => h
  | v :: r, m, W, cur, h => by
    refine Rw.setl r (m + 1) _ _ ?_
    have := heap_setCell_same W g m cur.toArray t v h
    simpa using this
theorem setl_grown {g : Nat} {a : World} : ∀ (vs : List Value) (m : Nat) (W : World), a.grownBy W (some g) → a.grownBy (W.setCells g m vs) (some g)
  | [], _, _, h => h
  | v :: r, m, W, h => setl_grown r (m + 1) _ (only_set h (p := ⟨g, m, none⟩) (.inl rfl) v)
theorem setl_below {B g : Nat} {a : World} (hg : B ≤ g) : ∀ (vs : List Value) (m : Nat) (W : World), Below B a W → Below B a (W.setCells g m vs)
  | [], _, _, h => h
  | v :: r, m, W, h => setl_below hg r (m + 1) _ (h.setCell (p := ⟨g, m, none⟩) hg v)
/-- A list without one span, that the call owns from a block on. -/
def DeS (base : Nat) (own : Option Nat) (l : List Sp) (i : Nat) (w : World) (e : Ending) (w' : World) : Prop := ∃ A c, e = .returned (.slice A (l.length - 1) c) ∧ w'.ownsRow base 43 3 (.slice A (l.length - 1) c) (l.length - 1) (scs (l.eraseIdx i)) ∧ w.grownBy w' own ∧ ∀ k, (Value.slice A (l.length - 1) c).ownBlock = some k → own = some k ∨ w.heap.size ≤ k
theorem scs_erase (l : List Sp) (i : Nat) : scs (l.eraseIdx i) = scs (l.take i) ++ scs (l.drop (i + 1)) := by rw [List.eraseIdx_eq_take_drop_succ, scs_app]
theorem scs_tl {l : List Sp} {i : Nat} (hi : i ≤ l.length) : (scs (l.take i)).length = i * 3 := by rw [scs_len, List.length_take, Nat.min_eq_left hi]
theorem scs_dl (l : List Sp) (i : Nat) : (scs (l.drop i)).length = (l.length - i) * 3 := by rw [scs_len, List.length_drop]
theorem erase_cells {l : List Sp} {i : Nat} {cur : List Value} (hi : i < l.length) (hc : l.length * 3 ≤ cur.length) (ht : cur.take (l.length * 3) = scs l) :
    (setl (setl cur (i * 3) (scs (l.drop (i + 1)))) ((l.length - 1) * 3) (scs [zSp])).take ((l.length - 1) * 3) = scs (l.eraseIdx i) := by
  have hd := scs_dl l (i + 1)
  have hk := scs_tl (l := l) (i := i) (by omega)
  apply List.ext_getElem?
  intro j
  rw [List.getElem?_take]
  by_cases hj : j < (l.length - 1) * 3
  · rw [if_pos hj, setl_out _ _ _ _ (.inl hj), scs_erase]
    by_cases hji : j < i * 3
    · rw [setl_out _ _ _ _ (.inl hji), List.getElem?_append_left (by rw [hk]; exact hji), ← scs_take, ← ht, List.getElem?_take, if_pos hji, List.getElem?_take, if_pos (by omega)]
    · rw [setl_in _ _ _ _ (by omega) (by rw [hd]; omega) (by omega), List.getElem?_append_right (by rw [hk]; omega), hk]
  · rw [if_neg hj]
    symm
    apply List.getElem?_eq_none
    rw [scs_len, List.length_eraseIdx, if_pos hi]
    omega
theorem zero_span : ∀ W, (zeroValue 43).run Try.prog W = .ok (Sp.v zSp) W := fun W => by
  obtain ⟨i0, hi0, hz0⟩ := Option.map_eq_some_iff.1 info_sp
  simp only [Prod.mk.injEq] at hz0
  simp [zeroValue, typeInfo, hi0, hz0.1]
theorem run_clear_one (W : World) (ty : TypeId) (g o c : Nat) (hc : ∀ j, j < 3 → (W.cell? ⟨g, o + j, none⟩).isSome = true) (hf : ∀ j, j < 3 → W.frozen? ⟨g, o + j, none⟩ = false) :
    (Builtin.clear_ #[22] ty #[.slice (some ⟨g, o, none⟩) 1 c]).run Try.prog W = .ok (.tuple #[]) (W.setCells g o (scs [zSp])) := by
  have hst := run_storeCells_cells (P := Try.prog) g o (scs [zSp]) 0 W (by simpa [scs, Sp.l] using hc) (by simpa [scs, Sp.l] using hf) (by intro v hv; exact scs_one [zSp] v hv)
  simp only [Nat.add_zero] at hst
  have hz : (Builtin.zeroCells (Sp.v zSp).cells 1).toList = scs [zSp] := by kernel_rfl
  simp [Builtin.clear_, run_underlying Try.underlying22, hz, hst]

/-- The step of an append whose run is known, in a region that draws its order. -/
theorem step_append_run {P : Program} (w : World) {ops : Array Oper} {o : Oper} {a : Act} {K : Act → World → Prop} {Q : Exit → Act → World → Prop} {E : Prop} (hgd : o.guard = none) (s x : Operand) (t : TypeId)
    (ho : o.op = .call { callee := .builtin .append, args := #[s, x], argTypes := #[t, t] }) (v1 v2 v' : Value) (w' : World) (hs : a.eval s = v1) (hx : a.eval x = v2)
    (hrun : ∀ ty, (Builtin.append_ #[t, t] ty #[v1, v2]).run P w = .ok v' w') (h : K (a.put o.dst v') w') :
    if Region.wanted o (yielded ops a.tmps) = true then Oper.wp P o a w K Q else E := by
  have hw : Region.wanted o (yielded ops a.tmps) = true := by simp [Region.wanted, hgd]
  rw [if_pos hw]
  unfold Oper.wp
  simp [execOp, ho, resolve, invoke, builtin, hs, hx, hrun, Result.andThen]
  exact h
set_option maxHeartbeats 4000000 in
set_option maxRecDepth 20000 in
theorem sdelete_any (base : Nat) (v : Value) (l : List Sp) (i : Nat) (w : World) (hi : i < l.length) (hl : l.length ≤ 100) (ho : w.ownsRow base 43 3 v l.length (scs l)) (hb : base ≤ w.heap.size) :
    Calls Try.prog 64 #[v, .int .i64 (i : Int), .int .i64 ((i : Int) + 1)] w (DeS base v.ownBlock l i w) := by
  obtain ⟨i0, hi0, hz0⟩ := Option.map_eq_some_iff.1 info_sp
  simp only [Prod.mk.injEq] at hz0
  obtain ⟨hz1, hz2, hz3⟩ := hz0
  obtain ⟨g, cap, cur, rfl, hbg, hg, hlc, hm, hcs, hct⟩ := Rw.of_own ho (by omega)
  have hread : ∀ j u, (scs l)[j]? = some u → w.cell? ⟨g, j, none⟩ = some u := fun j u hu => hg.cell (by
    rw [← hct, List.getElem?_take] at hu
    split at hu
    · exact hu
    · cases hu)
  obtain ⟨W1, hW1⟩ : ∃ W1, W1 = w.drew.setCells g (i * 3) (scs (l.drop (i + 1))) := ⟨_, rfl⟩
  have hg0 : Rw w.drew g 43 cur := hg
  have hg1 : Rw W1 g 43 (setl cur (i * 3) (scs (l.drop (i + 1)))) := by rw [hW1]; exact Rw.setl _ _ _ _ hg0
  have hb1 : w.grownBy W1 (some g) := by rw [hW1]; exact setl_grown _ _ _ ⟨rfl, rfl, rfl, Nat.le_refl _, fun _ _ _ => rfl⟩
  have hn1 : l.length - (i + 1) + i = l.length - 1 := by omega
  obtain ⟨A', hA', hcut⟩ := srun_ecut (some ⟨g, 0, none⟩) l.length cap .i64 (i + 1) (by omega)
  obtain ⟨AD, hAD, hsrc⟩ : ∃ AD : Addr, A' = some AD ∧ ∀ j u, (scs (l.drop (i + 1)))[j]? = some u → w.drew.cell? (AD.add j) = some u := by
    by_cases e : cap = i + 1
    · refine ⟨⟨g, 0, none⟩, by rw [hA', if_pos e], fun j u hu => ?_⟩
      have h0 : l.drop (i + 1) = [] := List.drop_eq_nil_of_le (by omega)
      rw [h0] at hu
      simp [scs] at hu
    · refine ⟨⟨g, (i + 1) * 3, none⟩, by rw [hA', if_neg e, Option.map_some, add_mk, Nat.zero_add], fun j u hu => ?_⟩
      rw [add_mk]
      refine hread _ u ?_
      rw [← scs_drop, List.getElem?_drop] at hu
      exact hu
  rw [hAD] at hcut
  clear hA' hAD
  have hap : ∀ ty, (Builtin.append_ #[22, 22] ty #[.slice (some ⟨g, 0, none⟩) i cap, .slice (some AD) (l.length - (i + 1)) (cap - (i + 1))]).run Try.prog w.drew = .ok (.slice (some ⟨g, 0, none⟩) (l.length - 1) cap) W1 := fun ty => by
    have h := run_append_room_cells (P := Try.prog) (w := w.drew) 22 ty 43 i0 Try.underlying22 hi0 g 0 i cap AD (l.length - (i + 1)) (cap - (i + 1)) (scs (l.drop (i + 1))) (by rw [hz2, scs_dl]) hsrc (scs_one _) (by omega)
      (fun j hj => by
        rw [scs_dl] at hj
        rw [hz2, Nat.zero_add]
        obtain ⟨u, hu⟩ : ∃ u, cur[i * 3 + j]? = some u := ⟨_, List.getElem?_eq_getElem (by rw [hcs]; omega)⟩
        rw [hg0.cell hu]; rfl)
      (fun j hj => hg0.free _)
    rw [hz2, Nat.zero_add, ← hW1, show i + (l.length - (i + 1)) = l.length - 1 by omega] at h
    exact h
  have hcl : ∀ ty c, (Builtin.clear_ #[22] ty #[.slice (some ⟨g, (l.length - 1) * 3, none⟩) (l.length - (l.length - 1)) c]).run Try.prog W1 = .ok (.tuple #[]) (W1.setCells g ((l.length - 1) * 3) (scs [zSp])) := fun ty c => by
    rw [show l.length - (l.length - 1) = 1 by omega]
    refine run_clear_one W1 ty g _ c (fun j hj => ?_) (fun j hj => hg1.free _)
    obtain ⟨u, hu⟩ : ∃ u, (setl cur (i * 3) (scs (l.drop (i + 1))))[(l.length - 1) * 3 + j]? = some u := ⟨_, List.getElem?_eq_getElem (by rw [setl_len, hcs]; omega)⟩
    rw [hg1.cell hu]; rfl
  have HF := Lib.hid (show DeS base (some g) l i w (.returned (.slice (some ⟨g, 0, none⟩) (l.length - 1) cap)) (W1.setCells g ((l.length - 1) * 3) (scs [zSp])) from
    ⟨_, _, rfl, Rw.own (Rw.setl _ _ _ _ hg1) hbg (by omega) hm (by rw [setl_len, setl_len, hcs]) (erase_cells hi (by rw [hcs]; omega) hct), setl_grown _ _ _ hb1, fun k hk => .inl hk⟩)
  have hup := srun_eupto (some ⟨g, 0, none⟩) l.length cap .i64 i (by omega)
  have hs3 : ∀ W, (Instr.slice 22 (.slice (some ⟨g, 0, none⟩) l.length cap) (some (.int .i64 (i : Int))) (some (.int .i64 ((i : Int) + 1))) (some (.int .i64 (l.length : Int)))).run Try.prog W = .ok (.slice (if l.length = i then some ⟨g, 0, none⟩ else some ⟨g, i * 3, none⟩) 1 (l.length - i)) W := fun W => by
    rw [run_slice_lhm W _ _ _ _ sel_under .i64 .i64 .i64 _ _ _ (by omega) (by omega) (by omega) (by omega), sel_elem, Try.sizeOf43]
    simp [Result.andThen, sliced, Addr.add_lit]
    try omega
  have hs2 : ∀ W, (Instr.slice 22 (.slice (some ⟨g, 0, none⟩) (l.length - 1) cap) (some (.int .i64 ((l.length - 1 : Nat) : Int))) (some (.int .i64 (l.length : Int))) none).run Try.prog W = .ok (.slice (some ⟨g, (l.length - 1) * 3, none⟩) 1 (cap - (l.length - 1))) W := fun W => by
    rw [run_slice_lh W _ _ _ _ sel_under .i64 .i64 _ _ (by omega) (by omega) (by omega), sel_elem, Try.sizeOf43]
    simp [Result.andThen, sliced, Addr.add_lit]
    try omega
  have hcut' : ∀ W, (Instr.slice 22 (.slice (some ⟨g, 0, none⟩) l.length cap) (some (.int .i64 ((i : Int) + 1))) none none).run Try.prog W = .ok (.slice (some AD) (l.length - (i + 1)) (cap - (i + 1))) W := fun W => by
    have h := hcut W
    rwa [show ((i + 1 : Nat) : Int) = (i : Int) + 1 by omega] at h
  have hne : ((i : Int) == (i : Int) + 1) = false := by simp; omega
  have hil : (i : Int) < (l.length : Int) := by omega
  clear hW1 hg hg0 hg1 hb1 hn1 hread hsrc hcut hct hcs ho hz1 hz2 hz3 hi0
  generalize W1.setCells g ((l.length - 1) * 3) (scs [zSp]) = W2 at *
  have hl1 : ((l.length - 1 : Nat) : Int) = (l.length : Int) - 1 := by omega
  go_enter Try.func64, Try.ntmps64
  go_upto_region 5 with (fail)
  go_region_held3 (fun W => TruS W) (exact trivial) (first | (refine step_append_run _ (by rfl) _ _ _ (by rfl) _ _ _ _ (by rfl) (by rfl) hap ?_))
  go_wp2
  go_ret
  exact HF.out
end Go.Proofs.Ytfkpkmcpepeaeaa
namespace Go.Proofs.Ytfkpkmcpepeaeaa
open Go.RowKit
set_option linter.unusedVariables false

/-- A change as a value. -/
abbrev Ed.v (e : Ed) : Value := .agg #[.int .i64 e.kd, .int .i64 e.fr, .int .i64 e.to, .int .i64 e.md]
/-- Block q holds a change. -/
structure EB (W : World) (q : Nat) (e : Ed) : Prop where
  c0 : W.cell? ⟨q, 0, none⟩ = some (.int .i64 e.kd)
  c1 : W.cell? ⟨q, 1, none⟩ = some (.int .i64 e.fr)
  c2 : W.cell? ⟨q, 2, none⟩ = some (.int .i64 e.to)
  c3 : W.cell? ⟨q, 3, none⟩ = some (.int .i64 e.md)
  lt : q < W.heap.size
section
variable {W W' : World} {q g : Nat} {e : Ed}
theorem EB.keep (h : EB W q e) (hc : ∀ o, W'.cell? ⟨q, o, none⟩ = W.cell? ⟨q, o, none⟩) (hs : W.heap.size ≤ W'.heap.size) : EB W' q e :=
  ⟨(hc 0).trans h.c0, (hc 1).trans h.c1, (hc 2).trans h.c2, (hc 3).trans h.c3, Nat.lt_of_lt_of_le h.lt hs⟩
theorem EB.up (h : EB W q e) (hb : Below W.heap.size W W') : EB W' q e := h.keep (fun o => hb.cell (p := ⟨q, o, none⟩) h.lt) hb.size
theorem EB.alloc (h : EB W q e) (o : Obj) : EB (W.alloc o) q e := h.up ((Below.refl _ _).alloc (Nat.le_refl _) o)
theorem EB.other (h : EB W q e) {a : Addr} (hne : a.block ≠ q) (v : Value) : EB (W.setCell a v) q e :=
  h.keep (fun o => World.cell?_setCell_other W a ⟨q, o, none⟩ v (fun e => hne (by rw [e]))) (by simp)
theorem EB.grown (h : EB W q e) (hg : W.grownBy W' (some g)) (hne : q ≠ g) : EB W' q e := h.keep (fun o => hg.cell_far ⟨q, o, none⟩ h.lt (fun e => by injection e with e; exact hne e)) hg.size
theorem EB.start (w : World) (e : Ed) (t : TypeId) : EB (w.alloc (.cells #[.int .i64 e.kd, .int .i64 e.fr, .int .i64 e.to, .int .i64 e.md] t)) w.heap.size e :=
  ⟨by simp [go_sem], by simp [go_sem], by simp [go_sem], by simp [go_sem], by simp⟩
end
/-- A directory with lists of the call's own and an error as a result. -/
def DE (base : Nat) (w : World) (d : Dd) (x : Int) (e : Ending) (w' : World) : Prop := ∃ X, e = .returned (.tuple #[dv d X, .int .i64 x]) ∧ X.nw base ∧ DR w' w'.heap.size d X ∧ Below base w w'
/-- The boxes of split and merge: a directory with lists of the call's own, a change, a result. -/
structure Sb (w : World) (base p q r : Nat) (d : Dd) (X : Dx) (e : Ed) (W : World) : Prop where
  db : Db10 W p d X
  eb : EB W q e
  rb : Db10 W r zD10 zDx
  ol : W.ownsRow base 43 3 (.slice X.A d.l.length X.c) d.l.length (scs d.l)
  of : W.ownsRow base 3 1 (.slice X.A2 d.F.length X.c2) d.F.length (ics d.F)
  dis : ∀ k, (Value.slice X.A d.l.length X.c).ownBlock = some k → (Value.slice X.A2 d.F.length X.c2).ownBlock ≠ some k
  ll : ∀ k, (Value.slice X.A d.l.length X.c).ownBlock = some k → k ≠ p ∧ k ≠ q ∧ k ≠ r
  lf : ∀ k, (Value.slice X.A2 d.F.length X.c2).ownBlock = some k → k ≠ p ∧ k ≠ q ∧ k ≠ r
  pq : base ≤ w.heap.size ∧ w.heap.size ≤ p ∧ p < q ∧ q < r
  bel : Below base w W
section
variable {w W W' : World} {base p q r : Nat} {d : Dd} {X : Dx} {e : Ed}
theorem own_up10 {size n : Nat} {t : TypeId} {v : Value} {xs : List Value} (h : W.ownsRow base t size v n xs) (hb : Below W.heap.size W W') : W'.ownsRow base t size v n xs :=
  ⟨h.1, h.2.imp_right fun ⟨g, cap, cur, hv, hg, hh, rr⟩ => ⟨g, cap, cur, hv, hg, (hb.block g (Array.getElem?_eq_some_iff.1 hh).1).trans hh, rr⟩⟩
theorem own_oth {size n : Nat} {t : TypeId} {v : Value} {xs : List Value} (h : W.ownsRow base t size v n xs) {a : Addr} (ha : ∀ k, v.ownBlock = some k → k ≠ a.block) (u : Value) : (W.setCell a u).ownsRow base t size v n xs :=
  ⟨h.1, h.2.imp_right fun ⟨g, cap, cur, hv, hg, hh, rr⟩ => ⟨g, cap, cur, hv, hg, (Below.heap_setCell W a u g (by
    have := ha g (by rw [hv]; rfl)
    intro e; exact this e)).trans hh, rr⟩⟩
theorem own_far10 {size n g : Nat} {t : TypeId} {v : Value} {xs : List Value} (h : W.ownsRow base t size v n xs) (hg : W.grownBy W' (some g)) (hne : v.ownBlock ≠ some g) : W'.ownsRow base t size v n xs :=
  ⟨h.1, h.2.imp_right fun ⟨k, cap, cur, hv, hk, hh, rr⟩ => ⟨k, cap, cur, hv, hk, (hg.block k (Array.getElem?_eq_some_iff.1 hh).1 (by
    rw [hv] at hne
    exact hne)).trans hh, rr⟩⟩
theorem Sb.dr (h : Sb w base p q r d X e W) : DR W W.heap.size d X := ⟨Pl.of_own h.ol, Fl.of_own h.of⟩
theorem Sb.below (h : Sb w base p q r d X e W) (hb : Below W.heap.size W W') : Sb w base p q r d X e W' :=
  ⟨h.db.up hb, h.eb.up hb, h.rb.up hb, own_up10 h.ol hb, own_up10 h.of hb, h.dis, h.ll, h.lf, h.pq, h.bel.trans (hb.mono (Nat.le_trans h.pq.1 h.bel.size))⟩
theorem Sb.nw (h : Sb w base p q r d X e W) : X.nw base := ⟨nwv_of (nwv_own h.ol (Nat.le_refl _)), nwv_of (nwv_own h.of (Nat.le_refl _))⟩
theorem Sb.start (d : Dd) (X : Dx) (e : Ed) (hb : base ≤ w.heap.size) (hol : w.ownsRow base 43 3 (.slice X.A d.l.length X.c) d.l.length (scs d.l)) (hof : w.ownsRow base 3 1 (.slice X.A2 d.F.length X.c2) d.F.length (ics d.F))
    (hd : ∀ k, (Value.slice X.A d.l.length X.c).ownBlock = some k → (Value.slice X.A2 d.F.length X.c2).ownBlock ≠ some k) :
    Sb w base w.heap.size (w.heap.size + 1) (w.heap.size + 1 + 1) d X e (((w.alloc (.cells #[.int .i64 d.vn, .slice X.A d.l.length X.c, .slice X.A2 d.F.length X.c2] 25)).alloc (.cells #[.int .i64 e.kd, .int .i64 e.fr, .int .i64 e.to, .int .i64 e.md] 27)).alloc (.cells #[.int .i64 0, .slice none 0 0, .slice none 0 0] 25)) := by
  have e1 : (w.alloc (.cells #[.int .i64 d.vn, .slice X.A d.l.length X.c, .slice X.A2 d.F.length X.c2] 25)).heap.size = w.heap.size + 1 := by simp
  have e2 : ((w.alloc (.cells #[.int .i64 d.vn, .slice X.A d.l.length X.c, .slice X.A2 d.F.length X.c2] 25)).alloc (.cells #[.int .i64 e.kd, .int .i64 e.fr, .int .i64 e.to, .int .i64 e.md] 27)).heap.size = w.heap.size + 1 + 1 := by simp
  have h1 := (EB.start (w.alloc (.cells #[.int .i64 d.vn, .slice X.A d.l.length X.c, .slice X.A2 d.F.length X.c2] 25)) e 27).alloc (.cells #[.int .i64 0, .slice none 0 0, .slice none 0 0] 25)
  have h2 := Db10.zero ((w.alloc (.cells #[.int .i64 d.vn, .slice X.A d.l.length X.c, .slice X.A2 d.F.length X.c2] 25)).alloc (.cells #[.int .i64 e.kd, .int .i64 e.fr, .int .i64 e.to, .int .i64 e.md] 27)) 25
  rw [e1] at h1
  rw [e2] at h2
  have hbb : Below w.heap.size w (((w.alloc (.cells #[.int .i64 d.vn, .slice X.A d.l.length X.c, .slice X.A2 d.F.length X.c2] 25)).alloc (.cells #[.int .i64 e.kd, .int .i64 e.fr, .int .i64 e.to, .int .i64 e.md] 27)).alloc (.cells #[.int .i64 0, .slice none 0 0, .slice none 0 0] 25)) :=
    (((Below.refl _ _).alloc (Nat.le_refl _) _).alloc (by simp) _).alloc (by simp; omega) _
  refine ⟨((Db10.start w d X _).alloc _).alloc _, h1, h2, own_up10 hol hbb, own_up10 hof hbb, hd, fun k hk => ?_, fun k hk => ?_, ⟨hb, Nat.le_refl _, by omega, by omega⟩, hbb.mono hb⟩
  · have := (hol.lt k hk).2; omega
  · have := (hof.lt k hk).2; omega
theorem Sb.out0 (h : Sb w base p q r d X e W) (x : Int) : DE base w zD10 x (.returned (.tuple #[.agg #[.int .i64 0, .slice none 0 0, .slice none 0 0], .int .i64 x])) (((W.setCell ⟨r, 0, none⟩ (.int .i64 0)).setCell ⟨r, 1, none⟩ (.slice none 0 0)).setCell ⟨r, 2, none⟩ (.slice none 0 0)) := by
  have hp := h.pq
  exact ⟨zDx, rfl, zDx_nw _, DR.zero, ((h.bel.setCell (p := ⟨r, 0, none⟩) (show base ≤ r by omega) _).setCell (p := ⟨r, 1, none⟩) (show base ≤ r by omega) _).setCell (p := ⟨r, 2, none⟩) (show base ≤ r by omega) _⟩
theorem Sb.out (h : Sb w base p q r d X e W) (x : Int) : DE base w d x (.returned (.tuple #[dv d X, .int .i64 x])) (((W.setCell ⟨r, 0, none⟩ (.int .i64 d.vn)).setCell ⟨r, 1, none⟩ (.slice X.A d.l.length X.c)).setCell ⟨r, 2, none⟩ (.slice X.A2 d.F.length X.c2)) := by
  have hp := h.pq
  have f : ∀ o, DOff d X (⟨r, o, none⟩ : Addr).block := fun o => ⟨fun a ea _ => (h.ll a.block (by rw [ea]; rfl)).2.2, fun a ea _ => (h.lf a.block (by rw [ea]; rfl)).2.2⟩
  have k1 := h.dr.offp (q := ⟨r, 0, none⟩) (f 0) (.int .i64 d.vn)
  have k2 := k1.offp (q := ⟨r, 1, none⟩) (f 1) (.slice X.A d.l.length X.c)
  have k3 := k2.offp (q := ⟨r, 2, none⟩) (f 2) (.slice X.A2 d.F.length X.c2)
  exact ⟨X, rfl, h.nw, k3.more (by simp), ((h.bel.setCell (p := ⟨r, 0, none⟩) (show base ≤ r by omega) _).setCell (p := ⟨r, 1, none⟩) (show base ≤ r by omega) _).setCell (p := ⟨r, 2, none⟩) (show base ≤ r by omega) _⟩
/-- A store into the list of spans. -/
theorem Sb.setL (h : Sb w base p q r d X e W) {g : Nat} (hg : X.A = some ⟨g, 0, none⟩) (j : Nat) (u : Value) {l' : List Sp} (hl : l'.length = d.l.length) (hs : (scs d.l).set j u = scs l') :
    Sb w base p q r ⟨d.vn, l', d.F⟩ X e (W.setCell ⟨g, j, none⟩ u) := by
  have hk : (Value.slice X.A d.l.length X.c).ownBlock = some g := by rw [hg]; rfl
  have hne := h.ll g hk
  have ho := h.ol
  rw [hg] at ho
  have hst := (ho.stored j u).1
  rw [hs, ← hg] at hst
  obtain ⟨hb, -⟩ := ho.lt g rfl
  have hd := h.db.other (a := ⟨g, j, none⟩) hne.1 u
  refine ⟨⟨hd.c0, by have := hd.c1; rw [← hl] at this; exact this, hd.c2, hd.fr, hd.lt⟩, h.eb.other (a := ⟨g, j, none⟩) hne.2.1 u, h.rb.other (a := ⟨g, j, none⟩) hne.2.2 u, by rw [← hl] at hst; exact hst, own_oth h.of (fun k hk' e => ?_) u, ?_, ?_, h.lf, h.pq, h.bel.setCell (p := ⟨g, j, none⟩) hb u⟩
  · have e' : k = g := e
    rw [e'] at hk'; exact h.dis g hk hk'
  · intro k hk'; exact h.dis k (by rw [hg] at hk' ⊢; exact hk')
  · intro k hk'; exact h.ll k (by rw [hg] at hk' ⊢; exact hk')
/-- Another list of spans, that lies in the elder's place or in a new one. -/
theorem Sb.newL (h : Sb w base p q r d X e W) {A : Option Addr} {c g : Nat} {l' : List Sp} (hg : X.A = some ⟨g, 0, none⟩) (hw : W.grownBy W' (some g)) (ho : W'.ownsRow base 43 3 (.slice A l'.length c) l'.length (scs l')) (hn : ∀ k, (Value.slice A l'.length c).ownBlock = some k → some g = some k ∨ W.heap.size ≤ k) :
    Sb w base p q r ⟨d.vn, l', d.F⟩ ⟨A, c, X.A2, X.c2⟩ e (W'.setCell ⟨p, 1, none⟩ (.slice A l'.length c)) := by
  have hk : (Value.slice X.A d.l.length X.c).ownBlock = some g := by rw [hg]; rfl
  have hne := h.ll g hk
  have hp := h.pq
  obtain ⟨hb, -⟩ := h.ol.lt g hk
  have hd := h.db.grown hw hne.1.symm
  have hL : ∀ k, (Value.slice A l'.length c).ownBlock = some k → k ≠ p ∧ k ≠ q ∧ k ≠ r := fun k hk' => by
    rcases hn k hk' with e | e
    · injection e with e; subst e; exact hne
    · have h1 := h.db.lt
      have h2 := h.eb.lt
      have h3 := h.rb.lt
      omega
  refine ⟨⟨by simp [go_sem, hd.c0], by simp [go_sem, hd.c1], by simp [go_sem, hd.c2], fun o => by simp [go_sem, hd.fr o], by simp [hd.lt]⟩, (h.eb.grown hw hne.2.1.symm).other (a := ⟨p, 1, none⟩) (show p ≠ q by omega) _, (h.rb.grown hw hne.2.2.symm).other (a := ⟨p, 1, none⟩) (show p ≠ r by omega) _, own_oth ho (fun k hk' => (hL k hk').1) _, own_oth (own_far10 h.of hw (h.dis g hk)) (fun k hk' => (h.lf k hk').1) _, fun k hk' => ?_, hL, h.lf, h.pq, (h.bel.grown hw (Nat.le_trans hp.1 h.bel.size) (fun k e => by injection e with e; subst e; exact hb)).setCell (p := ⟨p, 1, none⟩) (show base ≤ p by omega) _⟩
  rcases hn k hk' with e | e
  · injection e with e; subst e; exact h.dis g hk
  · intro e2; have := (h.of.lt k e2).2; omega
/-- A store into the forwards. -/
theorem Sb.setF (h : Sb w base p q r d X e W) {g : Nat} (hg : X.A2 = some ⟨g, 0, none⟩) (j : Nat) (u : Int) :
    Sb w base p q r ⟨d.vn, d.l, d.F.set j u⟩ X e (W.setCell ⟨g, j, none⟩ (.int .i64 u)) := by
  have hk : (Value.slice X.A2 d.F.length X.c2).ownBlock = some g := by rw [hg]; rfl
  have hne := h.lf g hk
  have ho := h.of
  rw [hg] at ho
  have hst := (ho.stored j (.int .i64 u)).1
  have e1 : (ics d.F).set j (.int .i64 u) = ics (d.F.set j u) := by simp [ics, List.map_set, i64v]
  rw [e1, ← hg] at hst
  have e2 : (d.F.set j u).length = d.F.length := by simp
  obtain ⟨hb, -⟩ := ho.lt g rfl
  have hd := h.db.other (a := ⟨g, j, none⟩) hne.1 (.int .i64 u)
  refine ⟨⟨hd.c0, hd.c1, by have := hd.c2; rw [← e2] at this; exact this, hd.fr, hd.lt⟩, h.eb.other (a := ⟨g, j, none⟩) hne.2.1 _, h.rb.other (a := ⟨g, j, none⟩) hne.2.2 _, own_oth h.ol (fun k hk' e => ?_) _, by rw [← e2] at hst; exact hst, ?_, h.ll, ?_, h.pq, h.bel.setCell (p := ⟨g, j, none⟩) hb _⟩
  · have e' : k = g := e
    rw [e'] at hk'; exact h.dis g hk' hk
  · intro k hk' e; exact h.dis k hk' (by rw [hg] at e ⊢; exact e)
  · intro k hk'; exact h.lf k (by rw [hg] at hk' ⊢; exact hk')
end
theorem scs_set1 {l : List Sp} {i : Nat} (hi : i < l.length) (x : Int) : (scs l).set (i * 3 + 1) (.int .i64 x) = scs (l.set i ⟨(sg l i).lo, x, (sg l i).sh⟩) := by
  induction l generalizing i with
  | nil => simp at hi
  | cons y l ih =>
    cases i with
    | zero => simp [scs_cons, Sp.l, sg]
    | succ i =>
      have := ih (i := i) (by simpa using hi)
      rw [scs_cons, show (i + 1) * 3 + 1 = (i * 3 + 1) + 1 + 1 + 1 by omega, List.set_cons_succ, scs_cons, Sp.l]
      simp only [List.cons_append, List.nil_append, List.set_cons_succ]
      rw [this]
      simp [sg]
theorem spl_eq {l : List Sp} {i : Nat} (hi : i < l.length) (e : Ed) (hs : (sg l i).sh = e.fr) :
    (l.set i ⟨(sg l i).lo, e.md, (sg l i).sh⟩).take (i + 1) ++ ⟨e.md + 1, (sg l i).hi, e.to⟩ :: (l.set i ⟨(sg l i).lo, e.md, (sg l i).sh⟩).drop (i + 1) = spL l i e := by
  unfold spL
  rw [hs, List.drop_set_of_lt (by omega), List.take_succ_eq_append_getElem (by simpa using hi), List.take_set, List.set_eq_of_length_le (by simp; omega)]
  simp
/-- The address of a list that has an element. -/
theorem own_addr {W : World} {base size n c : Nat} {t : TypeId} {A : Option Addr} {xs : List Value} (h : W.ownsRow base t size (.slice A n c) n xs) (h0 : 0 < n) : ∃ g, A = some ⟨g, 0, none⟩ := by
  rcases h.2 with ⟨_, h1⟩ | ⟨g, cap, cur, hv, _⟩
  · omega
  · injection hv with hA _ _
    exact ⟨g, hA⟩

set_option maxHeartbeats 8000000 in
set_option maxRecDepth 20000 in
theorem dsplit_any (base : Nat) (d : Dd) (X : Dx) (e : Ed) (w : World) (hb : base ≤ w.heap.size) (hol : w.ownsRow base 43 3 (.slice X.A d.l.length X.c) d.l.length (scs d.l)) (hof : w.ownsRow base 3 1 (.slice X.A2 d.F.length X.c2) d.F.length (ics d.F))
    (hd : ∀ k, (Value.slice X.A d.l.length X.c).ownBlock = some k → (Value.slice X.A2 d.F.length X.c2).ownBlock ≠ some k) (hl : d.l.length ≤ 90) (hrg : ∀ k, k < d.l.length → 0 ≤ (sg d.l k).lo ∧ (sg d.l k).lo ≤ (sg d.l k).hi ∧ (sg d.l k).hi ≤ 65535) (hto : slotP d.F.length e.to) :
    Calls Try.prog 40 #[dv d X, e.v] w (DE base w (if spE d e = 0 then ⟨d.vn, spL d.l (ixS d.l e.fr).toNat e, d.F.set e.to.toNat (-1)⟩ else zD10) (spE d e)) := by
  have H0 := Lib.hid (Sb.start d X e hb hol hof hd)
  have HF1 := Lib.hid (fun p q r W (k : Sb w base p q r d X e W) => sfind_any X.A d.l.length X.c d.l e.fr W k.dr.pl)
  have HF2 := Lib.hid (fun p q r W (k : Sb w base p q r d X e W) => sfind_any X.A d.l.length X.c d.l e.to W k.dr.pl)
  have HHL := Lib.hid hl
  obtain ⟨p, hp⟩ : ∃ p, p = w.heap.size := ⟨_, rfl⟩
  obtain ⟨q, hq⟩ : ∃ q, q = w.heap.size + 1 := ⟨_, rfl⟩
  obtain ⟨r, hr⟩ : ∃ r, r = w.heap.size + 1 + 1 := ⟨_, rfl⟩
  have HPP := Lib.hid (show (p = w.heap.size ∧ q = w.heap.size + 1 ∧ r = w.heap.size + 1 + 1) ∧ (¬ p = q ∧ ¬ q = p ∧ ¬ p = r ∧ ¬ r = p ∧ ¬ q = r ∧ ¬ r = q) by omega)
  obtain ⟨R, hR⟩ : ∃ R, R = if spE d e = 0 then Dd.mk d.vn (spL d.l (ixS d.l e.fr).toNat e) (d.F.set e.to.toNat (-1)) else zD10 := ⟨_, rfl⟩
  obtain ⟨x, hx⟩ : ∃ x, x = spE d e := ⟨_, rfl⟩
  rw [← hR, ← hx]
  have HRX := Lib.hid (And.intro hR hx)
  clear hR hx hp hq hr hb hol hof hd
  by_cases h1 : 0 ≤ ixS d.l e.fr
  · obtain ⟨i, hi, hil, hish, -⟩ := ixS_pos h1
    rw [hi] at HF1
    by_cases h2 : 0 ≤ ixS d.l e.to
    · have HRE := Lib.hid (show x = 7 ∧ R = zD10 from by
        have h7 : spE d e = 7 := spE_7 (.inr h2)
        exact ⟨HRX.out.2.trans h7, by rw [HRX.out.1, if_neg (by rw [h7]; decide)]⟩)
      generalize ixS d.l e.to = y at *
      clear h1 hi hish hil hrg
      go_enter Try.func40, Try.ntmps40
      go_wp2_with fail
      have H0 := Lib.hid (show Sb w base p q r d X e (((w.alloc (.cells #[.int .i64 d.vn, .slice X.A d.l.length X.c, .slice X.A2 d.F.length X.c2] 25)).alloc (.cells #[.int .i64 e.kd, .int .i64 e.fr, .int .i64 e.to, .int .i64 e.md] 27)).alloc (.cells #[.int .i64 0, .slice none 0 0, .slice none 0 0] 25)) from by rw [HPP.out.1.1, HPP.out.1.2.1, HPP.out.1.2.2]; exact H0.out)
      rw [← HPP.out.1.2.2, ← HPP.out.1.2.1, ← HPP.out.1.1]
      generalize ((w.alloc (.cells #[.int .i64 d.vn, .slice X.A d.l.length X.c, .slice X.A2 d.F.length X.c2] 25)).alloc (.cells #[.int .i64 e.kd, .int .i64 e.fr, .int .i64 e.to, .int .i64 e.md] 27)).alloc (.cells #[.int .i64 0, .slice none 0 0, .slice none 0 0] 25) = w0 at *
      refine (HF1.out _ _ _ _ H0.out).mono ?_
      rintro e1 w1 ⟨rfl, hb⟩
      have H1 := Lib.hid (H0.out.below hb)
      clear hb H0 HF1
      obtain ⟨x0, x1, x2, -, xl⟩ := H1.out.db
      obtain ⟨y0, y1, y2, y3, yl⟩ := H1.out.eb
      go_wp2_with fail
      refine (HF2.out _ _ _ _ H1.out).mono ?_
      rintro e1 w2 ⟨rfl, hb⟩
      have H2 := Lib.hid (H1.out.below hb)
      clear hb H1 HF2 x0 x1 x2 xl y0 y1 y2 y3 yl
      obtain ⟨⟨r0, r1, r2, rl⟩, g0, g1, g2⟩ := H2.out.rb.all
      have HO := Lib.hid (H2.out.out0 7)
      go_wp2
      exact bodyPost_ret (v := .tuple #[.agg #[.int .i64 0, .slice none 0 0, .slice none 0 0], .int .i64 7]) (by simp only [results, Try.results40]; go_simp <;> rfl) rfl (by rw [HRE.out.1, HRE.out.2]; exact HO.out)
    · have h2' : ixS d.l e.to < 0 := by omega
      have hix2 := (ixS_neg h2).1
      rw [hix2] at HF2
      have hgt := hrg i hil
      have HWI := Lib.hid (fun W => rwithin_any e.md (sg d.l i).lo ((sg d.l i).hi - 1) W)
      by_cases h3 : (sg d.l i).lo ≤ e.md ∧ e.md < (sg d.l i).hi
      · have HRE := Lib.hid (show x = 0 ∧ R = Dd.mk d.vn (spL d.l i e) (d.F.set e.to.toNat (-1)) from by
          have h7 : spE d e = 0 := spE_0 h1 h2' (by rw [hi]; exact h3)
          exact ⟨HRX.out.2.trans h7, by rw [HRX.out.1, if_pos h7, hi]; rfl⟩)
        rw [show wiR e.md (sg d.l i).lo ((sg d.l i).hi - 1) = true from decide_eq_true ⟨h3.1, by omega⟩] at HWI
        have hsub : IntKind.i64.wrap ((sg d.l i).hi - 1) = (sg d.l i).hi - 1 := IntWalk.i64_in _ (by omega)
        have hil' : (i : Int) < (d.l.length : Int) := by omega
        have HEQ := Lib.hid (spl_eq hil e hish)
        have HS1 := Lib.hid (scs_set1 hil e.md)
        obtain ⟨hg1, hg2, hg3⟩ := hgt
        obtain ⟨hm1, hm2⟩ := h3
        have hwm : wrap64 (e.md + 1) = e.md + 1 := IntWalk.wrap64_in _ (by omega)
        have hwi : wrap64 ((i : Int) + 1) = (i : Int) + 1 := IntWalk.wrap64_in _ (by omega)
        have HTO := Lib.hid hto
        clear h1 h2 h2' hix2 hi hish hrg hto
        go_enter Try.func40, Try.ntmps40
        go_wp2_with fail
        have H0 := Lib.hid (show Sb w base p q r d X e (((w.alloc (.cells #[.int .i64 d.vn, .slice X.A d.l.length X.c, .slice X.A2 d.F.length X.c2] 25)).alloc (.cells #[.int .i64 e.kd, .int .i64 e.fr, .int .i64 e.to, .int .i64 e.md] 27)).alloc (.cells #[.int .i64 0, .slice none 0 0, .slice none 0 0] 25)) from by rw [HPP.out.1.1, HPP.out.1.2.1, HPP.out.1.2.2]; exact H0.out)
        rw [← HPP.out.1.2.2, ← HPP.out.1.2.1, ← HPP.out.1.1]
        generalize ((w.alloc (.cells #[.int .i64 d.vn, .slice X.A d.l.length X.c, .slice X.A2 d.F.length X.c2] 25)).alloc (.cells #[.int .i64 e.kd, .int .i64 e.fr, .int .i64 e.to, .int .i64 e.md] 27)).alloc (.cells #[.int .i64 0, .slice none 0 0, .slice none 0 0] 25) = w0 at *
        refine (HF1.out _ _ _ _ H0.out).mono ?_
        rintro e1 w1 ⟨rfl, hb⟩
        have H1 := Lib.hid (H0.out.below hb)
        clear hb H0 HF1
        obtain ⟨x0, x1, x2, -, xl⟩ := H1.out.db
        obtain ⟨y0, y1, y2, y3, yl⟩ := H1.out.eb
        go_wp2_with fail
        refine (HF2.out _ _ _ _ H1.out).mono ?_
        rintro e1 w2 ⟨rfl, hb⟩
        have H2 := Lib.hid (H1.out.below hb)
        clear hb H1 HF2 x0 x1 x2 xl y0 y1 y2 y3 yl
        obtain ⟨g, hgA⟩ := own_addr H2.out.ol (by omega)
        have HGA := Lib.hid hgA
        obtain ⟨b, o, hA, hbl, c0, c1, c2⟩ := H2.out.dr.pl.atg hil
        obtain ⟨x0, x1, x2, -, xl⟩ := H2.out.db
        obtain ⟨y0, y1, y2, y3, yl⟩ := H2.out.eb
        rw [hgA] at hA x1
        injection hA with hA
        injection hA with e1 e2
        subst e1; subst e2
        clear hgA
        rw [Nat.zero_add] at c0 c1 c2
        have H3 := Lib.hid (H2.out.below ((Below.refl _ _).alloc (Nat.le_refl _) (.cells #[.int .i64 (sg d.l i).lo, .int .i64 (sg d.l i).hi, .int .i64 (sg d.l i).sh] 43)))
        obtain ⟨s, hs⟩ : ∃ s, s = w2.heap.size := ⟨_, rfl⟩
        have S3 := Lib.hid (show (w2.alloc (.cells #[.int .i64 (sg d.l i).lo, .int .i64 (sg d.l i).hi, .int .i64 (sg d.l i).sh] 43)).cell? ⟨s, 1, none⟩ = some (.int .i64 (sg d.l i).hi) ∧ s < (w2.alloc (.cells #[.int .i64 (sg d.l i).lo, .int .i64 (sg d.l i).hi, .int .i64 (sg d.l i).sh] 43)).heap.size ∧ (s ≠ p ∧ s ≠ q ∧ s ≠ r ∧ s ≠ g) ∧ ∀ k, (Value.slice X.A2 d.F.length X.c2).ownBlock = some k → k ≠ s from by
          have h1 := H2.out.db.lt
          have h2 := H2.out.eb.lt
          have h3 := H2.out.rb.lt
          refine ⟨by rw [hs]; simp [go_sem], by rw [hs]; simp, by omega, fun k hk => ?_⟩
          have := (H2.out.of.lt k hk).2
          omega)
        have HSN := Lib.hid hs
        clear hs
        go_wp2_with fail
        rw [← HSN.out]
        generalize w2.alloc (.cells #[.int .i64 (sg d.l i).lo, .int .i64 (sg d.l i).hi, .int .i64 (sg d.l i).sh] 43) = w3 at *
        clear x0 x1 x2 xl y0 y1 y2 y3 yl c0 c1 c2 hbl HSN
        refine (HWI.out _).mono ?_
        rintro e1 w4 ⟨rfl, hw⟩
        subst hw
        obtain ⟨x0, x1, x2, xf, xl⟩ := H3.out.db
        obtain ⟨y0, y1, y2, y3, yl⟩ := H3.out.eb
        have ho := H3.out.ol
        rw [HGA.out] at ho x1
        obtain ⟨c1, cf⟩ : w3.cell? ⟨g, i * 3 + 1, none⟩ = some (.int .i64 (sg d.l i).hi) ∧ w3.frozen? ⟨g, i * 3 + 1, none⟩ = false := by
          obtain ⟨b, o, hA, -, -, c1, -⟩ := H3.out.dr.pl.atg hil
          rw [HGA.out] at hA
          injection hA with hA
          injection hA with e1 e2
          subst e1; subst e2
          rw [Nat.zero_add] at c1
          exact ⟨c1, ho.frozenAt _⟩
        have hglt := (ho.lt g rfl).2
        clear ho
        have H5 := Lib.hid (H3.out.setL HGA.out (i * 3 + 1) (.int .i64 e.md) (l' := d.l.set i ⟨(sg d.l i).lo, e.md, (sg d.l i).sh⟩) (by simp) HS1.out)
        go_upto_region 8 with (fail)
        clear x0 x1 x2 xf xl y0 y1 y2 y3 yl c1 cf hglt
        have S5 := Lib.hid (show (w3.setCell ⟨g, i * 3 + 1, none⟩ (.int .i64 e.md)).cell? ⟨s, 1, none⟩ = some (.int .i64 (sg d.l i).hi) from by
          rw [World.cell?_setCell_other _ _ _ _ (fun e' => S3.out.2.2.1.2.2.2 (by injection e' with e'; exact e'.symm))]; exact S3.out.1)
        generalize w3.setCell ⟨g, i * 3 + 1, none⟩ (.int .i64 e.md) = w5 at *
        obtain ⟨l', hl'⟩ : ∃ l', l' = d.l.set i ⟨(sg d.l i).lo, e.md, (sg d.l i).sh⟩ := ⟨_, rfl⟩
        have hll : l'.length = d.l.length := by rw [hl']; simp
        rw [← hl'] at H5 HEQ
        clear hl' H3 HS1 S3
        generalize sg d.l i = M at *
        have hb6 : Below w5.heap.size w5 (w5.alloc (.cells #[.int .i64 (e.md + 1), .int .i64 M.hi, .int .i64 e.to] 43)) := (Below.refl _ _).alloc (Nat.le_refl _) _
        have H6 := Lib.hid (H5.out.below hb6)
        have hl90 := HHL.out
        have HIN := Lib.hid (sinsert_any base w5.heap.size (.slice (some ⟨g, 0, none⟩) l'.length X.c) l' (i + 1) ⟨e.md + 1, M.hi, e.to⟩ (w5.alloc (.cells #[.int .i64 (e.md + 1), .int .i64 M.hi, .int .i64 e.to] 43)) (by omega) (by omega) (by have := H6.out.ol; rw [HGA.out] at this; exact this) (Nat.le_trans H5.out.pq.1 (Nat.le_trans H5.out.bel.size hb6.size)) (by simpa [Sp.l] using Rw.fresh w5 #[.int .i64 (e.md + 1), .int .i64 M.hi, .int .i64 e.to] 43) (fun h => by
          have hh := (H5.out.ol.lt g (by rw [HGA.out]; rfl)).2
          injection h with h
          simp at h
          omega))
        rw [show ((i + 1 : Nat) : Int) = (i : Int) + 1 by omega] at HIN
        have x1 : w5.cell? ⟨p, 1, none⟩ = some (.slice X.A l'.length X.c) := H5.out.db.c1
        have xl : p < w5.heap.size := H5.out.db.lt
        obtain ⟨y0, y1, y2, y3, yl⟩ := H5.out.eb
        have s1 := S5.out
        rw [HGA.out] at x1
        have HLL := Lib.hid hll
        clear hb6 hg1 hg2 hg3 hl90 hll
        go_wp2_with fail
        clear x1 xl y0 y1 y2 y3 yl s1 S5 H5 hwm hwi
        generalize w5.alloc (.cells #[.int .i64 (e.md + 1), .int .i64 M.hi, .int .i64 e.to] 43) = w6 at *
        refine HIN.out.mono ?_
        rintro e1 w7 ⟨A, c, rfl, hown, hgr, hnb⟩
        clear HIN
        obtain ⟨l2, hl2⟩ : ∃ l2, l2 = l'.take (i + 1) ++ ⟨e.md + 1, M.hi, e.to⟩ :: l'.drop (i + 1) := ⟨_, rfl⟩
        have hl3 : l2.length = l'.length + 1 := by have := HLL.out; rw [hl2]; simp; omega
        have HL2 := Lib.hid (show l2 = spL d.l i e from by rw [hl2]; exact HEQ.out)
        rw [← hl2, ← hl3] at hown
        rw [← hl3] at hnb ⊢
        have H8 := Lib.hid (H6.out.newL HGA.out hgr hown hnb)
        have x1 : w7.cell? ⟨p, 1, none⟩ = some (.slice X.A l'.length X.c) := (H6.out.db.grown hgr (fun e' => (H6.out.ll g (by rw [HGA.out]; rfl)).1 e'.symm)).c1
        have xf := (H6.out.db.grown hgr (fun e' => (H6.out.ll g (by rw [HGA.out]; rfl)).1 e'.symm)).fr 1
        have xl := (H6.out.db.grown hgr (fun e' => (H6.out.ll g (by rw [HGA.out]; rfl)).1 e'.symm)).lt
        clear hown hgr hnb hl2 hl3 H6 HEQ
        go_upto_region 9 with (fail)
        clear x1 xf xl
        generalize w7.setCell ⟨p, 1, none⟩ (.slice A l2.length c) = w8 at *
        obtain ⟨t, ht⟩ := Int.eq_ofNat_of_zero_le HTO.out.1
        have htl : t < d.F.length := by have := HTO.out.2; omega
        have htl' : (t : Int) < (d.F.length : Int) := by omega
        obtain ⟨gF, hgF⟩ := own_addr H8.out.of (show 0 < d.F.length by omega)
        have HGF := Lib.hid hgF
        have x2 : w8.cell? ⟨p, 2, none⟩ = some (.slice X.A2 d.F.length X.c2) := H8.out.db.c2
        have xl : p < w8.heap.size := H8.out.db.lt
        have y2 := H8.out.eb.c2
        have hoF := H8.out.of
        obtain ⟨b, o, hA, hbl, c0⟩ := H8.out.dr.fl.atg htl
        dsimp only at hgF hoF hA c0
        rw [hgF] at x2 hA hoF
        injection hA with hA
        injection hA with e1 e2
        subst e1; subst e2
        rw [Nat.zero_add] at c0
        have cf := hoF.frozenAt t
        rw [ht] at y2
        have HT := Lib.hid ht
        clear hgF hoF ht
        have H9 := Lib.hid (H8.out.setF HGF.out t (-1))
        go_upto_region 10 with (fail)
        clear x2 xl y2 c0 cf hbl H8
        generalize w8.setCell ⟨gF, t, none⟩ (.int .i64 (-1)) = w9 at *
        have HO := Lib.hid (H9.out.out 0)
        obtain ⟨x0, x1, x2, -, xl⟩ := H9.out.db
        obtain ⟨⟨r0, r1, r2, rl⟩, g0, g1, g2⟩ := H9.out.rb.all
        obtain ⟨-, hpq, hqp, hpr, hrp, hqr, hrq⟩ := HPP.out
        dsimp only at x0 x1 x2
        have hfl : (d.F.set t (-1)).length = d.F.length := by simp
        have HDD := Lib.hid (show Dd.mk d.vn l2 (d.F.set t (-1)) = R from by rw [HRE.out.2, HL2.out, HT.out]; rfl)
        have HFL := Lib.hid hfl
        generalize d.F.set t (-1) = F2 at *
        clear hfl
        go_wp2
        exact bodyPost_ret (v := .tuple #[.agg #[.int .i64 d.vn, .slice A l2.length c, .slice X.A2 F2.length X.c2], .int .i64 0]) (by simp only [results, Try.results40]; go_simp <;> rfl) rfl (by rw [HRE.out.1, ← HDD.out]; exact HO.out)
      · have HRE := Lib.hid (show x = 1 ∧ R = zD10 from by
          have h7 : spE d e = 1 := spE_1 h1 h2' (by rw [hi]; exact h3)
          exact ⟨HRX.out.2.trans h7, by rw [HRX.out.1, if_neg (by rw [h7]; decide)]⟩)
        rw [show wiR e.md (sg d.l i).lo ((sg d.l i).hi - 1) = false from decide_eq_false (fun h => h3 ⟨h.1, by omega⟩)] at HWI
        have hsub : IntKind.i64.wrap ((sg d.l i).hi - 1) = (sg d.l i).hi - 1 := IntWalk.i64_in _ (by omega)
        have hil' : (i : Int) < (d.l.length : Int) := by omega
        obtain ⟨hg1, hg2, hg3⟩ := hgt
        clear h1 h2 h2' hix2 hi hish h3 hrg
        go_enter Try.func40, Try.ntmps40
        go_wp2_with fail
        have H0 := Lib.hid (show Sb w base p q r d X e (((w.alloc (.cells #[.int .i64 d.vn, .slice X.A d.l.length X.c, .slice X.A2 d.F.length X.c2] 25)).alloc (.cells #[.int .i64 e.kd, .int .i64 e.fr, .int .i64 e.to, .int .i64 e.md] 27)).alloc (.cells #[.int .i64 0, .slice none 0 0, .slice none 0 0] 25)) from by rw [HPP.out.1.1, HPP.out.1.2.1, HPP.out.1.2.2]; exact H0.out)
        rw [← HPP.out.1.2.2, ← HPP.out.1.2.1, ← HPP.out.1.1]
        generalize ((w.alloc (.cells #[.int .i64 d.vn, .slice X.A d.l.length X.c, .slice X.A2 d.F.length X.c2] 25)).alloc (.cells #[.int .i64 e.kd, .int .i64 e.fr, .int .i64 e.to, .int .i64 e.md] 27)).alloc (.cells #[.int .i64 0, .slice none 0 0, .slice none 0 0] 25) = w0 at *
        refine (HF1.out _ _ _ _ H0.out).mono ?_
        rintro e1 w1 ⟨rfl, hb⟩
        have H1 := Lib.hid (H0.out.below hb)
        clear hb H0 HF1
        obtain ⟨x0, x1, x2, -, xl⟩ := H1.out.db
        obtain ⟨y0, y1, y2, y3, yl⟩ := H1.out.eb
        go_wp2_with fail
        refine (HF2.out _ _ _ _ H1.out).mono ?_
        rintro e1 w2 ⟨rfl, hb⟩
        have H2 := Lib.hid (H1.out.below hb)
        clear hb H1 HF2 x0 x1 x2 xl y0 y1 y2 y3 yl
        obtain ⟨b, o, hA, hbl, c0, c1, c2⟩ := H2.out.dr.pl.atg hil
        obtain ⟨x0, x1, x2, -, xl⟩ := H2.out.db
        obtain ⟨y0, y1, y2, y3, yl⟩ := H2.out.eb
        rw [hA] at x1
        clear hA
        have H3 := Lib.hid (H2.out.below ((Below.refl _ _).alloc (Nat.le_refl _) (.cells #[.int .i64 (sg d.l i).lo, .int .i64 (sg d.l i).hi, .int .i64 (sg d.l i).sh] 43)))
        generalize sg d.l i = M at *
        go_wp2_with fail
        clear x0 x1 x2 xl y0 y1 y2 y3 yl c0 c1 c2 hbl
        generalize w2.alloc (.cells #[.int .i64 M.lo, .int .i64 M.hi, .int .i64 M.sh] 43) = w3 at *
        refine (HWI.out _).mono ?_
        rintro e1 w4 ⟨rfl, hw⟩
        subst hw
        obtain ⟨⟨r0, r1, r2, rl⟩, g0, g1, g2⟩ := H3.out.rb.all
        have HO := Lib.hid (H3.out.out0 1)
        go_wp2
        exact bodyPost_ret (v := .tuple #[.agg #[.int .i64 0, .slice none 0 0, .slice none 0 0], .int .i64 1]) (by simp only [results, Try.results40]; go_simp <;> rfl) rfl (by rw [HRE.out.1, HRE.out.2]; exact HO.out)
  · have HRE := Lib.hid (show x = 7 ∧ R = zD10 from by
      have h7 : spE d e = 7 := spE_7 (.inl (by omega))
      exact ⟨HRX.out.2.trans h7, by rw [HRX.out.1, if_neg (by rw [h7]; decide)]⟩)
    rw [(ixS_neg h1).1] at HF1
    clear h1 hrg HF2
    go_enter Try.func40, Try.ntmps40
    go_wp2_with fail
    have H0 := Lib.hid (show Sb w base p q r d X e (((w.alloc (.cells #[.int .i64 d.vn, .slice X.A d.l.length X.c, .slice X.A2 d.F.length X.c2] 25)).alloc (.cells #[.int .i64 e.kd, .int .i64 e.fr, .int .i64 e.to, .int .i64 e.md] 27)).alloc (.cells #[.int .i64 0, .slice none 0 0, .slice none 0 0] 25)) from by rw [HPP.out.1.1, HPP.out.1.2.1, HPP.out.1.2.2]; exact H0.out)
    rw [← HPP.out.1.2.2, ← HPP.out.1.2.1, ← HPP.out.1.1]
    generalize ((w.alloc (.cells #[.int .i64 d.vn, .slice X.A d.l.length X.c, .slice X.A2 d.F.length X.c2] 25)).alloc (.cells #[.int .i64 e.kd, .int .i64 e.fr, .int .i64 e.to, .int .i64 e.md] 27)).alloc (.cells #[.int .i64 0, .slice none 0 0, .slice none 0 0] 25) = w0 at *
    refine (HF1.out _ _ _ _ H0.out).mono ?_
    rintro e1 w1 ⟨rfl, hb⟩
    have H1 := Lib.hid (H0.out.below hb)
    clear hb H0 HF1
    obtain ⟨⟨r0, r1, r2, rl⟩, g0, g1, g2⟩ := H1.out.rb.all
    have HO := Lib.hid (H1.out.out0 7)
    go_wp2
    exact bodyPost_ret (v := .tuple #[.agg #[.int .i64 0, .slice none 0 0, .slice none 0 0], .int .i64 7]) (by simp only [results, Try.results40]; go_simp <;> rfl) rfl (by rw [HRE.out.1, HRE.out.2]; exact HO.out)
end Go.Proofs.Ytfkpkmcpepeaeaa
