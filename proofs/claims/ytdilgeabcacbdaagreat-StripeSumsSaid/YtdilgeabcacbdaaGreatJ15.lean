/- What is proved here: Rlb; due.Validate and slices.Clone of deadlines by contracts; due.siftUp by a contract; due.siftDown by a contract. -/
import Derived.Test.YtdilgeabcacbdaaGreatJ14
import Derived.Test.YtdilgeabcacbdaaGreatJ12
import Derived.WalkSpells
import Derived.Test.YtdilgeabcacbdaaGreatJ13
import Derived.BigRegion
import Derived.Deep.CutRange
import Derived.Deep.QuietTactic
import Derived.BigQuiet
import Derived.Deep.DeepCutAuto
/- Plain: a box of a lease that may be written; Find's answers. -/
namespace Go.Proofs.YtdilgeabcacbdaaGreat
open Go.RowKit
set_option linter.unusedVariables false

/-- A box of a lease that may be written. -/
abbrev RL (W : World) (r : Nat) (X : Le) : Prop := W.cell? ⟨r, 0, none⟩ = some (.int .i64 X.m.id) ∧ W.cell? ⟨r, 1, none⟩ = some (.int .i64 X.m.rt) ∧ W.cell? ⟨r, 2, none⟩ = some (.int .i64 X.m.ep) ∧ W.cell? ⟨r, 3, none⟩ = some (.int .i64 X.m.ct) ∧ W.cell? ⟨r, 4, none⟩ = some (.int .i64 X.m.gn) ∧ W.cell? ⟨r, 5, none⟩ = some (.int .i64 X.m.st) ∧ W.cell? ⟨r, 6, none⟩ = some (.string X.m.bd) ∧ W.cell? ⟨r, 7, none⟩ = some (.int .i64 X.dl) ∧ W.frozen? ⟨r, 0, none⟩ = false ∧ W.frozen? ⟨r, 1, none⟩ = false ∧ W.frozen? ⟨r, 2, none⟩ = false ∧ W.frozen? ⟨r, 3, none⟩ = false ∧ W.frozen? ⟨r, 4, none⟩ = false ∧ W.frozen? ⟨r, 5, none⟩ = false ∧ W.frozen? ⟨r, 6, none⟩ = false ∧ W.frozen? ⟨r, 7, none⟩ = false ∧ r < W.heap.size
theorem RL.below {B : Nat} {W W' : World} {r : Nat} {X : Le} (h : RL W r X) (hb : Below B W W') (hr : r < B) : RL W' r X :=
  ⟨(hb.cell (p := ⟨r, 0, none⟩) hr).trans h.1, (hb.cell (p := ⟨r, 1, none⟩) hr).trans h.2.1, (hb.cell (p := ⟨r, 2, none⟩) hr).trans h.2.2.1, (hb.cell (p := ⟨r, 3, none⟩) hr).trans h.2.2.2.1, (hb.cell (p := ⟨r, 4, none⟩) hr).trans h.2.2.2.2.1, (hb.cell (p := ⟨r, 5, none⟩) hr).trans h.2.2.2.2.2.1, (hb.cell (p := ⟨r, 6, none⟩) hr).trans h.2.2.2.2.2.2.1, (hb.cell (p := ⟨r, 7, none⟩) hr).trans h.2.2.2.2.2.2.2.1, (hb.frozen (p := ⟨r, 0, none⟩) hr).trans h.2.2.2.2.2.2.2.2.1, (hb.frozen (p := ⟨r, 1, none⟩) hr).trans h.2.2.2.2.2.2.2.2.2.1, (hb.frozen (p := ⟨r, 2, none⟩) hr).trans h.2.2.2.2.2.2.2.2.2.2.1, (hb.frozen (p := ⟨r, 3, none⟩) hr).trans h.2.2.2.2.2.2.2.2.2.2.2.1, (hb.frozen (p := ⟨r, 4, none⟩) hr).trans h.2.2.2.2.2.2.2.2.2.2.2.2.1, (hb.frozen (p := ⟨r, 5, none⟩) hr).trans h.2.2.2.2.2.2.2.2.2.2.2.2.2.1, (hb.frozen (p := ⟨r, 6, none⟩) hr).trans h.2.2.2.2.2.2.2.2.2.2.2.2.2.2.1, (hb.frozen (p := ⟨r, 7, none⟩) hr).trans h.2.2.2.2.2.2.2.2.2.2.2.2.2.2.2.1, Nat.lt_of_lt_of_le h.2.2.2.2.2.2.2.2.2.2.2.2.2.2.2.2 hb.size⟩
theorem RL.lt {W : World} {r : Nat} {X : Le} (h : RL W r X) : r < W.heap.size := h.2.2.2.2.2.2.2.2.2.2.2.2.2.2.2.2
theorem RL.start (w : World) (X : Le) (t : TypeId) : RL (w.alloc (.cells #[.int .i64 X.m.id, .int .i64 X.m.rt, .int .i64 X.m.ep, .int .i64 X.m.ct, .int .i64 X.m.gn, .int .i64 X.m.st, .string X.m.bd, .int .i64 X.dl] t)) w.heap.size X :=
  ⟨by simp [go_sem], by simp [go_sem], by simp [go_sem], by simp [go_sem], by simp [go_sem], by simp [go_sem], by simp [go_sem], by simp [go_sem], by simp [go_sem], by simp [go_sem], by simp [go_sem], by simp [go_sem], by simp [go_sem], by simp [go_sem], by simp [go_sem], by simp [go_sem], by simp⟩
end Go.Proofs.YtdilgeabcacbdaaGreat
namespace Go.Proofs.YtdilgeabcacbdaaGreat
open Go.RowKit
set_option linter.unusedVariables false

set_option maxHeartbeats 2000000 in
theorem dvalid_any (A : Option Addr) (n c : Nat) (l : List Du) (w : World) (hv : Dl w w.heap.size (.slice A n c) l) :
    Calls Tryz.prog 78 #[.slice A n c] w fun e w' => e = .returned (.int .i64 (vaF l)) ∧ Below w.heap.size w w' := by
  obtain ⟨rfl, hm1, hm2⟩ := hv.len
  have HV := Lib.hid hv
  have HB := Lib.hid (Below.refl w.heap.size w)
  have H1 := Lib.hid (fun w1 hv => dcontains_any A l.length c l w1 hv)
  have H2 := Lib.hid (fun w1 hv => dsame_any A l.length c l w1 hv)
  have H3 := Lib.hid (fun h w1 hv => dordered_any A l.length c l w1 hv h)
  clear hv hm1 hm2
  by_cases h12 : 12 < l.length
  · have HR := Lib.hid (vaF_2 h12)
    have h12' : (12 : Int) < (l.length : Int) := by omega
    go_enter Tryz.func78, Tryz.ntmps78
    go_wp2
    go_ret
    exact ⟨by rw [HR.out]; rfl, HB.out⟩
  · have h12' : ¬ (12 : Int) < (l.length : Int) := by omega
    have H3 := Lib.hid (H3.out (by omega))
    have HL := Lib.hid (show l.length ≤ 12 by omega)
    have HC := Lib.hid (fun a b d => And.intro (vaF_1 (h := l) HL.out) (And.intro (fun x => vaF_10 (h := l) HL.out x a) (And.intro (fun x y => vaF_11 (h := l) HL.out x y b) (fun x y => vaF_0 (h := l) HL.out x y d))))
    cases hs : snD l with
    | false =>
      have HR := Lib.hid (vaF_1 (h := l) HL.out hs)
      rw [hs] at H1
      go_enter Tryz.func78, Tryz.ntmps78
      go_wp2_with fail
      refine (H1.out _ HV.out).mono ?_
      rintro e w1 ⟨rfl, hb⟩
      have HB1 := Lib.hid hb
      clear hb
      go_wp2
      go_ret
      exact ⟨by rw [HR.out]; rfl, HB1.out⟩
    | true =>
      rw [hs] at H1
      cases hd : dpD l with
      | true =>
        have HR := Lib.hid (vaF_10 (h := l) HL.out hs hd)
        rw [hd] at H2
        go_enter Tryz.func78, Tryz.ntmps78
        go_wp2_with fail
        refine (H1.out _ HV.out).mono ?_
        rintro e w1 ⟨rfl, hb⟩
        have HB1 := Lib.hid hb
        clear hb
        go_wp2_with fail
        refine (H2.out _ (HV.out.up HB1.out)).mono ?_
        rintro e w2 ⟨rfl, hb⟩
        have HB2 := Lib.hid (HB1.out.trans (hb.mono HB1.out.size))
        clear hb
        go_wp2
        go_ret
        exact ⟨by rw [HR.out]; rfl, HB2.out⟩
      | false =>
        rw [hd] at H2
        cases ho : hpD l with
        | false =>
          have HR := Lib.hid (vaF_11 (h := l) HL.out hs hd ho)
          rw [ho] at H3
          go_enter Tryz.func78, Tryz.ntmps78
          go_wp2_with fail
          refine (H1.out _ HV.out).mono ?_
          rintro e w1 ⟨rfl, hb⟩
          have HB1 := Lib.hid hb
          clear hb
          go_wp2_with fail
          refine (H2.out _ (HV.out.up HB1.out)).mono ?_
          rintro e w2 ⟨rfl, hb⟩
          have HB2 := Lib.hid (HB1.out.trans (hb.mono HB1.out.size))
          clear hb
          go_wp2_with fail
          refine (H3.out _ (HV.out.up HB2.out)).mono ?_
          rintro e w3 ⟨rfl, hb⟩
          have HB3 := Lib.hid (HB2.out.trans (hb.mono HB2.out.size))
          clear hb
          go_wp2
          go_ret
          exact ⟨by rw [HR.out]; rfl, HB3.out⟩
        | true =>
          have HR := Lib.hid (vaF_0 (h := l) HL.out hs hd ho)
          rw [ho] at H3
          go_enter Tryz.func78, Tryz.ntmps78
          go_wp2_with fail
          refine (H1.out _ HV.out).mono ?_
          rintro e w1 ⟨rfl, hb⟩
          have HB1 := Lib.hid hb
          clear hb
          go_wp2_with fail
          refine (H2.out _ (HV.out.up HB1.out)).mono ?_
          rintro e w2 ⟨rfl, hb⟩
          have HB2 := Lib.hid (HB1.out.trans (hb.mono HB1.out.size))
          clear hb
          go_wp2_with fail
          refine (H3.out _ (HV.out.up HB2.out)).mono ?_
          rintro e w3 ⟨rfl, hb⟩
          have HB3 := Lib.hid (HB2.out.trans (hb.mono HB2.out.size))
          clear hb
          go_wp2
          go_ret
          exact ⟨by rw [HR.out]; rfl, HB3.out⟩

theorem info_due : (Tryz.prog.info? 88).map (fun i => (i.zero, i.size, i.bytes)) = some (some (.agg #[.int .i64 0, .int .i64 0]), 2, 16) := by kernel_rfl
end Go.Proofs.YtdilgeabcacbdaaGreat
namespace Go.Proofs.YtdilgeabcacbdaaGreat
open Go.RowKit
set_option linter.unusedVariables false

/-- A row of elements in a block that may be written, behind a walk that turned nothing before the block. -/
structure RwAt (w : World) (q n : Nat) (h : List Du) (W : World) : Prop where
  row : DRow W q n (ge h)
  len : h.length = n
  bel : Below q w W
section
variable {w W W' : World} {q n : Nat} {h : List Du}
theorem RwAt.below (r : RwAt w q n h W) (hb : Below W.heap.size W W') : RwAt w q n h W' := ⟨r.row.below hb r.row.1, r.len, r.bel.trans (hb.mono (Nat.le_of_lt r.row.1))⟩
theorem RwAt.drew (r : RwAt w q n h W) : RwAt w q n h W.drew := ⟨r.row.drew, r.len, r.bel.drew⟩
theorem RwAt.drewN (r : RwAt w q n h W) (k : Nat) : RwAt w q n h (W.drewN k) := ⟨r.row, r.len, ⟨r.bel.os, r.bel.tape, r.bel.output, r.bel.size, r.bel.block⟩⟩
/-- Two elements are exchanged. -/
theorem RwAt.swap (r : RwAt w q n h W) {i k : Nat} (hi : i < n) (hk : k < n) : RwAt w q n (swp h i k) ((((W.setCell ⟨q, i * 2, none⟩ (.int .i64 (ge h k).dl)).setCell ⟨q, i * 2 + 1, none⟩ (.int .i64 (ge h k).id)).setCell ⟨q, k * 2, none⟩ (.int .i64 (ge h i).dl)).setCell ⟨q, k * 2 + 1, none⟩ (.int .i64 (ge h i).id)) := by
  refine ⟨((r.row.put hi (ge h k)).put hk (ge h i)).congr fun t ht => ?_, by rw [swp_len]; exact r.len, (((r.bel.setCell (p := ⟨q, i * 2, none⟩) (Nat.le_refl _) _).setCell (p := ⟨q, i * 2 + 1, none⟩) (Nat.le_refl _) _).setCell (p := ⟨q, k * 2, none⟩) (Nat.le_refl _) _).setCell (p := ⟨q, k * 2 + 1, none⟩) (Nat.le_refl _) _⟩
  rw [ge_swp (by rw [r.len]; exact hi) (by rw [r.len]; exact hk)]
end

end Go.Proofs.YtdilgeabcacbdaaGreat
namespace Go.Proofs.YtdilgeabcacbdaaGreat
open Go.RowKit
set_option linter.unusedVariables false

end Go.Proofs.YtdilgeabcacbdaaGreat
