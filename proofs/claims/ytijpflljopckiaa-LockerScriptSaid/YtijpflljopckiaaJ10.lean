/- What is proved here: due.hasSameID, due.isOrdered, due.Validate by contracts; shardqueueref06.Validate by a contract; Rlb; due.Validate and slices.Clone of deadlines by contracts; due.siftUp by a contract. -/
import Derived.Test.YtijpflljopckiaaJ09
import Derived.Laws.Slices
import Derived.Deep.QuietTactic
import Derived.BigQuiet
import Derived.Deep.RegionHeld3
import Derived.Test.YtijpflljopckiaaJ08
import Derived.WalkSpells
import Derived.BigRegion
namespace Go.Proofs.Ytijpflljopckiaa
open Go.RowKit
set_option linter.unusedVariables false

section
variable {w : World} {B : Nat} {A : Option Addr} {n c : Nat} {l : List Du}
theorem Dl.upto (h : Dl w B (.slice A n c) l) (j : Nat) (hj : j ≤ n) : Dl w B (.slice A j c) (l.take j) := by
  obtain ⟨hn, hl, hm⟩ := h.len
  have hlen : (l.take j).length = j := by simp; omega
  refine ⟨A, c, by rw [hlen], by rw [hlen]; omega, hm, by rw [dcs_len], fun h0 => ?_⟩
  rw [hlen] at h0
  obtain ⟨b, o, rfl, hb, hc⟩ := h.rd.2 (by omega)
  refine ⟨b, o, rfl, hb, fun k u hu => hc k u ?_⟩
  rw [← dcs_take] at hu
  have hk : k < j * 2 := by
    have := (List.getElem?_eq_some_iff.1 hu).1
    simp at this; omega
  rw [← hu, List.getElem?_take_of_lt hk]
end
end Go.Proofs.Ytijpflljopckiaa
namespace Go.Proofs.Ytijpflljopckiaa
open Go.RowKit
set_option linter.unusedVariables false

theorem El.some_ {w : World} {B n c : Nat} {A : Option Addr} {l : List Le} (h : El w B (.slice A n c) l) (h0 : 0 < l.length) : ∃ b o, A = some ⟨b, o, none⟩ ∧ b < B := by
  obtain ⟨b, o, e, hb, _⟩ := h.at_ h0
  exact ⟨b, o, e, hb⟩
theorem El.c8 {w : World} {B n c b o : Nat} {l : List Le} (h : El w B (.slice (some ⟨b, o, none⟩) n c) l) {k : Nat} (hk : k < l.length) : C8 w b (o + k * 8) l[k] ∧ b < B := by
  obtain ⟨b', o', e, hb, h⟩ := h.at_ hk
  injection e with e
  injection e with e1 e2
  subst e1 e2
  exact ⟨h, hb⟩
theorem El.up {w w' : World} {v : Value} {l : List Le} (h : El w w.heap.size v l) (hb : Below w.heap.size w w') : El w' w'.heap.size v l := (h.below hb).more hb.size
/-- A table in a box, beside what was there. -/
structure VaA (w : World) (p : Nat) (A : Option Addr) (c : Nat) (l : List Le) (A2 : Option Addr) (c2 : Nat) (h : List Du) (W : World) : Prop where
  tb : TB W p A l.length c A2 h.length c2
  el : El W W.heap.size (.slice A l.length c) l
  dl : Dl W W.heap.size (.slice A2 h.length c2) h
  bel : Below w.heap.size w W
section
variable {w W W' : World} {p c c2 : Nat} {A A2 : Option Addr} {l : List Le} {h : List Du}
theorem VaA.below (k : VaA w p A c l A2 c2 h W) (hb : Below W.heap.size W W') : VaA w p A c l A2 c2 h W' :=
  ⟨k.tb.below hb k.tb.2.2, k.el.up hb, k.dl.up hb, k.bel.trans (hb.mono k.bel.size)⟩
theorem VaA.alloc (k : VaA w p A c l A2 c2 h W) (o : Obj) : VaA w p A c l A2 c2 h (W.alloc o) := k.below ((Below.refl W.heap.size W).alloc (Nat.le_refl _) o)
theorem VaA.start (t : TypeId) (hv : El w w.heap.size (.slice A l.length c) l) (hd : Dl w w.heap.size (.slice A2 h.length c2) h) : VaA w w.heap.size A c l A2 c2 h (w.alloc (.cells #[.slice A l.length c, .slice A2 h.length c2] t)) := by
  have hb := (Below.refl w.heap.size w).alloc (Nat.le_refl _) (.cells #[.slice A l.length c, .slice A2 h.length c2] t)
  exact ⟨TB.start w A l.length c A2 h.length c2 t, hv.up hb, hd.up hb, hb⟩
end
/-- What is read of a lease in its box. -/
abbrev XB (W : World) (q : Nat) (X : Le) : Prop := W.cell? ⟨q, 0, none⟩ = some (.int .i64 X.m.id) ∧ W.cell? ⟨q, 4, none⟩ = some (.int .i64 X.m.gn) ∧ W.cell? ⟨q, 7, none⟩ = some (.int .i64 X.dl) ∧ q < W.heap.size
theorem XB.start (w : World) (X : Le) (t : TypeId) : XB (w.alloc (.cells #[.int .i64 X.m.id, .int .i64 X.m.rt, .int .i64 X.m.ep, .int .i64 X.m.ct, .int .i64 X.m.gn, .int .i64 X.m.st, .string X.m.bd, .int .i64 X.dl] t)) w.heap.size X :=
  ⟨by simp [go_sem], by simp [go_sem], by simp [go_sem], by simp⟩
theorem XB.below {B : Nat} {W W' : World} {q : Nat} {X : Le} (h : XB W q X) (hb : Below B W W') (hq : q < B) : XB W' q X :=
  ⟨(hb.cell (p := ⟨q, 0, none⟩) hq).trans h.1, (hb.cell (p := ⟨q, 4, none⟩) hq).trans h.2.1, (hb.cell (p := ⟨q, 7, none⟩) hq).trans h.2.2.1, Nat.lt_of_lt_of_le h.2.2.2 hb.size⟩
theorem VaA.drewN {w W : World} {p c c2 : Nat} {A A2 : Option Addr} {l : List Le} {h : List Du} (k : VaA w p A c l A2 c2 h W) (n : Nat) : VaA w p A c l A2 c2 h (W.drewN n) := k.below (below_drewN (Below.refl _ _) n)

end Go.Proofs.Ytijpflljopckiaa
/- Plain: a box of a lease that may be written; Find's answers. -/
namespace Go.Proofs.Ytijpflljopckiaa
open Go.RowKit
set_option linter.unusedVariables false

/-- A box of a lease that may be written. -/
abbrev RL (W : World) (r : Nat) (X : Le) : Prop := W.cell? ⟨r, 0, none⟩ = some (.int .i64 X.m.id) ∧ W.cell? ⟨r, 1, none⟩ = some (.int .i64 X.m.rt) ∧ W.cell? ⟨r, 2, none⟩ = some (.int .i64 X.m.ep) ∧ W.cell? ⟨r, 3, none⟩ = some (.int .i64 X.m.ct) ∧ W.cell? ⟨r, 4, none⟩ = some (.int .i64 X.m.gn) ∧ W.cell? ⟨r, 5, none⟩ = some (.int .i64 X.m.st) ∧ W.cell? ⟨r, 6, none⟩ = some (.string X.m.bd) ∧ W.cell? ⟨r, 7, none⟩ = some (.int .i64 X.dl) ∧ W.frozen? ⟨r, 0, none⟩ = false ∧ W.frozen? ⟨r, 1, none⟩ = false ∧ W.frozen? ⟨r, 2, none⟩ = false ∧ W.frozen? ⟨r, 3, none⟩ = false ∧ W.frozen? ⟨r, 4, none⟩ = false ∧ W.frozen? ⟨r, 5, none⟩ = false ∧ W.frozen? ⟨r, 6, none⟩ = false ∧ W.frozen? ⟨r, 7, none⟩ = false ∧ r < W.heap.size
theorem RL.below {B : Nat} {W W' : World} {r : Nat} {X : Le} (h : RL W r X) (hb : Below B W W') (hr : r < B) : RL W' r X :=
  ⟨(hb.cell (p := ⟨r, 0, none⟩) hr).trans h.1, (hb.cell (p := ⟨r, 1, none⟩) hr).trans h.2.1, (hb.cell (p := ⟨r, 2, none⟩) hr).trans h.2.2.1, (hb.cell (p := ⟨r, 3, none⟩) hr).trans h.2.2.2.1, (hb.cell (p := ⟨r, 4, none⟩) hr).trans h.2.2.2.2.1, (hb.cell (p := ⟨r, 5, none⟩) hr).trans h.2.2.2.2.2.1, (hb.cell (p := ⟨r, 6, none⟩) hr).trans h.2.2.2.2.2.2.1, (hb.cell (p := ⟨r, 7, none⟩) hr).trans h.2.2.2.2.2.2.2.1, (hb.frozen (p := ⟨r, 0, none⟩) hr).trans h.2.2.2.2.2.2.2.2.1, (hb.frozen (p := ⟨r, 1, none⟩) hr).trans h.2.2.2.2.2.2.2.2.2.1, (hb.frozen (p := ⟨r, 2, none⟩) hr).trans h.2.2.2.2.2.2.2.2.2.2.1, (hb.frozen (p := ⟨r, 3, none⟩) hr).trans h.2.2.2.2.2.2.2.2.2.2.2.1, (hb.frozen (p := ⟨r, 4, none⟩) hr).trans h.2.2.2.2.2.2.2.2.2.2.2.2.1, (hb.frozen (p := ⟨r, 5, none⟩) hr).trans h.2.2.2.2.2.2.2.2.2.2.2.2.2.1, (hb.frozen (p := ⟨r, 6, none⟩) hr).trans h.2.2.2.2.2.2.2.2.2.2.2.2.2.2.1, (hb.frozen (p := ⟨r, 7, none⟩) hr).trans h.2.2.2.2.2.2.2.2.2.2.2.2.2.2.2.1, Nat.lt_of_lt_of_le h.2.2.2.2.2.2.2.2.2.2.2.2.2.2.2.2 hb.size⟩
theorem RL.lt {W : World} {r : Nat} {X : Le} (h : RL W r X) : r < W.heap.size := h.2.2.2.2.2.2.2.2.2.2.2.2.2.2.2.2
theorem RL.start (w : World) (X : Le) (t : TypeId) : RL (w.alloc (.cells #[.int .i64 X.m.id, .int .i64 X.m.rt, .int .i64 X.m.ep, .int .i64 X.m.ct, .int .i64 X.m.gn, .int .i64 X.m.st, .string X.m.bd, .int .i64 X.dl] t)) w.heap.size X :=
  ⟨by simp [go_sem], by simp [go_sem], by simp [go_sem], by simp [go_sem], by simp [go_sem], by simp [go_sem], by simp [go_sem], by simp [go_sem], by simp [go_sem], by simp [go_sem], by simp [go_sem], by simp [go_sem], by simp [go_sem], by simp [go_sem], by simp [go_sem], by simp [go_sem], by simp⟩
end Go.Proofs.Ytijpflljopckiaa
namespace Go.Proofs.Ytijpflljopckiaa
open Go.RowKit
set_option linter.unusedVariables false

theorem info_due : (Try.prog.info? 157).map (fun i => (i.zero, i.size, i.bytes)) = some (some (.agg #[.int .i64 0, .int .i64 0]), 2, 16) := by kernel_rfl
/-- A copy, that the call owns. -/
def DClP (w : World) (l : List Du) (e : Ending) (w' : World) : Prop := ∃ v, e = .returned v ∧ w'.ownsRow w.heap.size 157 2 v l.length (dcs l) ∧ Below w.heap.size w w'
theorem dclone_end {w w1 : World} {l : List Du} {v1 : Value} {o : Obj} (hown : w1.ownsRow w.heap.size 157 2 v1 (0 + l.length) ([] ++ dcs l)) (hg : (w.alloc o).grownBy w1 (Value.ownBlock (.slice (some ⟨w.heap.size, 0, none⟩) 0 0))) : DClP w l (.returned v1) w1 := by
  rw [Nat.zero_add, List.nil_append] at hown
  exact ⟨v1, rfl, hown, (((Below.refl _ _).alloc (Nat.le_refl _) o)).grown hg (by simp) (fun k hk => by simp [Value.ownBlock] at hk; omega)⟩

set_option maxHeartbeats 2000000 in
theorem dclone_any (A : Option Addr) (n c : Nat) (l : List Du) (w : World) (hv : Dl w w.heap.size (.slice A n c) l) (h2 : n ≤ 1000) :
    Calls Try.prog 99 #[.slice A n c] w (DClP w l) := by
  obtain ⟨rfl, hm1, hm2⟩ := hv.len
  obtain ⟨i0, hi0, hz0⟩ := Option.map_eq_some_iff.1 info_due
  simp only [Prod.mk.injEq] at hz0
  have HI := Lib.hid hi0
  have HZ := Lib.hid hz0
  have HV := Lib.hid hv
  have heq : ∀ W, (binOp .eql 81 (.slice A l.length c) (.slice none 0 0)).run Try.prog W = .ok (.bool A.isNone) W := fun W => Lib.run_eql_slice_nil W _ _ _ _ _ _ _ Try.underlying81
  have HRD := Lib.hid hv.rd
  clear hv hi0 hz0
  cases A with
  | none =>
    have hl : l = [] := by
      cases l with
      | nil => rfl
      | cons d l => obtain ⟨b, o, e, _⟩ := HRD.out.2 (by simp); cases e
    subst hl
    have HP := Lib.hid (show DClP w [] (.returned (.slice none 0 0)) w from ⟨_, rfl, World.ownsRow_nil w _ _ _, Below.refl _ _⟩)
    simp only [List.length_nil, Option.isNone_none] at heq ⊢
    go_enter Try.func99, Try.ntmps99
    go_wp2
    go_ret
    exact HP.out
  | some a =>
    simp only [Option.isNone_some] at heq
    go_enter Try.func99, Try.ntmps99
    go_wp2_with (at_builtin; refine wpList_append_rd _ rfl (.tmp 5) (.tmp 6) 81 rfl w.heap.size 157 i0 _ 2 16 Try.underlying81 HI.out HZ.out.1 HZ.out.2.1 HZ.out.2.2 rfl (by omega) (.slice (some ⟨w.heap.size, 0, none⟩) 0 0) 0 [] rfl (World.ownsRow_made w #[] 0 (Nat.le_refl _) (Nat.zero_le _) rfl) w.heap.size (some a) l.length c (dcs l) rfl (HV.out.alloc (Nat.le_refl _) _).rd (dcs_one l) (by unfold maxLen; omega) (by omega) (by simp) ?_; intro v1 w1 hown1 hg1 hat1)
    have HP := Lib.hid (dclone_end hown1 hg1)
    clear hown1 hg1 hat1
    go_wp2
    go_ret
    exact HP.out
end Go.Proofs.Ytijpflljopckiaa
namespace Go.Proofs.Ytijpflljopckiaa
open Go.RowKit
set_option linter.unusedVariables false

/-- A row of elements in a block that may be written, behind a walk that turned nothing before the block. -/
structure RwAt (w : World) (q n : Nat) (h : List Du) (W : World) : Prop where
  row : DRow W q n (ge h)
  len : h.length = n
  bel : Below q w W
section
variable {w W W' : World} {q n : Nat} {h : List Du}
theorem RwAt.below (r : RwAt w q n h W) (hb : Below W.heap.size W W') : RwAt w q n h W' := ⟨r.row.below hb r.row.1, r.len, r.bel.trans (hb.mono (Nat.le_of_lt r.row.1))⟩
theorem RwAt.drew (r : RwAt w q n h W) : RwAt w q n h W.drew := ⟨r.row.drew, r.len, r.bel.drew⟩
theorem RwAt.drewN (r : RwAt w q n h W) (k : Nat) : RwAt w q n h (W.drewN k) := ⟨r.row, r.len, ⟨r.bel.os, r.bel.tape, r.bel.output, r.bel.size, r.bel.block⟩⟩
/-- Two elements are exchanged. -/
theorem RwAt.swap (r : RwAt w q n h W) {i k : Nat} (hi : i < n) (hk : k < n) : RwAt w q n (swp h i k) ((((W.setCell ⟨q, i * 2, none⟩ (.int .i64 (ge h k).dl)).setCell ⟨q, i * 2 + 1, none⟩ (.int .i64 (ge h k).id)).setCell ⟨q, k * 2, none⟩ (.int .i64 (ge h i).dl)).setCell ⟨q, k * 2 + 1, none⟩ (.int .i64 (ge h i).id)) := by
  refine ⟨((r.row.put hi (ge h k)).put hk (ge h i)).congr fun t ht => ?_, by rw [swp_len]; exact r.len, (((r.bel.setCell (p := ⟨q, i * 2, none⟩) (Nat.le_refl _) _).setCell (p := ⟨q, i * 2 + 1, none⟩) (Nat.le_refl _) _).setCell (p := ⟨q, k * 2, none⟩) (Nat.le_refl _) _).setCell (p := ⟨q, k * 2 + 1, none⟩) (Nat.le_refl _) _⟩
  rw [ge_swp (by rw [r.len]; exact hi) (by rw [r.len]; exact hk)]
end

end Go.Proofs.Ytijpflljopckiaa
