/- What is proved here: lease.removed, lease.Release by contracts; lease.Extend by a contract; lease.Grant by a contract; shardqueueref05.swap, up by contracts. -/
import Derived.Test.YtommkhjgockpfaaJ23
import Derived.Test.YtommkhjgockpfaaJ24
import Derived.Test.YtommkhjgockpfaaJ22
import Derived.Test.YtommkhjgockpfaaJ14
import Derived.Test.YtommkhjgockpfaaJ13
import Derived.Lib.Overlaps
import Derived.Laws.Externs
import Derived.Lib.AppendZerosOnto
import Derived.Test.YtommkhjgockpfaaJ11
import Derived.Deep.QuietTactic
import Derived.BigQuiet
namespace Go.Proofs.Ytommkhjgockpfaa
open Go.RowKit
set_option linter.unusedVariables false

/-- A list of leases as a result: it is new. -/
def ElV (w : World) (l : List Le) (e : Ending) (w' : World) : Prop := ∃ A c, e = .returned (.slice A l.length c) ∧ Nw w.heap.size A ∧ El w' w'.heap.size (.slice A l.length c) l ∧ Below w.heap.size w w'
/-- A box of a message that may be written. -/
abbrev RMs (W : World) (r : Nat) (M : Msg) : Prop := W.cell? ⟨r, 0, none⟩ = some (.int .i64 M.id) ∧ W.cell? ⟨r, 1, none⟩ = some (.int .i64 M.rt) ∧ W.cell? ⟨r, 2, none⟩ = some (.int .i64 M.ep) ∧ W.cell? ⟨r, 3, none⟩ = some (.int .i64 M.ct) ∧ W.cell? ⟨r, 4, none⟩ = some (.int .i64 M.gn) ∧ W.cell? ⟨r, 5, none⟩ = some (.int .i64 M.st) ∧ W.cell? ⟨r, 6, none⟩ = some (.string M.bd) ∧ W.frozen? ⟨r, 0, none⟩ = false ∧ W.frozen? ⟨r, 1, none⟩ = false ∧ W.frozen? ⟨r, 2, none⟩ = false ∧ W.frozen? ⟨r, 3, none⟩ = false ∧ W.frozen? ⟨r, 4, none⟩ = false ∧ W.frozen? ⟨r, 5, none⟩ = false ∧ W.frozen? ⟨r, 6, none⟩ = false ∧ r < W.heap.size
theorem RMs.lt {W : World} {r : Nat} {M : Msg} (h : RMs W r M) : r < W.heap.size := h.2.2.2.2.2.2.2.2.2.2.2.2.2.2
theorem RMs.below {B : Nat} {W W' : World} {r : Nat} {M : Msg} (h : RMs W r M) (hb : Below B W W') (hr : r < B) : RMs W' r M :=
  ⟨(hb.cell (p := ⟨r, 0, none⟩) hr).trans h.1, (hb.cell (p := ⟨r, 1, none⟩) hr).trans h.2.1, (hb.cell (p := ⟨r, 2, none⟩) hr).trans h.2.2.1, (hb.cell (p := ⟨r, 3, none⟩) hr).trans h.2.2.2.1, (hb.cell (p := ⟨r, 4, none⟩) hr).trans h.2.2.2.2.1, (hb.cell (p := ⟨r, 5, none⟩) hr).trans h.2.2.2.2.2.1, (hb.cell (p := ⟨r, 6, none⟩) hr).trans h.2.2.2.2.2.2.1, (hb.frozen (p := ⟨r, 0, none⟩) hr).trans h.2.2.2.2.2.2.2.1, (hb.frozen (p := ⟨r, 1, none⟩) hr).trans h.2.2.2.2.2.2.2.2.1, (hb.frozen (p := ⟨r, 2, none⟩) hr).trans h.2.2.2.2.2.2.2.2.2.1, (hb.frozen (p := ⟨r, 3, none⟩) hr).trans h.2.2.2.2.2.2.2.2.2.2.1, (hb.frozen (p := ⟨r, 4, none⟩) hr).trans h.2.2.2.2.2.2.2.2.2.2.2.1, (hb.frozen (p := ⟨r, 5, none⟩) hr).trans h.2.2.2.2.2.2.2.2.2.2.2.2.1, (hb.frozen (p := ⟨r, 6, none⟩) hr).trans h.2.2.2.2.2.2.2.2.2.2.2.2.2.1, Nat.lt_of_lt_of_le h.2.2.2.2.2.2.2.2.2.2.2.2.2.2 hb.size⟩
theorem RMs.start (w : World) (M : Msg) (t : TypeId) : RMs (w.alloc (.cells #[.int .i64 M.id, .int .i64 M.rt, .int .i64 M.ep, .int .i64 M.ct, .int .i64 M.gn, .int .i64 M.st, .string M.bd] t)) w.heap.size M :=
  ⟨by simp [go_sem], by simp [go_sem], by simp [go_sem], by simp [go_sem], by simp [go_sem], by simp [go_sem], by simp [go_sem], by simp [go_sem], by simp [go_sem], by simp [go_sem], by simp [go_sem], by simp [go_sem], by simp [go_sem], by simp [go_sem], by simp⟩
/-- The work of Release: the table, the result table, the result message. -/
structure RlW (w : World) (p r s : Nat) (A : Option Addr) (c : Nat) (l : List Le) (A2 : Option Addr) (c2 : Nat) (h : List Du) (W : World) : Prop where
  va : VaA w p A c l A2 c2 h W
  rt : RT W r none 0 0 none 0 0
  rm : RMs W s zM
  ne : w.heap.size ≤ p ∧ p < r ∧ r < s
section
variable {w W W' : World} {p r s c c2 : Nat} {A A2 : Option Addr} {l : List Le} {h : List Du}
theorem RlW.below (k : RlW w p r s A c l A2 c2 h W) (hb : Below W.heap.size W W') : RlW w p r s A c l A2 c2 h W' := ⟨k.va.below hb, k.rt.below hb k.rt.lt, k.rm.below hb k.rm.lt, k.ne⟩
theorem RlW.start (hv : El w w.heap.size (.slice A l.length c) l) (hd : Dl w w.heap.size (.slice A2 h.length c2) h) (t u : TypeId) : RlW w w.heap.size (w.heap.size + 1) (w.heap.size + 1 + 1) A c l A2 c2 h (((w.alloc (.cells #[.slice A l.length c, .slice A2 h.length c2] t)).alloc (.cells #[.slice none 0 0, .slice none 0 0] t)).alloc (.cells #[.int .i64 0, .int .i64 0, .int .i64 0, .int .i64 0, .int .i64 0, .int .i64 0, .string ⟨#[]⟩] u)) := by
  have e1 : (w.alloc (.cells #[.slice A l.length c, .slice A2 h.length c2] t)).heap.size = w.heap.size + 1 := by simp
  have e2 : ((w.alloc (.cells #[.slice A l.length c, .slice A2 h.length c2] t)).alloc (.cells #[.slice none 0 0, .slice none 0 0] t)).heap.size = w.heap.size + 1 + 1 := by simp
  have k1 := RT.start (w.alloc (.cells #[.slice A l.length c, .slice A2 h.length c2] t)) none 0 0 none 0 0 t
  have k2 := RMs.start ((w.alloc (.cells #[.slice A l.length c, .slice A2 h.length c2] t)).alloc (.cells #[.slice none 0 0, .slice none 0 0] t)) zM u
  rw [e1] at k1
  rw [e2] at k2
  exact ⟨((VaA.start t hv hd).alloc _).alloc _, k1.below ((Below.refl _ _).alloc (Nat.le_refl _) _) k1.lt, k2, Nat.le_refl _, Nat.lt_succ_self _, Nat.lt_succ_self _⟩
end
end Go.Proofs.Ytommkhjgockpfaa
namespace Go.Proofs.Ytommkhjgockpfaa
open Go.RowKit
set_option linter.unusedVariables false

theorem ERow.of_own {W : World} {base q n cap : Nat} {e : TypeId} {l : List Le} (h : W.ownsRow base e 8 (.slice (some ⟨q, 0, none⟩) n cap) n (ecs l)) : ERow W q n (lg l) := by
  refine ⟨?_, fun k hk j hj => ?_, fun j => World.ownsRow.frozenAt h j⟩
  · rcases h.2 with ⟨hv, _⟩ | ⟨g', cap', cur, hv, _, hh, _⟩
    · cases hv
    · cases hv; exact (Array.getElem?_eq_some_iff.1 hh).1
  · have hl : k < l.length := by have := h.1; rw [ecs_len] at this; omega
    have hj8 : j < (l[k]).l.length := hj
    have := h.cells (g := q) rfl (k * 8 + j) ((l[k]).l[j]) (by rw [ecs_at l k j hl hj]; exact List.getElem?_eq_getElem hj8)
    rw [add_mk, Nat.zero_add] at this
    rw [this, ← lg_get hl]
    exact (List.getElem?_eq_getElem hj8).symm
/-- The work of Extend: the table, the result table. -/
structure ExW (w : World) (p r : Nat) (A : Option Addr) (c : Nat) (l : List Le) (A2 : Option Addr) (c2 : Nat) (h : List Du) (W : World) : Prop where
  va : VaA w p A c l A2 c2 h W
  rt : RT W r none 0 0 none 0 0
  ne : w.heap.size ≤ p ∧ p < r
section
variable {w W W' : World} {p r c c2 : Nat} {A A2 : Option Addr} {l : List Le} {h : List Du}
theorem ExW.below (k : ExW w p r A c l A2 c2 h W) (hb : Below W.heap.size W W') : ExW w p r A c l A2 c2 h W' := ⟨k.va.below hb, k.rt.below hb k.rt.lt, k.ne⟩
theorem ExW.start (hv : El w w.heap.size (.slice A l.length c) l) (hd : Dl w w.heap.size (.slice A2 h.length c2) h) (t : TypeId) : ExW w w.heap.size (w.heap.size + 1) A c l A2 c2 h ((w.alloc (.cells #[.slice A l.length c, .slice A2 h.length c2] t)).alloc (.cells #[.slice none 0 0, .slice none 0 0] t)) := by
  have e1 : (w.alloc (.cells #[.slice A l.length c, .slice A2 h.length c2] t)).heap.size = w.heap.size + 1 := by simp
  have k1 := RT.start (w.alloc (.cells #[.slice A l.length c, .slice A2 h.length c2] t)) none 0 0 none 0 0 t
  rw [e1] at k1
  exact ⟨(VaA.start t hv hd).alloc _, k1, Nat.le_refl _, Nat.lt_succ_self _⟩
end
end Go.Proofs.Ytommkhjgockpfaa
namespace Go.Proofs.Ytommkhjgockpfaa
open Go.RowKit
set_option linter.unusedVariables false

/-- The work of Grant: the table, the result table, the new lease. -/
structure GrW (w : World) (p q r s : Nat) (A : Option Addr) (c : Nat) (l : List Le) (A2 : Option Addr) (c2 : Nat) (h : List Du) (X : Le) (W : World) : Prop where
  va : VaA w p A c l A2 c2 h W
  rt : RT W r none 0 0 none 0 0
  le : El8 W s X
  mq : W.cell? ⟨q, 0, none⟩ = some (.int .i64 X.m.id) ∧ q < W.heap.size
  ne : w.heap.size ≤ p ∧ p < r ∧ r < s
section
variable {w W W' : World} {p q r s c c2 : Nat} {A A2 : Option Addr} {l : List Le} {h : List Du} {X : Le}
theorem El8.lt (k : El8 W s X) : s < W.heap.size := k.2.2.2.2.2.2.2.2
theorem GrW.below (k : GrW w p q r s A c l A2 c2 h X W) (hb : Below W.heap.size W W') : GrW w p q r s A c l A2 c2 h X W' := ⟨k.va.below hb, k.rt.below hb k.rt.lt, k.le.below hb k.le.lt, ⟨(hb.cell (p := ⟨q, 0, none⟩) k.mq.2).trans k.mq.1, Nat.lt_of_lt_of_le k.mq.2 hb.size⟩, k.ne⟩
theorem GrW.start (hv : El w w.heap.size (.slice A l.length c) l) (hd : Dl w w.heap.size (.slice A2 h.length c2) h) (X : Le) : GrW w w.heap.size (w.heap.size + 1) (w.heap.size + 1 + 1) (w.heap.size + 1 + 1 + 1) A c l A2 c2 h X ((((w.alloc (.cells #[.slice A l.length c, .slice A2 h.length c2] 69)).alloc (.cells #[.int .i64 X.m.id, .int .i64 X.m.rt, .int .i64 X.m.ep, .int .i64 X.m.ct, .int .i64 X.m.gn, .int .i64 X.m.st, .string X.m.bd] 126)).alloc (.cells #[.slice none 0 0, .slice none 0 0] 69)).alloc (.cells #[.int .i64 X.m.id, .int .i64 X.m.rt, .int .i64 X.m.ep, .int .i64 X.m.ct, .int .i64 X.m.gn, .int .i64 X.m.st, .string X.m.bd, .int .i64 X.dl] 129)) := by
  have e2 : ((w.alloc (.cells #[.slice A l.length c, .slice A2 h.length c2] 69)).alloc (.cells #[.int .i64 X.m.id, .int .i64 X.m.rt, .int .i64 X.m.ep, .int .i64 X.m.ct, .int .i64 X.m.gn, .int .i64 X.m.st, .string X.m.bd] 126)).heap.size = w.heap.size + 1 + 1 := by simp
  have e3 : (((w.alloc (.cells #[.slice A l.length c, .slice A2 h.length c2] 69)).alloc (.cells #[.int .i64 X.m.id, .int .i64 X.m.rt, .int .i64 X.m.ep, .int .i64 X.m.ct, .int .i64 X.m.gn, .int .i64 X.m.st, .string X.m.bd] 126)).alloc (.cells #[.slice none 0 0, .slice none 0 0] 69)).heap.size = w.heap.size + 1 + 1 + 1 := by simp
  have k1 := RT.start ((w.alloc (.cells #[.slice A l.length c, .slice A2 h.length c2] 69)).alloc (.cells #[.int .i64 X.m.id, .int .i64 X.m.rt, .int .i64 X.m.ep, .int .i64 X.m.ct, .int .i64 X.m.gn, .int .i64 X.m.st, .string X.m.bd] 126)) none 0 0 none 0 0 69
  have k2 := El8.start (((w.alloc (.cells #[.slice A l.length c, .slice A2 h.length c2] 69)).alloc (.cells #[.int .i64 X.m.id, .int .i64 X.m.rt, .int .i64 X.m.ep, .int .i64 X.m.ct, .int .i64 X.m.gn, .int .i64 X.m.st, .string X.m.bd] 126)).alloc (.cells #[.slice none 0 0, .slice none 0 0] 69)) X 129
  rw [e2] at k1
  rw [e3] at k2
  exact ⟨(((VaA.start 69 hv hd).alloc _).alloc _).alloc _, k1.below ((Below.refl _ _).alloc (Nat.le_refl _) _) k1.lt, k2, by simp [go_sem], by omega⟩
end
end Go.Proofs.Ytommkhjgockpfaa
namespace Go.Proofs.Ytommkhjgockpfaa
open Go.RowKit
set_option linter.unusedVariables false

theorem DlV.of_own {w W : World} {base : Nat} {l : List Du} {v : Value} (ho : W.ownsRow base 132 2 v l.length (dcs l)) (hb : w.heap.size ≤ base) (hB : Below w.heap.size w W) : DlV w l (.returned v) W := by
  obtain ⟨A', c', rfl⟩ := own_form ho
  exact ⟨A', c', rfl, nwv_of (nwv_own ho hb), Dl.of_own ho, hB⟩
/-- A list of elements, from a block on. -/
structure LsAt (w : World) (lo : Nat) (v : Value) (l : List Du) (W : World) : Prop where
  dl : Dl W W.heap.size v l
  nw : NwV lo v
  bel : Below w.heap.size w W
theorem LsAt.below {w W W' : World} {lo : Nat} {v : Value} {l : List Du} (h : LsAt w lo v l W) (hb : Below W.heap.size W W') : LsAt w lo v l W' := ⟨h.dl.up hb, h.nw, h.bel.trans (hb.mono h.bel.size)⟩
theorem LsAt.drewN {w W : World} {lo : Nat} {v : Value} {l : List Du} (h : LsAt w lo v l W) (k : Nat) : LsAt w lo v l (W.drewN k) := ⟨h.dl, h.nw, ⟨h.bel.os, h.bel.tape, h.bel.output, h.bel.size, h.bel.block⟩⟩
end Go.Proofs.Ytommkhjgockpfaa
