/- What is proved here: lease.Extend by a contract; lease.Grant by a contract; shardqueueref05.swap, up by contracts; shardqueueref06.Grant by a contract; (plain functions) a number as bytes of a fixed size. -/
import Derived.Test.YtijpflljopckiaaJ20
import Derived.Test.YtijpflljopckiaaJ11
import Derived.Test.YtijpflljopckiaaJ18
import Derived.Lib.Overlaps
import Derived.Laws.Externs
import Derived.Lib.AppendZerosOnto
import Derived.Test.YtijpflljopckiaaJ10
import Derived.Deep.QuietTactic
import Derived.BigQuiet
import Derived.Test.YtijpflljopckiaaJ02
import Derived.Deep.AppendLies
import Derived.Test.YtijpflljopckiaaJ09
import Derived.Deep.CutRange
import Derived.Deep.DeepCutAuto
import Derived.IntWalk
import Derived.Deep.OwnRows
import Derived.Laws.MakeOwn
namespace Go.Proofs.Ytijpflljopckiaa
open Go.RowKit
set_option linter.unusedVariables false

theorem ERow.of_own {W : World} {base q n cap : Nat} {e : TypeId} {l : List Le} (h : W.ownsRow base e 8 (.slice (some ⟨q, 0, none⟩) n cap) n (ecs l)) : ERow W q n (lg l) := by
  refine ⟨?_, fun k hk j hj => ?_, fun j => World.ownsRow.frozenAt h j⟩
  · rcases h.2 with ⟨hv, _⟩ | ⟨g', cap', cur, hv, _, hh, _⟩
    · cases hv
    · cases hv; exact (Array.getElem?_eq_some_iff.1 hh).1
  · have hl : k < l.length := by have := h.1; rw [ecs_len] at this; omega
    have hj8 : j < (l[k]).l.length := hj
    have := h.cells (g := q) rfl (k * 8 + j) ((l[k]).l[j]) (by rw [ecs_at l k j hl hj]; exact List.getElem?_eq_getElem hj8)
    rw [add_mk, Nat.zero_add] at this
    rw [this, ← lg_get hl]
    exact (List.getElem?_eq_getElem hj8).symm
/-- The work of Extend: the table, the result table. -/
structure ExW (w : World) (p r : Nat) (A : Option Addr) (c : Nat) (l : List Le) (A2 : Option Addr) (c2 : Nat) (h : List Du) (W : World) : Prop where
  va : VaA w p A c l A2 c2 h W
  rt : RT W r none 0 0 none 0 0
  ne : w.heap.size ≤ p ∧ p < r
section
variable {w W W' : World} {p r c c2 : Nat} {A A2 : Option Addr} {l : List Le} {h : List Du}
theorem ExW.below (k : ExW w p r A c l A2 c2 h W) (hb : Below W.heap.size W W') : ExW w p r A c l A2 c2 h W' := ⟨k.va.below hb, k.rt.below hb k.rt.lt, k.ne⟩
theorem ExW.start (hv : El w w.heap.size (.slice A l.length c) l) (hd : Dl w w.heap.size (.slice A2 h.length c2) h) (t : TypeId) : ExW w w.heap.size (w.heap.size + 1) A c l A2 c2 h ((w.alloc (.cells #[.slice A l.length c, .slice A2 h.length c2] t)).alloc (.cells #[.slice none 0 0, .slice none 0 0] t)) := by
  have e1 : (w.alloc (.cells #[.slice A l.length c, .slice A2 h.length c2] t)).heap.size = w.heap.size + 1 := by simp
  have k1 := RT.start (w.alloc (.cells #[.slice A l.length c, .slice A2 h.length c2] t)) none 0 0 none 0 0 t
  rw [e1] at k1
  exact ⟨(VaA.start t hv hd).alloc _, k1, Nat.le_refl _, Nat.lt_succ_self _⟩
end
end Go.Proofs.Ytijpflljopckiaa
namespace Go.Proofs.Ytijpflljopckiaa
open Go.RowKit
set_option linter.unusedVariables false

/-- The work of Grant: the table, the result table, the new lease. -/
structure GrW (w : World) (p q r s : Nat) (A : Option Addr) (c : Nat) (l : List Le) (A2 : Option Addr) (c2 : Nat) (h : List Du) (X : Le) (W : World) : Prop where
  va : VaA w p A c l A2 c2 h W
  rt : RT W r none 0 0 none 0 0
  le : El8 W s X
  mq : W.cell? ⟨q, 0, none⟩ = some (.int .i64 X.m.id) ∧ q < W.heap.size
  ne : w.heap.size ≤ p ∧ p < r ∧ r < s
section
variable {w W W' : World} {p q r s c c2 : Nat} {A A2 : Option Addr} {l : List Le} {h : List Du} {X : Le}
theorem El8.lt (k : El8 W s X) : s < W.heap.size := k.2.2.2.2.2.2.2.2
theorem GrW.below (k : GrW w p q r s A c l A2 c2 h X W) (hb : Below W.heap.size W W') : GrW w p q r s A c l A2 c2 h X W' := ⟨k.va.below hb, k.rt.below hb k.rt.lt, k.le.below hb k.le.lt, ⟨(hb.cell (p := ⟨q, 0, none⟩) k.mq.2).trans k.mq.1, Nat.lt_of_lt_of_le k.mq.2 hb.size⟩, k.ne⟩
theorem GrW.start (hv : El w w.heap.size (.slice A l.length c) l) (hd : Dl w w.heap.size (.slice A2 h.length c2) h) (X : Le) : GrW w w.heap.size (w.heap.size + 1) (w.heap.size + 1 + 1) (w.heap.size + 1 + 1 + 1) A c l A2 c2 h X ((((w.alloc (.cells #[.slice A l.length c, .slice A2 h.length c2] 83)).alloc (.cells #[.int .i64 X.m.id, .int .i64 X.m.rt, .int .i64 X.m.ep, .int .i64 X.m.ct, .int .i64 X.m.gn, .int .i64 X.m.st, .string X.m.bd] 151)).alloc (.cells #[.slice none 0 0, .slice none 0 0] 83)).alloc (.cells #[.int .i64 X.m.id, .int .i64 X.m.rt, .int .i64 X.m.ep, .int .i64 X.m.ct, .int .i64 X.m.gn, .int .i64 X.m.st, .string X.m.bd, .int .i64 X.dl] 154)) := by
  have e2 : ((w.alloc (.cells #[.slice A l.length c, .slice A2 h.length c2] 83)).alloc (.cells #[.int .i64 X.m.id, .int .i64 X.m.rt, .int .i64 X.m.ep, .int .i64 X.m.ct, .int .i64 X.m.gn, .int .i64 X.m.st, .string X.m.bd] 151)).heap.size = w.heap.size + 1 + 1 := by simp
  have e3 : (((w.alloc (.cells #[.slice A l.length c, .slice A2 h.length c2] 83)).alloc (.cells #[.int .i64 X.m.id, .int .i64 X.m.rt, .int .i64 X.m.ep, .int .i64 X.m.ct, .int .i64 X.m.gn, .int .i64 X.m.st, .string X.m.bd] 151)).alloc (.cells #[.slice none 0 0, .slice none 0 0] 83)).heap.size = w.heap.size + 1 + 1 + 1 := by simp
  have k1 := RT.start ((w.alloc (.cells #[.slice A l.length c, .slice A2 h.length c2] 83)).alloc (.cells #[.int .i64 X.m.id, .int .i64 X.m.rt, .int .i64 X.m.ep, .int .i64 X.m.ct, .int .i64 X.m.gn, .int .i64 X.m.st, .string X.m.bd] 151)) none 0 0 none 0 0 83
  have k2 := El8.start (((w.alloc (.cells #[.slice A l.length c, .slice A2 h.length c2] 83)).alloc (.cells #[.int .i64 X.m.id, .int .i64 X.m.rt, .int .i64 X.m.ep, .int .i64 X.m.ct, .int .i64 X.m.gn, .int .i64 X.m.st, .string X.m.bd] 151)).alloc (.cells #[.slice none 0 0, .slice none 0 0] 83)) X 154
  rw [e2] at k1
  rw [e3] at k2
  exact ⟨(((VaA.start 83 hv hd).alloc _).alloc _).alloc _, k1.below ((Below.refl _ _).alloc (Nat.le_refl _) _) k1.lt, k2, by simp [go_sem], by omega⟩
end
end Go.Proofs.Ytijpflljopckiaa
namespace Go.Proofs.Ytijpflljopckiaa
open Go.RowKit
set_option linter.unusedVariables false

theorem DlV.of_own {w W : World} {base : Nat} {l : List Du} {v : Value} (ho : W.ownsRow base 157 2 v l.length (dcs l)) (hb : w.heap.size ≤ base) (hB : Below w.heap.size w W) : DlV w l (.returned v) W := by
  obtain ⟨A', c', rfl⟩ := own_form ho
  exact ⟨A', c', rfl, nwv_of (nwv_own ho hb), Dl.of_own ho, hB⟩
/-- A list of elements, from a block on. -/
structure LsAt (w : World) (lo : Nat) (v : Value) (l : List Du) (W : World) : Prop where
  dl : Dl W W.heap.size v l
  nw : NwV lo v
  bel : Below w.heap.size w W
theorem LsAt.below {w W W' : World} {lo : Nat} {v : Value} {l : List Du} (h : LsAt w lo v l W) (hb : Below W.heap.size W W') : LsAt w lo v l W' := ⟨h.dl.up hb, h.nw, h.bel.trans (hb.mono h.bel.size)⟩
theorem LsAt.drewN {w W : World} {lo : Nat} {v : Value} {l : List Du} (h : LsAt w lo v l W) (k : Nat) : LsAt w lo v l (W.drewN k) := ⟨h.dl, h.nw, ⟨h.bel.os, h.bel.tape, h.bel.output, h.bel.size, h.bel.block⟩⟩
end Go.Proofs.Ytijpflljopckiaa
namespace Go.Proofs.Ytijpflljopckiaa
open Go.RowKit
set_option linter.unusedVariables false

/-- The work of the reference's Grant: the table, the message, the result table. -/
structure GrV (w : World) (p q r : Nat) (A : Option Addr) (c : Nat) (l : List Le) (A2 : Option Addr) (c2 : Nat) (h : List Du) (X : Le) (W : World) : Prop where
  va : VaA w p A c l A2 c2 h W
  mq : W.cell? ⟨q, 0, none⟩ = some (.int .i64 X.m.id) ∧ W.cell? ⟨q, 1, none⟩ = some (.int .i64 X.m.rt) ∧ W.cell? ⟨q, 2, none⟩ = some (.int .i64 X.m.ep) ∧ W.cell? ⟨q, 3, none⟩ = some (.int .i64 X.m.ct) ∧ W.cell? ⟨q, 4, none⟩ = some (.int .i64 X.m.gn) ∧ W.cell? ⟨q, 5, none⟩ = some (.int .i64 X.m.st) ∧ W.cell? ⟨q, 6, none⟩ = some (.string X.m.bd) ∧ q < W.heap.size
  rt : RT W r none 0 0 none 0 0
  ne : w.heap.size ≤ p ∧ p < q ∧ q < r
section
variable {w W W' : World} {p q r c c2 : Nat} {A A2 : Option Addr} {l : List Le} {h : List Du} {X : Le}
theorem GrV.below (k : GrV w p q r A c l A2 c2 h X W) (hb : Below W.heap.size W W') : GrV w p q r A c l A2 c2 h X W' := by
  obtain ⟨m0, m1, m2, m3, m4, m5, m6, ml⟩ := k.mq
  exact ⟨k.va.below hb, ⟨(hb.cell (p := ⟨q, 0, none⟩) ml).trans m0, (hb.cell (p := ⟨q, 1, none⟩) ml).trans m1, (hb.cell (p := ⟨q, 2, none⟩) ml).trans m2, (hb.cell (p := ⟨q, 3, none⟩) ml).trans m3, (hb.cell (p := ⟨q, 4, none⟩) ml).trans m4, (hb.cell (p := ⟨q, 5, none⟩) ml).trans m5, (hb.cell (p := ⟨q, 6, none⟩) ml).trans m6, Nat.lt_of_lt_of_le ml hb.size⟩, k.rt.below hb k.rt.lt, k.ne⟩
theorem GrV.start (hv : El w w.heap.size (.slice A l.length c) l) (hd : Dl w w.heap.size (.slice A2 h.length c2) h) (X : Le) : GrV w w.heap.size (w.heap.size + 1) (w.heap.size + 1 + 1) A c l A2 c2 h X (((w.alloc (.cells #[.slice A l.length c, .slice A2 h.length c2] 83)).alloc (.cells #[.int .i64 X.m.id, .int .i64 X.m.rt, .int .i64 X.m.ep, .int .i64 X.m.ct, .int .i64 X.m.gn, .int .i64 X.m.st, .string X.m.bd] 151)).alloc (.cells #[.slice none 0 0, .slice none 0 0] 83)) := by
  have e2 : ((w.alloc (.cells #[.slice A l.length c, .slice A2 h.length c2] 83)).alloc (.cells #[.int .i64 X.m.id, .int .i64 X.m.rt, .int .i64 X.m.ep, .int .i64 X.m.ct, .int .i64 X.m.gn, .int .i64 X.m.st, .string X.m.bd] 151)).heap.size = w.heap.size + 1 + 1 := by simp
  have k1 := RT.start ((w.alloc (.cells #[.slice A l.length c, .slice A2 h.length c2] 83)).alloc (.cells #[.int .i64 X.m.id, .int .i64 X.m.rt, .int .i64 X.m.ep, .int .i64 X.m.ct, .int .i64 X.m.gn, .int .i64 X.m.st, .string X.m.bd] 151)) none 0 0 none 0 0 83
  rw [e2] at k1
  exact ⟨((VaA.start 83 hv hd).alloc _).alloc _, ⟨by simp [go_sem], by simp [go_sem], by simp [go_sem], by simp [go_sem], by simp [go_sem], by simp [go_sem], by simp [go_sem], by simp⟩, k1, Nat.le_refl _, Nat.lt_succ_self _, Nat.lt_succ_self _⟩
end
end Go.Proofs.Ytijpflljopckiaa
namespace Go.Proofs.Ytijpflljopckiaa
open Go.RowKit
set_option linter.unusedVariables false

/-- The number n as s bytes, the highest one first. -/
def be (s n : Nat) : List UInt8 := (List.range s).map fun j => UInt8.ofNat (n / 2 ^ (8 * (s - 1 - j)))

end Go.Proofs.Ytijpflljopckiaa
