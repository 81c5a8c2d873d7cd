/- What is proved here: lease.Extend by a contract; slices.Insert of one lease by a contract; lease.Grant by a contract; shard.Take by a contract. -/
import Derived.Test.YtdilgeabcacbdaaGreatJ25
import Derived.Test.YtdilgeabcacbdaaGreatJ16
import Derived.Test.YtdilgeabcacbdaaGreatJ19
import Derived.Lib.Overlaps
import Derived.Laws.Externs
import Derived.Lib.AppendZerosOnto
import Derived.Test.YtdilgeabcacbdaaGreatJ27
import Derived.Test.YtdilgeabcacbdaaGreatJ26
namespace Go.Proofs.YtdilgeabcacbdaaGreat
open Go.RowKit
set_option linter.unusedVariables false

theorem ERow.of_own {W : World} {base q n cap : Nat} {e : TypeId} {l : List Le} (h : W.ownsRow base e 8 (.slice (some ⟨q, 0, none⟩) n cap) n (ecs l)) : ERow W q n (lg l) := by
  refine ⟨?_, fun k hk j hj => ?_, fun j => World.ownsRow.frozenAt h j⟩
  · rcases h.2 with ⟨hv, _⟩ | ⟨g', cap', cur, hv, _, hh, _⟩
    · cases hv
    · cases hv; exact (Array.getElem?_eq_some_iff.1 hh).1
  · have hl : k < l.length := by have := h.1; rw [ecs_len] at this; omega
    have hj8 : j < (l[k]).l.length := hj
    have := h.cells (g := q) rfl (k * 8 + j) ((l[k]).l[j]) (by rw [ecs_at l k j hl hj]; exact List.getElem?_eq_getElem hj8)
    rw [add_mk, Nat.zero_add] at this
    rw [this, ← lg_get hl]
    exact (List.getElem?_eq_getElem hj8).symm
/-- The work of Extend: the table, the result table. -/
structure ExW (w : World) (p r : Nat) (A : Option Addr) (c : Nat) (l : List Le) (A2 : Option Addr) (c2 : Nat) (h : List Du) (W : World) : Prop where
  va : VaA w p A c l A2 c2 h W
  rt : RT W r none 0 0 none 0 0
  ne : w.heap.size ≤ p ∧ p < r
section
variable {w W W' : World} {p r c c2 : Nat} {A A2 : Option Addr} {l : List Le} {h : List Du}
theorem ExW.below (k : ExW w p r A c l A2 c2 h W) (hb : Below W.heap.size W W') : ExW w p r A c l A2 c2 h W' := ⟨k.va.below hb, k.rt.below hb k.rt.lt, k.ne⟩
theorem ExW.start (hv : El w w.heap.size (.slice A l.length c) l) (hd : Dl w w.heap.size (.slice A2 h.length c2) h) (t : TypeId) : ExW w w.heap.size (w.heap.size + 1) A c l A2 c2 h ((w.alloc (.cells #[.slice A l.length c, .slice A2 h.length c2] t)).alloc (.cells #[.slice none 0 0, .slice none 0 0] t)) := by
  have e1 : (w.alloc (.cells #[.slice A l.length c, .slice A2 h.length c2] t)).heap.size = w.heap.size + 1 := by simp
  have k1 := RT.start (w.alloc (.cells #[.slice A l.length c, .slice A2 h.length c2] t)) none 0 0 none 0 0 t
  rw [e1] at k1
  exact ⟨(VaA.start t hv hd).alloc _, k1, Nat.le_refl _, Nat.lt_succ_self _⟩
end
end Go.Proofs.YtdilgeabcacbdaaGreat
namespace Go.Proofs.YtdilgeabcacbdaaGreat
open Go.RowKit
set_option linter.unusedVariables false

theorem ecs_mid (l : List Le) (i : Nat) (X : Le) : ecs (l.take i ++ X :: l.drop i) = ecs (l.take i) ++ (X.l ++ ecs (l.drop i)) := by rw [ecs_app, ecs_cons]
end Go.Proofs.YtdilgeabcacbdaaGreat
namespace Go.Proofs.YtdilgeabcacbdaaGreat
open Go.RowKit
set_option linter.unusedVariables false

/-- The work of Grant: the table, the result table, the new lease. -/
structure GrW (w : World) (p q r s : Nat) (A : Option Addr) (c : Nat) (l : List Le) (A2 : Option Addr) (c2 : Nat) (h : List Du) (X : Le) (W : World) : Prop where
  va : VaA w p A c l A2 c2 h W
  rt : RT W r none 0 0 none 0 0
  le : El8 W s X
  mq : W.cell? ⟨q, 0, none⟩ = some (.int .i64 X.m.id) ∧ q < W.heap.size
  ne : w.heap.size ≤ p ∧ p < r ∧ r < s
section
variable {w W W' : World} {p q r s c c2 : Nat} {A A2 : Option Addr} {l : List Le} {h : List Du} {X : Le}
theorem El8.lt (k : El8 W s X) : s < W.heap.size := k.2.2.2.2.2.2.2.2
theorem GrW.below (k : GrW w p q r s A c l A2 c2 h X W) (hb : Below W.heap.size W W') : GrW w p q r s A c l A2 c2 h X W' := ⟨k.va.below hb, k.rt.below hb k.rt.lt, k.le.below hb k.le.lt, ⟨(hb.cell (p := ⟨q, 0, none⟩) k.mq.2).trans k.mq.1, Nat.lt_of_lt_of_le k.mq.2 hb.size⟩, k.ne⟩
theorem GrW.start (hv : El w w.heap.size (.slice A l.length c) l) (hd : Dl w w.heap.size (.slice A2 h.length c2) h) (X : Le) : GrW w w.heap.size (w.heap.size + 1) (w.heap.size + 1 + 1) (w.heap.size + 1 + 1 + 1) A c l A2 c2 h X ((((w.alloc (.cells #[.slice A l.length c, .slice A2 h.length c2] 35)).alloc (.cells #[.int .i64 X.m.id, .int .i64 X.m.rt, .int .i64 X.m.ep, .int .i64 X.m.ct, .int .i64 X.m.gn, .int .i64 X.m.st, .string X.m.bd] 66)).alloc (.cells #[.slice none 0 0, .slice none 0 0] 35)).alloc (.cells #[.int .i64 X.m.id, .int .i64 X.m.rt, .int .i64 X.m.ep, .int .i64 X.m.ct, .int .i64 X.m.gn, .int .i64 X.m.st, .string X.m.bd, .int .i64 X.dl] 75)) := by
  have e2 : ((w.alloc (.cells #[.slice A l.length c, .slice A2 h.length c2] 35)).alloc (.cells #[.int .i64 X.m.id, .int .i64 X.m.rt, .int .i64 X.m.ep, .int .i64 X.m.ct, .int .i64 X.m.gn, .int .i64 X.m.st, .string X.m.bd] 66)).heap.size = w.heap.size + 1 + 1 := by simp
  have e3 : (((w.alloc (.cells #[.slice A l.length c, .slice A2 h.length c2] 35)).alloc (.cells #[.int .i64 X.m.id, .int .i64 X.m.rt, .int .i64 X.m.ep, .int .i64 X.m.ct, .int .i64 X.m.gn, .int .i64 X.m.st, .string X.m.bd] 66)).alloc (.cells #[.slice none 0 0, .slice none 0 0] 35)).heap.size = w.heap.size + 1 + 1 + 1 := by simp
  have k1 := RT.start ((w.alloc (.cells #[.slice A l.length c, .slice A2 h.length c2] 35)).alloc (.cells #[.int .i64 X.m.id, .int .i64 X.m.rt, .int .i64 X.m.ep, .int .i64 X.m.ct, .int .i64 X.m.gn, .int .i64 X.m.st, .string X.m.bd] 66)) none 0 0 none 0 0 35
  have k2 := El8.start (((w.alloc (.cells #[.slice A l.length c, .slice A2 h.length c2] 35)).alloc (.cells #[.int .i64 X.m.id, .int .i64 X.m.rt, .int .i64 X.m.ep, .int .i64 X.m.ct, .int .i64 X.m.gn, .int .i64 X.m.st, .string X.m.bd] 66)).alloc (.cells #[.slice none 0 0, .slice none 0 0] 35)) X 75
  rw [e2] at k1
  rw [e3] at k2
  exact ⟨(((VaA.start 35 hv hd).alloc _).alloc _).alloc _, k1.below ((Below.refl _ _).alloc (Nat.le_refl _) _) k1.lt, k2, by simp [go_sem], by omega⟩
end
end Go.Proofs.YtdilgeabcacbdaaGreat
namespace Go.Proofs.YtdilgeabcacbdaaGreat
open Go.RowKit
set_option linter.unusedVariables false

/-- The shard, the boxes of the epoch and the limit, the result box. -/
structure TqAt (w : World) (p b1 b2 r : Nat) (S : Sh) (D : Sx) (ep lim : Int) (W : World) : Prop where
  sa : SAt w p S D W
  cap : CapAt b1 b2 ep lim W
  rs : SB8 W r zS zX
  ne : p < b1 ∧ b1 < b2 ∧ b2 < r
abbrev TqK (p b1 b2 : Nat) (S : Sh) (D : Sx) (ep lim : Int) (W : World) : Prop := K8 p S D W ∧ W.cell? ⟨b1, 0, none⟩ = some (.int .i64 ep) ∧ W.cell? ⟨b2, 0, none⟩ = some (.int .i64 lim)
section
variable {w W W' : World} {p b1 b2 r : Nat} {S : Sh} {D : Sx} {ep lim : Int}
theorem TqAt.below (h : TqAt w p b1 b2 r S D ep lim W) (hb : Below W.heap.size W W') : TqAt w p b1 b2 r S D ep lim W' := ⟨h.sa.below hb, h.cap.below hb, h.rs.up hb, h.ne⟩
theorem TqAt.alloc (h : TqAt w p b1 b2 r S D ep lim W) (o : Obj) : TqAt w p b1 b2 r S D ep lim (W.alloc o) := h.below ((Below.refl _ _).alloc (Nat.le_refl _) o)
theorem TqAt.drew (h : TqAt w p b1 b2 r S D ep lim W) : TqAt w p b1 b2 r S D ep lim W.drew := h.below ((Below.refl _ _).drew)
theorem TqAt.k (h : TqAt w p b1 b2 r S D ep lim W) : TqK p b1 b2 S D ep lim W := ⟨h.sa.k8, h.cap.1, h.cap.2.1⟩
theorem TqAt.start (w : World) (S : Sh) (D : Sx) (ep lim : Int) (t u : TypeId) (hs : SR w w.heap.size S D) : TqAt w w.heap.size (w.heap.size + 1) (w.heap.size + 1 + 1) (w.heap.size + 1 + 1 + 1) S D ep lim ((((w.alloc (.cells #[.bool S.lv, .int .i64 S.lo, .int .i64 S.hi, .slice D.A S.cs.length D.c, .int .i64 S.hd, .int .i64 S.sz, .slice D.A2 S.l.length D.c2, .slice D.A3 S.h.length D.c3] t)).alloc (.cells #[.int .i64 ep] u)).alloc (.cells #[.int .i64 lim] u)).alloc (.cells #[.bool false, .int .i64 0, .int .i64 0, .slice none 0 0, .int .i64 0, .int .i64 0, .slice none 0 0, .slice none 0 0] t)) := by
  have h := SB8.zero (((w.alloc (.cells #[.bool S.lv, .int .i64 S.lo, .int .i64 S.hi, .slice D.A S.cs.length D.c, .int .i64 S.hd, .int .i64 S.sz, .slice D.A2 S.l.length D.c2, .slice D.A3 S.h.length D.c3] t)).alloc (.cells #[.int .i64 ep] u)).alloc (.cells #[.int .i64 lim] u)) t
  rw [show (((w.alloc (.cells #[.bool S.lv, .int .i64 S.lo, .int .i64 S.hi, .slice D.A S.cs.length D.c, .int .i64 S.hd, .int .i64 S.sz, .slice D.A2 S.l.length D.c2, .slice D.A3 S.h.length D.c3] t)).alloc (.cells #[.int .i64 ep] u)).alloc (.cells #[.int .i64 lim] u)).heap.size = w.heap.size + 1 + 1 + 1 by simp] at h
  exact ⟨(((SAt.start t hs).alloc _).alloc _).alloc _, ⟨by simp [go_sem, World.cell?_alloc_past], by simp [go_sem, World.cell?_alloc_past], by simp, by simp⟩, h, by omega, by omega, by omega⟩
end
end Go.Proofs.YtdilgeabcacbdaaGreat
