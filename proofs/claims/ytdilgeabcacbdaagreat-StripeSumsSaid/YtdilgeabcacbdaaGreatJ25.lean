/- What is proved here: due.Remove by a contract; lease.removed, lease.Release by contracts; shard.clone by a contract; shard.New by a contract. -/
import Derived.Test.YtdilgeabcacbdaaGreatJ16
import Derived.Test.YtdilgeabcacbdaaGreatJ21
import Derived.Test.YtdilgeabcacbdaaGreatJ23
import Derived.Test.YtdilgeabcacbdaaGreatJ19
import Derived.Test.YtdilgeabcacbdaaGreatJ17
namespace Go.Proofs.YtdilgeabcacbdaaGreat
open Go.RowKit
set_option linter.unusedVariables false


end Go.Proofs.YtdilgeabcacbdaaGreat
namespace Go.Proofs.YtdilgeabcacbdaaGreat
open Go.RowKit
set_option linter.unusedVariables false

/-- A box of a message that may be written. -/
abbrev RMs (W : World) (r : Nat) (M : Msg) : Prop := W.cell? ⟨r, 0, none⟩ = some (.int .i64 M.id) ∧ W.cell? ⟨r, 1, none⟩ = some (.int .i64 M.rt) ∧ W.cell? ⟨r, 2, none⟩ = some (.int .i64 M.ep) ∧ W.cell? ⟨r, 3, none⟩ = some (.int .i64 M.ct) ∧ W.cell? ⟨r, 4, none⟩ = some (.int .i64 M.gn) ∧ W.cell? ⟨r, 5, none⟩ = some (.int .i64 M.st) ∧ W.cell? ⟨r, 6, none⟩ = some (.string M.bd) ∧ W.frozen? ⟨r, 0, none⟩ = false ∧ W.frozen? ⟨r, 1, none⟩ = false ∧ W.frozen? ⟨r, 2, none⟩ = false ∧ W.frozen? ⟨r, 3, none⟩ = false ∧ W.frozen? ⟨r, 4, none⟩ = false ∧ W.frozen? ⟨r, 5, none⟩ = false ∧ W.frozen? ⟨r, 6, none⟩ = false ∧ r < W.heap.size
theorem RMs.lt {W : World} {r : Nat} {M : Msg} (h : RMs W r M) : r < W.heap.size := h.2.2.2.2.2.2.2.2.2.2.2.2.2.2
theorem RMs.below {B : Nat} {W W' : World} {r : Nat} {M : Msg} (h : RMs W r M) (hb : Below B W W') (hr : r < B) : RMs W' r M :=
  ⟨(hb.cell (p := ⟨r, 0, none⟩) hr).trans h.1, (hb.cell (p := ⟨r, 1, none⟩) hr).trans h.2.1, (hb.cell (p := ⟨r, 2, none⟩) hr).trans h.2.2.1, (hb.cell (p := ⟨r, 3, none⟩) hr).trans h.2.2.2.1, (hb.cell (p := ⟨r, 4, none⟩) hr).trans h.2.2.2.2.1, (hb.cell (p := ⟨r, 5, none⟩) hr).trans h.2.2.2.2.2.1, (hb.cell (p := ⟨r, 6, none⟩) hr).trans h.2.2.2.2.2.2.1, (hb.frozen (p := ⟨r, 0, none⟩) hr).trans h.2.2.2.2.2.2.2.1, (hb.frozen (p := ⟨r, 1, none⟩) hr).trans h.2.2.2.2.2.2.2.2.1, (hb.frozen (p := ⟨r, 2, none⟩) hr).trans h.2.2.2.2.2.2.2.2.2.1, (hb.frozen (p := ⟨r, 3, none⟩) hr).trans h.2.2.2.2.2.2.2.2.2.2.1, (hb.frozen (p := ⟨r, 4, none⟩) hr).trans h.2.2.2.2.2.2.2.2.2.2.2.1, (hb.frozen (p := ⟨r, 5, none⟩) hr).trans h.2.2.2.2.2.2.2.2.2.2.2.2.1, (hb.frozen (p := ⟨r, 6, none⟩) hr).trans h.2.2.2.2.2.2.2.2.2.2.2.2.2.1, Nat.lt_of_lt_of_le h.2.2.2.2.2.2.2.2.2.2.2.2.2.2 hb.size⟩
theorem RMs.start (w : World) (M : Msg) (t : TypeId) : RMs (w.alloc (.cells #[.int .i64 M.id, .int .i64 M.rt, .int .i64 M.ep, .int .i64 M.ct, .int .i64 M.gn, .int .i64 M.st, .string M.bd] t)) w.heap.size M :=
  ⟨by simp [go_sem], by simp [go_sem], by simp [go_sem], by simp [go_sem], by simp [go_sem], by simp [go_sem], by simp [go_sem], by simp [go_sem], by simp [go_sem], by simp [go_sem], by simp [go_sem], by simp [go_sem], by simp [go_sem], by simp [go_sem], by simp⟩
/-- The work of Release: the table, the result table, the result message. -/
structure RlW (w : World) (p r s : Nat) (A : Option Addr) (c : Nat) (l : List Le) (A2 : Option Addr) (c2 : Nat) (h : List Du) (W : World) : Prop where
  va : VaA w p A c l A2 c2 h W
  rt : RT W r none 0 0 none 0 0
  rm : RMs W s zM
  ne : w.heap.size ≤ p ∧ p < r ∧ r < s
section
variable {w W W' : World} {p r s c c2 : Nat} {A A2 : Option Addr} {l : List Le} {h : List Du}
theorem RlW.below (k : RlW w p r s A c l A2 c2 h W) (hb : Below W.heap.size W W') : RlW w p r s A c l A2 c2 h W' := ⟨k.va.below hb, k.rt.below hb k.rt.lt, k.rm.below hb k.rm.lt, k.ne⟩
theorem RlW.start (hv : El w w.heap.size (.slice A l.length c) l) (hd : Dl w w.heap.size (.slice A2 h.length c2) h) (t u : TypeId) : RlW w w.heap.size (w.heap.size + 1) (w.heap.size + 1 + 1) A c l A2 c2 h (((w.alloc (.cells #[.slice A l.length c, .slice A2 h.length c2] t)).alloc (.cells #[.slice none 0 0, .slice none 0 0] t)).alloc (.cells #[.int .i64 0, .int .i64 0, .int .i64 0, .int .i64 0, .int .i64 0, .int .i64 0, .string ⟨#[]⟩] u)) := by
  have e1 : (w.alloc (.cells #[.slice A l.length c, .slice A2 h.length c2] t)).heap.size = w.heap.size + 1 := by simp
  have e2 : ((w.alloc (.cells #[.slice A l.length c, .slice A2 h.length c2] t)).alloc (.cells #[.slice none 0 0, .slice none 0 0] t)).heap.size = w.heap.size + 1 + 1 := by simp
  have k1 := RT.start (w.alloc (.cells #[.slice A l.length c, .slice A2 h.length c2] t)) none 0 0 none 0 0 t
  have k2 := RMs.start ((w.alloc (.cells #[.slice A l.length c, .slice A2 h.length c2] t)).alloc (.cells #[.slice none 0 0, .slice none 0 0] t)) zM u
  rw [e1] at k1
  rw [e2] at k2
  exact ⟨((VaA.start t hv hd).alloc _).alloc _, k1.below ((Below.refl _ _).alloc (Nat.le_refl _) _) k1.lt, k2, Nat.le_refl _, Nat.lt_succ_self _, Nat.lt_succ_self _⟩
end
end Go.Proofs.YtdilgeabcacbdaaGreat
namespace Go.Proofs.YtdilgeabcacbdaaGreat
open Go.RowKit
set_option linter.unusedVariables false

end Go.Proofs.YtdilgeabcacbdaaGreat
namespace Go.Proofs.YtdilgeabcacbdaaGreat
open Go.RowKit
set_option linter.unusedVariables false

end Go.Proofs.YtdilgeabcacbdaaGreat
