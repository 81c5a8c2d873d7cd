/- What is proved here: slices.Clone of messages: a row of the call's own that reads the same; ring.PushBack by a contract; ring.PushFront by a contract. -/
import Derived.Test.YtdilgeabcacbdaaJ08
import Derived.WalkSpells
import Derived.Test.YtdilgeabcacbdaaJ09
import Derived.Deep.RegionHeld3
import Derived.Deep.DrawnRows
namespace Go.Proofs.Ytdilgeabcacbdaa
open Go.RowKit
set_option linter.unusedVariables false

theorem MRow.of_own {W : World} {base q n cap : Nat} {e : TypeId} {l : List Msg} (h : W.ownsRow base e 7 (.slice (some ⟨q, 0, none⟩) n cap) n (lcs l)) : MRow W q n (fun i => l.getD i zM) := by
  refine ⟨?_, fun k hk j hj => ?_, fun j => World.ownsRow.frozenAt h j⟩
  · rcases h.2 with ⟨hv, _⟩ | ⟨g', cap', cur, hv, _, hh, _⟩
    · cases hv
    · cases hv; exact (Array.getElem?_eq_some_iff.1 hh).1
  · have hl : k < l.length := by have := h.1; rw [lcs_len] at this; omega
    have hj7 : j < (l[k]).l.length := hj
    have := h.cells (g := q) rfl (k * 7 + j) ((l[k]).l[j]) (by rw [lcs_at l k j hl hj]; exact List.getElem?_eq_getElem hj7)
    rw [add_mk, Nat.zero_add] at this
    rw [this]
    simp [List.getD, hl]

end Go.Proofs.Ytdilgeabcacbdaa
namespace Go.Proofs.Ytdilgeabcacbdaa
open Go.RowKit
set_option linter.unusedVariables false

/-- A ring, a message and a result in blocks of the call's own. -/
structure PbAt (w : World) (p q r : Nat) (A : Option Addr) (n c : Nat) (hd sz : Int) (M : Msg) (W : World) : Prop where
  rb : RB W p A n c hd sz
  ms : MAt W q M.nth M.bd
  rs : RB W r none 0 0 0 0
  bel : Below w.heap.size w W
  old : w.heap.size ≤ p ∧ p < q ∧ q < r
section
variable {w W W' : World} {p q r n c : Nat} {A : Option Addr} {hd sz : Int} {M : Msg}
theorem PbAt.below (h : PbAt w p q r A n c hd sz M W) (hb : Below W.heap.size W W') : PbAt w p q r A n c hd sz M W' :=
  ⟨h.rb.below hb h.rb.lt, h.ms.below hb h.ms.1, h.rs.below hb h.rs.lt, h.bel.trans (hb.mono h.bel.size), h.old⟩
theorem PbAt.drew (h : PbAt w p q r A n c hd sz M W) : PbAt w p q r A n c hd sz M W.drew := ⟨h.rb.drew, h.ms, h.rs.drew, h.bel.drew, h.old⟩
theorem PbAt.setA (h : PbAt w p q r A n c hd sz M W) (A' : Option Addr) (n' c' : Nat) : PbAt w p q r A' n' c' hd sz M (W.setCell ⟨p, 0, none⟩ (.slice A' n' c')) :=
  ⟨h.rb.setA A' n' c', h.ms.other (p := ⟨p, 0, none⟩) (show p ≠ q by have := h.old; omega) _, h.rs.other (a := ⟨p, 0, none⟩) (show p ≠ r by have := h.old; omega) _, h.bel.setCell (p := ⟨p, 0, none⟩) h.old.1 _, h.old⟩
theorem PbAt.setH (h : PbAt w p q r A n c hd sz M W) (x : Int) : PbAt w p q r A n c x sz M (W.setCell ⟨p, 1, none⟩ (.int .i64 x)) :=
  ⟨h.rb.setH x, h.ms.other (p := ⟨p, 1, none⟩) (show p ≠ q by have := h.old; omega) _, h.rs.other (a := ⟨p, 1, none⟩) (show p ≠ r by have := h.old; omega) _, h.bel.setCell (p := ⟨p, 1, none⟩) h.old.1 _, h.old⟩
theorem PbAt.setS (h : PbAt w p q r A n c hd sz M W) (x : Int) : PbAt w p q r A n c hd x M (W.setCell ⟨p, 2, none⟩ (.int .i64 x)) :=
  ⟨h.rb.setS x, h.ms.other (p := ⟨p, 2, none⟩) (show p ≠ q by have := h.old; omega) _, h.rs.other (a := ⟨p, 2, none⟩) (show p ≠ r by have := h.old; omega) _, h.bel.setCell (p := ⟨p, 2, none⟩) h.old.1 _, h.old⟩
theorem PbAt.sets (h : PbAt w p q r A n c hd sz M W) {b : Nat} (hb : r < b) (m : Nat) (vs : List Value) : PbAt w p q r A n c hd sz M (W.setCells b m vs) :=
  ⟨h.rb.sets (by have := h.old; omega) m vs, h.ms.sets (by have := h.old; omega) m vs, h.rs.sets (by omega) m vs, sets_below (by have := h.old; omega) vs m W h.bel, h.old⟩
theorem PbAt.sets7 (h : PbAt w p q r A n c hd sz M W) {b : Nat} (hb : r < b) (m : Nat) (X : Msg) : PbAt w p q r A n c hd sz M (((((((W.setCell ⟨b, m, none⟩ (.int .i64 X.id)).setCell ⟨b, m + 1, none⟩ (.int .i64 X.rt)).setCell ⟨b, m + 2, none⟩ (.int .i64 X.ep)).setCell ⟨b, m + 3, none⟩ (.int .i64 X.ct)).setCell ⟨b, m + 4, none⟩ (.int .i64 X.gn)).setCell ⟨b, m + 5, none⟩ (.int .i64 X.st)).setCell ⟨b, m + 6, none⟩ (.string X.bd)) := h.sets hb m X.l
theorem PbAt.facts (h : PbAt w p q r A n c hd sz M W) : (W.cell? ⟨p, 0, none⟩ = some (.slice A n c) ∧ W.cell? ⟨p, 1, none⟩ = some (.int .i64 hd) ∧ W.cell? ⟨p, 2, none⟩ = some (.int .i64 sz) ∧ W.frozen? ⟨p, 0, none⟩ = false ∧ W.frozen? ⟨p, 1, none⟩ = false ∧ W.frozen? ⟨p, 2, none⟩ = false ∧ p < W.heap.size) ∧ (W.cell? ⟨q, 0, none⟩ = some (.int .i64 M.id) ∧ W.cell? ⟨q, 1, none⟩ = some (.int .i64 M.rt) ∧ W.cell? ⟨q, 2, none⟩ = some (.int .i64 M.ep) ∧ W.cell? ⟨q, 3, none⟩ = some (.int .i64 M.ct) ∧ W.cell? ⟨q, 4, none⟩ = some (.int .i64 M.gn) ∧ W.cell? ⟨q, 5, none⟩ = some (.int .i64 M.st) ∧ W.cell? ⟨q, 6, none⟩ = some (.string M.bd)) ∧ (W.cell? ⟨r, 0, none⟩ = some (.slice none 0 0) ∧ W.cell? ⟨r, 1, none⟩ = some (.int .i64 0) ∧ W.cell? ⟨r, 2, none⟩ = some (.int .i64 0) ∧ W.frozen? ⟨r, 0, none⟩ = false ∧ W.frozen? ⟨r, 1, none⟩ = false ∧ W.frozen? ⟨r, 2, none⟩ = false ∧ r < W.heap.size) :=
  ⟨h.rb.facts, h.ms.facts.1, h.rs.facts⟩
theorem PbAt.start (w : World) (A : Option Addr) (n c : Nat) (hd sz : Int) (M : Msg) (t u : TypeId) : PbAt w w.heap.size (w.heap.size + 1) (w.heap.size + 1 + 1) A n c hd sz M (((w.alloc (.cells #[.slice A n c, .int .i64 hd, .int .i64 sz] t)).alloc (.cells M.cs u)).alloc (.cells #[.slice none 0 0, .int .i64 0, .int .i64 0] t)) := by
  have h := MAt.fresh (f := M.nth) (w.alloc (.cells #[.slice A n c, .int .i64 hd, .int .i64 sz] t)) M.id M.rt M.ep M.ct M.gn M.st M.bd u rfl rfl rfl rfl rfl rfl
  have e : (w.alloc (.cells #[.slice A n c, .int .i64 hd, .int .i64 sz] t)).heap.size = w.heap.size + 1 := by simp
  have e2 : ((w.alloc (.cells #[.slice A n c, .int .i64 hd, .int .i64 sz] t)).alloc (.cells M.cs u)).heap.size = w.heap.size + 1 + 1 := by simp
  rw [e] at h
  have k := RB.fresh ((w.alloc (.cells #[.slice A n c, .int .i64 hd, .int .i64 sz] t)).alloc (.cells M.cs u)) none 0 0 0 0 t
  rw [e2] at k
  exact ⟨((RB.fresh w A n c hd sz t).alloc _).alloc _, h.alloc _, k, (((Below.refl _ _).alloc (Nat.le_refl _) _).alloc (by omega) _).alloc (by omega) _, Nat.le_refl _, Nat.lt_succ_self _, Nat.lt_succ_self _⟩
/-- The result block at the end. -/
theorem PbAt.result (h : PbAt w p q r A n c hd sz M W) (A' : Option Addr) (n' c' : Nat) (x y : Int) : Below w.heap.size w (((W.setCell ⟨r, 0, none⟩ (.slice A' n' c')).setCell ⟨r, 1, none⟩ (.int .i64 x)).setCell ⟨r, 2, none⟩ (.int .i64 y)) := by
  have hr : w.heap.size ≤ r := by have := h.old; omega
  exact ((h.bel.setCell (p := ⟨r, 0, none⟩) hr _).setCell (p := ⟨r, 1, none⟩) hr _).setCell (p := ⟨r, 2, none⟩) hr _
end
theorem MRow.put7n {W : World} {q n : Nat} {f : Nat → Msg} (h : MRow W q n f) {k : Nat} (hk : k < n) (M : Msg) : MRow (((((((W.setCell ⟨q, k * 7, none⟩ (.int .i64 M.id)).setCell ⟨q, k * 7 + 1, none⟩ (.int .i64 M.rt)).setCell ⟨q, k * 7 + 2, none⟩ (.int .i64 M.ep)).setCell ⟨q, k * 7 + 3, none⟩ (.int .i64 M.ct)).setCell ⟨q, k * 7 + 4, none⟩ (.int .i64 M.gn)).setCell ⟨q, k * 7 + 5, none⟩ (.int .i64 M.st)).setCell ⟨q, k * 7 + 6, none⟩ (.string M.bd)) q n (fun i => if i = k then M else f i) := h.put hk M

/-- What PushBack returns. -/
noncomputable def pbC (cs : List Msg) (hd sz : Int) (M : Msg) : List Msg := if puE cs hd sz M = 0 then fil cs.length hd.toNat (ord cs hd.toNat sz.toNat ++ [M]) else []
attribute [local go_sem ↓] Go.wp_at_zero Go.wp_at_succ
end Go.Proofs.Ytdilgeabcacbdaa
namespace Go.Proofs.Ytdilgeabcacbdaa
open Go.RowKit
set_option linter.unusedVariables false

end Go.Proofs.Ytdilgeabcacbdaa
