/- What is proved here: Rqfp; ring.without by a contract; Rqbp; ring.Remove by a contract. -/
import Derived.Test.YtdilgeabcacbdaaGreatJ08
import Derived.Deep.DeepCutAuto
/- Plain: boxes of a ring and of a message behind stores; what PopFront returns. -/
namespace Go.Proofs.YtdilgeabcacbdaaGreat
open Go.RowKit
set_option linter.unusedVariables false

theorem RB.set3 {W : World} {p r n c : Nat} {A : Option Addr} {hd sz : Int} (h : RB W p A n c hd sz) (hr : r ≠ p) (x y z : Value) : RB (((W.setCell ⟨r, 0, none⟩ x).setCell ⟨r, 1, none⟩ y).setCell ⟨r, 2, none⟩ z) p A n c hd sz :=
  ((h.other (a := ⟨r, 0, none⟩) hr x).other (a := ⟨r, 1, none⟩) hr y).other (a := ⟨r, 2, none⟩) hr z
theorem MAt.set3 {W : World} {q r : Nat} {f : Nat → Int} {t : ByteArray} (h : MAt W q f t) (hr : r ≠ q) (x y z : Value) : MAt (((W.setCell ⟨r, 0, none⟩ x).setCell ⟨r, 1, none⟩ y).setCell ⟨r, 2, none⟩ z) q f t :=
  ((h.other (p := ⟨r, 0, none⟩) hr x).other (p := ⟨r, 1, none⟩) hr y).other (p := ⟨r, 2, none⟩) hr z
attribute [local go_sem ↓] Go.wp_at_zero Go.wp_at_succ
end Go.Proofs.YtdilgeabcacbdaaGreat
namespace Go.Proofs.YtdilgeabcacbdaaGreat
open Go.RowKit
set_option linter.unusedVariables false

/-- The work of 'without': the ring, the two results, the message and the new cells. -/
structure WoAt (w : World) (p r s y z : Nat) (n cap : Nat) (hd sz : Int) (X : Msg) (f : Nat → Msg) (W : World) : Prop where
  po : PoAt w p r s (some ⟨z, 0, none⟩) n cap hd sz W
  my : MAt W y X.nth X.bd
  row : MRow W z n f
  old : s < y ∧ y < z
section
variable {w W W' : World} {p r s y z n cap : Nat} {hd sz : Int} {X : Msg} {f : Nat → Msg}
theorem WoAt.below (h : WoAt w p r s y z n cap hd sz X f W) (hb : Below W.heap.size W W') : WoAt w p r s y z n cap hd sz X f W' := ⟨h.po.below hb, h.my.below hb h.my.1, h.row.below hb h.row.1, h.old⟩
theorem WoAt.drew (h : WoAt w p r s y z n cap hd sz X f W) : WoAt w p r s y z n cap hd sz X f W.drew := ⟨h.po.drew, h.my, h.row, h.old⟩
theorem WoAt.put (h : WoAt w p r s y z n cap hd sz X f W) {k : Nat} (hk : k < n) (M : Msg) : WoAt w p r s y z n cap hd sz X (fun i => if i = k then M else f i) (((((((W.setCell ⟨z, k * 7, none⟩ (.int .i64 M.id)).setCell ⟨z, k * 7 + 1, none⟩ (.int .i64 M.rt)).setCell ⟨z, k * 7 + 2, none⟩ (.int .i64 M.ep)).setCell ⟨z, k * 7 + 3, none⟩ (.int .i64 M.ct)).setCell ⟨z, k * 7 + 4, none⟩ (.int .i64 M.gn)).setCell ⟨z, k * 7 + 5, none⟩ (.int .i64 M.st)).setCell ⟨z, k * 7 + 6, none⟩ (.string M.bd)) :=
  ⟨h.po.sets7 (by have := h.old; omega) (k * 7) M, h.my.sets7 (by have := h.old; omega) (k * 7) M, h.row.put7n hk M, h.old⟩
theorem WoAt.s10 (h : WoAt w p r s y z n cap hd sz X f W) {k : Nat} (hk : k < n) {M : Msg} (e : f k = M) : W.cell? ⟨p, 0, none⟩ = some (.slice (some ⟨z, 0, none⟩) n cap) ∧ W.cell? ⟨p, 1, none⟩ = some (.int .i64 hd) ∧ W.cell? ⟨p, 2, none⟩ = some (.int .i64 sz) ∧ W.cell? ⟨z, k * 7, none⟩ = some (.int .i64 M.id) ∧ W.cell? ⟨z, k * 7 + 1, none⟩ = some (.int .i64 M.rt) ∧ W.cell? ⟨z, k * 7 + 2, none⟩ = some (.int .i64 M.ep) ∧ W.cell? ⟨z, k * 7 + 3, none⟩ = some (.int .i64 M.ct) ∧ W.cell? ⟨z, k * 7 + 4, none⟩ = some (.int .i64 M.gn) ∧ W.cell? ⟨z, k * 7 + 5, none⟩ = some (.int .i64 M.st) ∧ W.cell? ⟨z, k * 7 + 6, none⟩ = some (.string M.bd) := by
  subst e; exact ⟨h.po.rb.c0, h.po.rb.c1, h.po.rb.c2, h.row.c7 hk⟩
theorem MAt.congr {q : Nat} {f g : Nat → Int} {t : ByteArray} (h : MAt W q f t) (e : ∀ j, j < 6 → f j = g j) : MAt W q g t :=
  ⟨h.1, fun j hj => by rw [← e j hj]; exact h.2.1 j hj, h.2.2⟩
theorem C7.drew {b m : Nat} {M : Msg} (h : C7 W b m M) : C7 W.drew b m M := h
theorem C7.up {A : Option Addr} {c b m : Nat} {M : Msg} (k : C7 W b m M) (h : PoAt w p r s A n c hd sz W) (hb : b < w.heap.size) (o : Obj) : C7 (W.alloc o) b m M :=
  C7.below k ((Below.refl W.heap.size W).alloc (Nat.le_refl _) o) (Nat.lt_of_lt_of_le hb h.bel.size)
/-- What is at hand in a block that a message is stored into. -/
theorem MAt.fr {q : Nat} {f : Nat → Int} {t : ByteArray} (h : MAt W q f t) : W.frozen? ⟨q, 0, none⟩ = false ∧ W.frozen? ⟨q, 1, none⟩ = false ∧ W.frozen? ⟨q, 2, none⟩ = false ∧ W.frozen? ⟨q, 3, none⟩ = false ∧ W.frozen? ⟨q, 4, none⟩ = false ∧ W.frozen? ⟨q, 5, none⟩ = false ∧ W.frozen? ⟨q, 6, none⟩ = false := ⟨h.2.2.2 0 (by omega), h.2.2.2 1 (by omega), h.2.2.2 2 (by omega), h.2.2.2 3 (by omega), h.2.2.2 4 (by omega), h.2.2.2 5 (by omega), h.2.2.2 6 (by omega)⟩
end

attribute [local go_sem ↓] Go.wp_at_zero Go.wp_at_succ
end Go.Proofs.YtdilgeabcacbdaaGreat
/- Plain: what PopBack returns; lists behind stores. -/
namespace Go.Proofs.YtdilgeabcacbdaaGreat
open Go.RowKit
set_option linter.unusedVariables false

theorem Ls.off3 {W : World} {B lo n c r : Nat} {A : Option Addr} {l : List Msg} (h : Ls W B (.slice A n c) l) (hA : Nw lo A) (hr : r < lo) (x y z : Value) : Ls (((W.setCell ⟨r, 0, none⟩ x).setCell ⟨r, 1, none⟩ y).setCell ⟨r, 2, none⟩ z) B (.slice A n c) l :=
  ((h.off hA (p := ⟨r, 0, none⟩) hr x).off hA (p := ⟨r, 1, none⟩) hr y).off hA (p := ⟨r, 2, none⟩) hr z
theorem RB.all {W : World} {p n c : Nat} {A : Option Addr} {hd sz : Int} (h : RB W p A n c hd sz) (A' : Option Addr) (n' c' : Nat) (x y : Int) : RB (((W.setCell ⟨p, 0, none⟩ (.slice A' n' c')).setCell ⟨p, 1, none⟩ (.int .i64 x)).setCell ⟨p, 2, none⟩ (.int .i64 y)) p A' n' c' x y := ((h.setA A' n' c').setH x).setS y
theorem PoAt.all {w W : World} {p r s n c : Nat} {A : Option Addr} {hd sz : Int} (h : PoAt w p r s A n c hd sz W) (A' : Option Addr) (n' c' : Nat) (x y : Int) : PoAt w p r s A' n' c' x y (((W.setCell ⟨p, 0, none⟩ (.slice A' n' c')).setCell ⟨p, 1, none⟩ (.int .i64 x)).setCell ⟨p, 2, none⟩ (.int .i64 y)) := ((h.setA A' n' c').setH x).setS y

attribute [local go_sem ↓] Go.wp_at_zero Go.wp_at_succ
end Go.Proofs.YtdilgeabcacbdaaGreat
namespace Go.Proofs.YtdilgeabcacbdaaGreat
open Go.RowKit
set_option linter.unusedVariables false

attribute [local go_sem ↓] Go.wp_at_zero Go.wp_at_succ
end Go.Proofs.YtdilgeabcacbdaaGreat
