/- What is proved here: (plain) what changes of a ring's cells give, as fillings with the changed order; blocks that hold a ring and may be written; slices.Clone of messages: a row of the call's own that reads the same; ring.PushBack by a contract; (plain) a ring and two results in blocks of the call's own; ring.New by a contract; (plain) a ring that is filled with valid messages of different IDs is valid; what pushes onto it give. -/
import Derived.Test.YtijpflljopckiaaJ03
import Derived.Test.YtijpflljopckiaaJ05
import Derived.WalkSpells
import Derived.Deep.RegionHeld3
import Derived.Deep.DrawnRows
namespace Go.Proofs.Ytijpflljopckiaa
open Go.RowKit
set_option linter.unusedVariables false

/-- A row of cells that reads as a filling. -/
theorem row_fil {n hd : Nat} {g : Nat → Msg} {l : List Msg} (hh : hd < n) (h : ∀ k, k < n → g ((hd + k) % n) = l.getD k zM) : (List.range n).map g = fil n hd l := by
  refine cel_ext (hd := hd) (by rw [fil_len]; simp) (by simpa using hh) fun k hk => ?_
  have hk' : k < n := by simpa using hk
  rw [cel_fil l hh hk', ← h k hk']
  have hm : (hd + k) % n < n := Nat.mod_lt _ (by omega)
  simp [cel, List.getD, hm]
/-- Block p holds a ring, and may be written. -/
structure RB (W : World) (p : Nat) (A : Option Addr) (n c : Nat) (hd sz : Int) : Prop where
  lt : p < W.heap.size
  c0 : W.cell? ⟨p, 0, none⟩ = some (.slice A n c)
  c1 : W.cell? ⟨p, 1, none⟩ = some (.int .i64 hd)
  c2 : W.cell? ⟨p, 2, none⟩ = some (.int .i64 sz)
  fr : ∀ o, W.frozen? ⟨p, o, none⟩ = false
section
variable {W W' : World} {p n c : Nat} {A : Option Addr} {hd sz : Int}
theorem RB.facts (h : RB W p A n c hd sz) : W.cell? ⟨p, 0, none⟩ = some (.slice A n c) ∧ W.cell? ⟨p, 1, none⟩ = some (.int .i64 hd) ∧ W.cell? ⟨p, 2, none⟩ = some (.int .i64 sz) ∧ W.frozen? ⟨p, 0, none⟩ = false ∧ W.frozen? ⟨p, 1, none⟩ = false ∧ W.frozen? ⟨p, 2, none⟩ = false ∧ p < W.heap.size := ⟨h.c0, h.c1, h.c2, h.fr 0, h.fr 1, h.fr 2, h.lt⟩
theorem RB.below {B : Nat} (h : RB W p A n c hd sz) (hb : Below B W W') (hp : p < B) : RB W' p A n c hd sz :=
  ⟨Nat.lt_of_lt_of_le h.lt hb.size, (hb.cell (p := ⟨p, 0, none⟩) hp).trans h.c0, (hb.cell (p := ⟨p, 1, none⟩) hp).trans h.c1, (hb.cell (p := ⟨p, 2, none⟩) hp).trans h.c2, fun o => (hb.frozen (p := ⟨p, o, none⟩) hp).trans (h.fr o)⟩
theorem RB.drew (h : RB W p A n c hd sz) : RB W.drew p A n c hd sz := ⟨h.lt, h.c0, h.c1, h.c2, h.fr⟩
theorem RB.alloc (h : RB W p A n c hd sz) (o : Obj) : RB (W.alloc o) p A n c hd sz := h.below (W' := W.alloc o) ((Below.refl W.heap.size W).alloc (Nat.le_refl _) o) h.lt
theorem RB.other (h : RB W p A n c hd sz) {a : Addr} (ha : a.block ≠ p) (v : Value) : RB (W.setCell a v) p A n c hd sz := by
  have e : ∀ o, (W.setCell a v).cell? ⟨p, o, none⟩ = W.cell? ⟨p, o, none⟩ := fun o => World.cell?_setCell_other W _ _ v (fun e => ha (by rw [e]))
  exact ⟨by simpa using h.lt, (e 0).trans h.c0, (e 1).trans h.c1, (e 2).trans h.c2, fun o => by rw [World.frozen?_setCell]; exact h.fr o⟩
theorem RB.sets (h : RB W p A n c hd sz) {b : Nat} (hb : b ≠ p) (m : Nat) (vs : List Value) : RB (W.setCells b m vs) p A n c hd sz :=
  ⟨by rw [sets_size]; exact h.lt, (sets_far (p := ⟨p, 0, none⟩) (fun e => hb e.symm) m vs).trans h.c0, (sets_far (p := ⟨p, 1, none⟩) (fun e => hb e.symm) m vs).trans h.c1, (sets_far (p := ⟨p, 2, none⟩) (fun e => hb e.symm) m vs).trans h.c2, fun o => by rw [World.frozen?_setCells]; exact h.fr o⟩
theorem RB.setA (h : RB W p A n c hd sz) (A' : Option Addr) (n' c' : Nat) : RB (W.setCell ⟨p, 0, none⟩ (.slice A' n' c')) p A' n' c' hd sz :=
  ⟨by simpa using h.lt, World.cell?_setCell_same' W _ _ (by rw [h.c0]; rfl), (World.cell?_setCell_other W _ _ _ (fun e => by injection e; omega)).trans h.c1, (World.cell?_setCell_other W _ _ _ (fun e => by injection e; omega)).trans h.c2, fun o => by rw [World.frozen?_setCell]; exact h.fr o⟩
theorem RB.setH (h : RB W p A n c hd sz) (x : Int) : RB (W.setCell ⟨p, 1, none⟩ (.int .i64 x)) p A n c x sz :=
  ⟨by simpa using h.lt, (World.cell?_setCell_other W _ _ _ (fun e => by injection e; omega)).trans h.c0, World.cell?_setCell_same' W _ _ (by rw [h.c1]; rfl), (World.cell?_setCell_other W _ _ _ (fun e => by injection e; omega)).trans h.c2, fun o => by rw [World.frozen?_setCell]; exact h.fr o⟩
theorem RB.setS (h : RB W p A n c hd sz) (x : Int) : RB (W.setCell ⟨p, 2, none⟩ (.int .i64 x)) p A n c hd x :=
  ⟨by simpa using h.lt, (World.cell?_setCell_other W _ _ _ (fun e => by injection e; omega)).trans h.c0, (World.cell?_setCell_other W _ _ _ (fun e => by injection e; omega)).trans h.c1, World.cell?_setCell_same' W _ _ (by rw [h.c2]; rfl), fun o => by rw [World.frozen?_setCell]; exact h.fr o⟩
theorem RB.fresh (w : World) (A : Option Addr) (n c : Nat) (hd sz : Int) (t : TypeId) : RB (w.alloc (.cells #[.slice A n c, .int .i64 hd, .int .i64 sz] t)) w.heap.size A n c hd sz :=
  ⟨by simp, by simp [go_sem], by simp [go_sem], by simp [go_sem], fun o => by simp [go_sem]⟩
theorem MAt.sets {q b : Nat} {f : Nat → Int} {s : ByteArray} (h : MAt W q f s) (hb : b ≠ q) (m : Nat) (vs : List Value) : MAt (W.setCells b m vs) q f s :=
  ⟨by rw [sets_size]; exact h.1, fun j hj => (sets_far (p := ⟨q, j, none⟩) (fun e => hb e.symm) m vs).trans (h.2.1 j hj), (sets_far (p := ⟨q, 6, none⟩) (fun e => hb e.symm) m vs).trans h.2.2.1, fun o ho => by rw [World.frozen?_setCells]; exact h.2.2.2 o ho⟩
theorem MRow.setCell {q m : Nat} {f : Nat → Msg} (h : MRow W q m f) {p : Addr} (hp : p.block ≠ q) (v : Value) : MRow (W.setCell p v) q m f := h.other hp v
theorem MRow.ls' {q m cap : Nat} {f : Nat → Msg} {l : List Msg} (h : MRow W q m f) (hl : (List.range m).map f = l) (hc : m ≤ cap) (hm : cap ≤ maxLen) : Ls W W.heap.size (.slice (some ⟨q, 0, none⟩) m cap) l := by
  rw [← hl]; exact h.ls m cap (Nat.le_refl _) hc hm
end

/-- A result that is a ring and an error. -/
def RP (w : World) (cs : List Msg) (hd sz x : Int) (e : Ending) (w' : World) : Prop := ∃ A c, e = .returned (.tuple #[.agg #[.slice A cs.length c, .int .i64 hd, .int .i64 sz], .int .i64 x]) ∧ Nw w.heap.size A ∧ Ls w' w'.heap.size (.slice A cs.length c) cs ∧ Below w.heap.size w w'
end Go.Proofs.Ytijpflljopckiaa
namespace Go.Proofs.Ytijpflljopckiaa
open Go.RowKit
set_option linter.unusedVariables false

theorem MRow.of_own {W : World} {base q n cap : Nat} {e : TypeId} {l : List Msg} (h : W.ownsRow base e 7 (.slice (some ⟨q, 0, none⟩) n cap) n (lcs l)) : MRow W q n (fun i => l.getD i zM) := by
  refine ⟨?_, fun k hk j hj => ?_, fun j => World.ownsRow.frozenAt h j⟩
  · rcases h.2 with ⟨hv, _⟩ | ⟨g', cap', cur, hv, _, hh, _⟩
    · cases hv
    · cases hv; exact (Array.getElem?_eq_some_iff.1 hh).1
  · have hl : k < l.length := by have := h.1; rw [lcs_len] at this; omega
    have hj7 : j < (l[k]).l.length := hj
    have := h.cells (g := q) rfl (k * 7 + j) ((l[k]).l[j]) (by rw [lcs_at l k j hl hj]; exact List.getElem?_eq_getElem hj7)
    rw [add_mk, Nat.zero_add] at this
    rw [this]
    simp [List.getD, hl]

end Go.Proofs.Ytijpflljopckiaa
namespace Go.Proofs.Ytijpflljopckiaa
open Go.RowKit
set_option linter.unusedVariables false

/-- A ring, a message and a result in blocks of the call's own. -/
structure PbAt (w : World) (p q r : Nat) (A : Option Addr) (n c : Nat) (hd sz : Int) (M : Msg) (W : World) : Prop where
  rb : RB W p A n c hd sz
  ms : MAt W q M.nth M.bd
  rs : RB W r none 0 0 0 0
  bel : Below w.heap.size w W
  old : w.heap.size ≤ p ∧ p < q ∧ q < r
section
variable {w W W' : World} {p q r n c : Nat} {A : Option Addr} {hd sz : Int} {M : Msg}
theorem PbAt.below (h : PbAt w p q r A n c hd sz M W) (hb : Below W.heap.size W W') : PbAt w p q r A n c hd sz M W' :=
  ⟨h.rb.below hb h.rb.lt, h.ms.below hb h.ms.1, h.rs.below hb h.rs.lt, h.bel.trans (hb.mono h.bel.size), h.old⟩
theorem PbAt.drew (h : PbAt w p q r A n c hd sz M W) : PbAt w p q r A n c hd sz M W.drew := ⟨h.rb.drew, h.ms, h.rs.drew, h.bel.drew, h.old⟩
theorem PbAt.setA (h : PbAt w p q r A n c hd sz M W) (A' : Option Addr) (n' c' : Nat) : PbAt w p q r A' n' c' hd sz M (W.setCell ⟨p, 0, none⟩ (.slice A' n' c')) :=
  ⟨h.rb.setA A' n' c', h.ms.other (p := ⟨p, 0, none⟩) (show p ≠ q by have := h.old; omega) _, h.rs.other (a := ⟨p, 0, none⟩) (show p ≠ r by have := h.old; omega) _, h.bel.setCell (p := ⟨p, 0, none⟩) h.old.1 _, h.old⟩
theorem PbAt.setH (h : PbAt w p q r A n c hd sz M W) (x : Int) : PbAt w p q r A n c x sz M (W.setCell ⟨p, 1, none⟩ (.int .i64 x)) :=
  ⟨h.rb.setH x, h.ms.other (p := ⟨p, 1, none⟩) (show p ≠ q by have := h.old; omega) _, h.rs.other (a := ⟨p, 1, none⟩) (show p ≠ r by have := h.old; omega) _, h.bel.setCell (p := ⟨p, 1, none⟩) h.old.1 _, h.old⟩
theorem PbAt.setS (h : PbAt w p q r A n c hd sz M W) (x : Int) : PbAt w p q r A n c hd x M (W.setCell ⟨p, 2, none⟩ (.int .i64 x)) :=
  ⟨h.rb.setS x, h.ms.other (p := ⟨p, 2, none⟩) (show p ≠ q by have := h.old; omega) _, h.rs.other (a := ⟨p, 2, none⟩) (show p ≠ r by have := h.old; omega) _, h.bel.setCell (p := ⟨p, 2, none⟩) h.old.1 _, h.old⟩
theorem PbAt.sets (h : PbAt w p q r A n c hd sz M W) {b : Nat} (hb : r < b) (m : Nat) (vs : List Value) : PbAt w p q r A n c hd sz M (W.setCells b m vs) :=
  ⟨h.rb.sets (by have := h.old; omega) m vs, h.ms.sets (by have := h.old; omega) m vs, h.rs.sets (by omega) m vs, sets_below (by have := h.old; omega) vs m W h.bel, h.old⟩
theorem PbAt.sets7 (h : PbAt w p q r A n c hd sz M W) {b : Nat} (hb : r < b) (m : Nat) (X : Msg) : PbAt w p q r A n c hd sz M (((((((W.setCell ⟨b, m, none⟩ (.int .i64 X.id)).setCell ⟨b, m + 1, none⟩ (.int .i64 X.rt)).setCell ⟨b, m + 2, none⟩ (.int .i64 X.ep)).setCell ⟨b, m + 3, none⟩ (.int .i64 X.ct)).setCell ⟨b, m + 4, none⟩ (.int .i64 X.gn)).setCell ⟨b, m + 5, none⟩ (.int .i64 X.st)).setCell ⟨b, m + 6, none⟩ (.string X.bd)) := h.sets hb m X.l
theorem PbAt.facts (h : PbAt w p q r A n c hd sz M W) : (W.cell? ⟨p, 0, none⟩ = some (.slice A n c) ∧ W.cell? ⟨p, 1, none⟩ = some (.int .i64 hd) ∧ W.cell? ⟨p, 2, none⟩ = some (.int .i64 sz) ∧ W.frozen? ⟨p, 0, none⟩ = false ∧ W.frozen? ⟨p, 1, none⟩ = false ∧ W.frozen? ⟨p, 2, none⟩ = false ∧ p < W.heap.size) ∧ (W.cell? ⟨q, 0, none⟩ = some (.int .i64 M.id) ∧ W.cell? ⟨q, 1, none⟩ = some (.int .i64 M.rt) ∧ W.cell? ⟨q, 2, none⟩ = some (.int .i64 M.ep) ∧ W.cell? ⟨q, 3, none⟩ = some (.int .i64 M.ct) ∧ W.cell? ⟨q, 4, none⟩ = some (.int .i64 M.gn) ∧ W.cell? ⟨q, 5, none⟩ = some (.int .i64 M.st) ∧ W.cell? ⟨q, 6, none⟩ = some (.string M.bd)) ∧ (W.cell? ⟨r, 0, none⟩ = some (.slice none 0 0) ∧ W.cell? ⟨r, 1, none⟩ = some (.int .i64 0) ∧ W.cell? ⟨r, 2, none⟩ = some (.int .i64 0) ∧ W.frozen? ⟨r, 0, none⟩ = false ∧ W.frozen? ⟨r, 1, none⟩ = false ∧ W.frozen? ⟨r, 2, none⟩ = false ∧ r < W.heap.size) :=
  ⟨h.rb.facts, h.ms.facts.1, h.rs.facts⟩
theorem PbAt.start (w : World) (A : Option Addr) (n c : Nat) (hd sz : Int) (M : Msg) (t u : TypeId) : PbAt w w.heap.size (w.heap.size + 1) (w.heap.size + 1 + 1) A n c hd sz M (((w.alloc (.cells #[.slice A n c, .int .i64 hd, .int .i64 sz] t)).alloc (.cells M.cs u)).alloc (.cells #[.slice none 0 0, .int .i64 0, .int .i64 0] t)) := by
  have h := MAt.fresh (f := M.nth) (w.alloc (.cells #[.slice A n c, .int .i64 hd, .int .i64 sz] t)) M.id M.rt M.ep M.ct M.gn M.st M.bd u rfl rfl rfl rfl rfl rfl
  have e : (w.alloc (.cells #[.slice A n c, .int .i64 hd, .int .i64 sz] t)).heap.size = w.heap.size + 1 := by simp
  have e2 : ((w.alloc (.cells #[.slice A n c, .int .i64 hd, .int .i64 sz] t)).alloc (.cells M.cs u)).heap.size = w.heap.size + 1 + 1 := by simp
  rw [e] at h
  have k := RB.fresh ((w.alloc (.cells #[.slice A n c, .int .i64 hd, .int .i64 sz] t)).alloc (.cells M.cs u)) none 0 0 0 0 t
  rw [e2] at k
  exact ⟨((RB.fresh w A n c hd sz t).alloc _).alloc _, h.alloc _, k, (((Below.refl _ _).alloc (Nat.le_refl _) _).alloc (by omega) _).alloc (by omega) _, Nat.le_refl _, Nat.lt_succ_self _, Nat.lt_succ_self _⟩
theorem PbAt.s10 (h : PbAt w p q r A n c hd sz M W) : (W.cell? ⟨p, 0, none⟩ = some (.slice A n c) ∧ W.cell? ⟨p, 1, none⟩ = some (.int .i64 hd) ∧ W.cell? ⟨p, 2, none⟩ = some (.int .i64 sz) ∧ W.cell? ⟨q, 0, none⟩ = some (.int .i64 M.id) ∧ W.cell? ⟨q, 1, none⟩ = some (.int .i64 M.rt) ∧ W.cell? ⟨q, 2, none⟩ = some (.int .i64 M.ep) ∧ W.cell? ⟨q, 3, none⟩ = some (.int .i64 M.ct) ∧ W.cell? ⟨q, 4, none⟩ = some (.int .i64 M.gn) ∧ W.cell? ⟨q, 5, none⟩ = some (.int .i64 M.st) ∧ W.cell? ⟨q, 6, none⟩ = some (.string M.bd)) :=
  ⟨h.rb.c0, h.rb.c1, h.rb.c2, h.ms.facts.1⟩
/-- The result block at the end. -/
theorem PbAt.result (h : PbAt w p q r A n c hd sz M W) (A' : Option Addr) (n' c' : Nat) (x y : Int) : Below w.heap.size w (((W.setCell ⟨r, 0, none⟩ (.slice A' n' c')).setCell ⟨r, 1, none⟩ (.int .i64 x)).setCell ⟨r, 2, none⟩ (.int .i64 y)) := by
  have hr : w.heap.size ≤ r := by have := h.old; omega
  exact ((h.bel.setCell (p := ⟨r, 0, none⟩) hr _).setCell (p := ⟨r, 1, none⟩) hr _).setCell (p := ⟨r, 2, none⟩) hr _
end
theorem MRow.put7n {W : World} {q n : Nat} {f : Nat → Msg} (h : MRow W q n f) {k : Nat} (hk : k < n) (M : Msg) : MRow (((((((W.setCell ⟨q, k * 7, none⟩ (.int .i64 M.id)).setCell ⟨q, k * 7 + 1, none⟩ (.int .i64 M.rt)).setCell ⟨q, k * 7 + 2, none⟩ (.int .i64 M.ep)).setCell ⟨q, k * 7 + 3, none⟩ (.int .i64 M.ct)).setCell ⟨q, k * 7 + 4, none⟩ (.int .i64 M.gn)).setCell ⟨q, k * 7 + 5, none⟩ (.int .i64 M.st)).setCell ⟨q, k * 7 + 6, none⟩ (.string M.bd)) q n (fun i => if i = k then M else f i) := h.put hk M

/-- What PushBack returns. -/
noncomputable def pbC (cs : List Msg) (hd sz : Int) (M : Msg) : List Msg := if puE cs hd sz M = 0 then fil cs.length hd.toNat (ord cs hd.toNat sz.toNat ++ [M]) else []
attribute [local go_sem ↓] Go.wp_at_zero Go.wp_at_succ
end Go.Proofs.Ytijpflljopckiaa
namespace Go.Proofs.Ytijpflljopckiaa
open Go.RowKit
set_option linter.unusedVariables false

/-- A ring, a result ring and a result message in blocks of the call's own. -/
structure PoAt (w : World) (p r s : Nat) (A : Option Addr) (n c : Nat) (hd sz : Int) (W : World) : Prop where
  rb : RB W p A n c hd sz
  rs : RB W r none 0 0 0 0
  ms : MAt W s zM.nth zM.bd
  bel : Below w.heap.size w W
  old : w.heap.size ≤ p ∧ p < r ∧ r < s
section
variable {w W W' : World} {p r s n c : Nat} {A : Option Addr} {hd sz : Int}
theorem PoAt.below (h : PoAt w p r s A n c hd sz W) (hb : Below W.heap.size W W') : PoAt w p r s A n c hd sz W' :=
  ⟨h.rb.below hb h.rb.lt, h.rs.below hb h.rs.lt, h.ms.below hb h.ms.1, h.bel.trans (hb.mono h.bel.size), h.old⟩
theorem PoAt.drew (h : PoAt w p r s A n c hd sz W) : PoAt w p r s A n c hd sz W.drew := ⟨h.rb.drew, h.rs.drew, h.ms, h.bel.drew, h.old⟩
theorem PoAt.alloc (h : PoAt w p r s A n c hd sz W) (o : Obj) : PoAt w p r s A n c hd sz (W.alloc o) := h.below ((Below.refl _ _).alloc (Nat.le_refl _) o)
theorem PoAt.setA (h : PoAt w p r s A n c hd sz W) (A' : Option Addr) (n' c' : Nat) : PoAt w p r s A' n' c' hd sz (W.setCell ⟨p, 0, none⟩ (.slice A' n' c')) :=
  ⟨h.rb.setA A' n' c', h.rs.other (a := ⟨p, 0, none⟩) (show p ≠ r by have := h.old; omega) _, h.ms.other (p := ⟨p, 0, none⟩) (show p ≠ s by have := h.old; omega) _, h.bel.setCell (p := ⟨p, 0, none⟩) h.old.1 _, h.old⟩
theorem PoAt.setH (h : PoAt w p r s A n c hd sz W) (x : Int) : PoAt w p r s A n c x sz (W.setCell ⟨p, 1, none⟩ (.int .i64 x)) :=
  ⟨h.rb.setH x, h.rs.other (a := ⟨p, 1, none⟩) (show p ≠ r by have := h.old; omega) _, h.ms.other (p := ⟨p, 1, none⟩) (show p ≠ s by have := h.old; omega) _, h.bel.setCell (p := ⟨p, 1, none⟩) h.old.1 _, h.old⟩
theorem PoAt.setS (h : PoAt w p r s A n c hd sz W) (x : Int) : PoAt w p r s A n c hd x (W.setCell ⟨p, 2, none⟩ (.int .i64 x)) :=
  ⟨h.rb.setS x, h.rs.other (a := ⟨p, 2, none⟩) (show p ≠ r by have := h.old; omega) _, h.ms.other (p := ⟨p, 2, none⟩) (show p ≠ s by have := h.old; omega) _, h.bel.setCell (p := ⟨p, 2, none⟩) h.old.1 _, h.old⟩
theorem PoAt.sets7 (h : PoAt w p r s A n c hd sz W) {b : Nat} (hb : s < b) (m : Nat) (X : Msg) : PoAt w p r s A n c hd sz (((((((W.setCell ⟨b, m, none⟩ (.int .i64 X.id)).setCell ⟨b, m + 1, none⟩ (.int .i64 X.rt)).setCell ⟨b, m + 2, none⟩ (.int .i64 X.ep)).setCell ⟨b, m + 3, none⟩ (.int .i64 X.ct)).setCell ⟨b, m + 4, none⟩ (.int .i64 X.gn)).setCell ⟨b, m + 5, none⟩ (.int .i64 X.st)).setCell ⟨b, m + 6, none⟩ (.string X.bd)) :=
  ⟨h.rb.sets (by have := h.old; omega) m X.l, h.rs.sets (by have := h.old; omega) m X.l, h.ms.sets (by omega) m X.l, sets_below (by have := h.old; omega) X.l m W h.bel, h.old⟩
theorem MAt.sets7 {q b : Nat} {f : Nat → Int} {t : ByteArray} (h : MAt W q f t) (hb : b ≠ q) (m : Nat) (X : Msg) : MAt (((((((W.setCell ⟨b, m, none⟩ (.int .i64 X.id)).setCell ⟨b, m + 1, none⟩ (.int .i64 X.rt)).setCell ⟨b, m + 2, none⟩ (.int .i64 X.ep)).setCell ⟨b, m + 3, none⟩ (.int .i64 X.ct)).setCell ⟨b, m + 4, none⟩ (.int .i64 X.gn)).setCell ⟨b, m + 5, none⟩ (.int .i64 X.st)).setCell ⟨b, m + 6, none⟩ (.string X.bd)) q f t := h.sets hb m X.l
theorem PoAt.facts (h : PoAt w p r s A n c hd sz W) : (W.cell? ⟨p, 0, none⟩ = some (.slice A n c) ∧ W.cell? ⟨p, 1, none⟩ = some (.int .i64 hd) ∧ W.cell? ⟨p, 2, none⟩ = some (.int .i64 sz) ∧ W.frozen? ⟨p, 0, none⟩ = false ∧ W.frozen? ⟨p, 1, none⟩ = false ∧ W.frozen? ⟨p, 2, none⟩ = false ∧ p < W.heap.size) ∧ (W.cell? ⟨r, 0, none⟩ = some (.slice none 0 0) ∧ W.cell? ⟨r, 1, none⟩ = some (.int .i64 0) ∧ W.cell? ⟨r, 2, none⟩ = some (.int .i64 0) ∧ W.frozen? ⟨r, 0, none⟩ = false ∧ W.frozen? ⟨r, 1, none⟩ = false ∧ W.frozen? ⟨r, 2, none⟩ = false ∧ r < W.heap.size) ∧ ((W.cell? ⟨s, 0, none⟩ = some (.int .i64 0) ∧ W.cell? ⟨s, 1, none⟩ = some (.int .i64 0) ∧ W.cell? ⟨s, 2, none⟩ = some (.int .i64 0) ∧ W.cell? ⟨s, 3, none⟩ = some (.int .i64 0) ∧ W.cell? ⟨s, 4, none⟩ = some (.int .i64 0) ∧ W.cell? ⟨s, 5, none⟩ = some (.int .i64 0) ∧ W.cell? ⟨s, 6, none⟩ = some (.string ByteArray.empty)) ∧ W.frozen? ⟨s, 0, none⟩ = false ∧ W.frozen? ⟨s, 1, none⟩ = false ∧ W.frozen? ⟨s, 2, none⟩ = false ∧ W.frozen? ⟨s, 3, none⟩ = false ∧ W.frozen? ⟨s, 4, none⟩ = false ∧ W.frozen? ⟨s, 5, none⟩ = false ∧ W.frozen? ⟨s, 6, none⟩ = false ∧ s < W.heap.size) :=
  ⟨h.rb.facts, h.rs.facts, h.ms.facts.1, h.ms.2.2.2 0 (by omega), h.ms.2.2.2 1 (by omega), h.ms.2.2.2 2 (by omega), h.ms.2.2.2 3 (by omega), h.ms.2.2.2 4 (by omega), h.ms.2.2.2 5 (by omega), h.ms.2.2.2 6 (by omega), h.ms.1⟩
theorem PoAt.start (w : World) (A : Option Addr) (n c : Nat) (hd sz : Int) (t u : TypeId) : PoAt w w.heap.size (w.heap.size + 1) (w.heap.size + 1 + 1) A n c hd sz (((w.alloc (.cells #[.slice A n c, .int .i64 hd, .int .i64 sz] t)).alloc (.cells #[.slice none 0 0, .int .i64 0, .int .i64 0] t)).alloc (.cells #[.int .i64 0, .int .i64 0, .int .i64 0, .int .i64 0, .int .i64 0, .int .i64 0, .string ByteArray.empty] u)) := by
  have e : (w.alloc (.cells #[.slice A n c, .int .i64 hd, .int .i64 sz] t)).heap.size = w.heap.size + 1 := by simp
  have e2 : ((w.alloc (.cells #[.slice A n c, .int .i64 hd, .int .i64 sz] t)).alloc (.cells #[.slice none 0 0, .int .i64 0, .int .i64 0] t)).heap.size = w.heap.size + 1 + 1 := by simp
  have k := RB.fresh (w.alloc (.cells #[.slice A n c, .int .i64 hd, .int .i64 sz] t)) none 0 0 0 0 t
  have h := MAt.fresh (f := zM.nth) ((w.alloc (.cells #[.slice A n c, .int .i64 hd, .int .i64 sz] t)).alloc (.cells #[.slice none 0 0, .int .i64 0, .int .i64 0] t)) 0 0 0 0 0 0 ByteArray.empty u rfl rfl rfl rfl rfl rfl
  rw [e] at k
  rw [e2] at h
  exact ⟨((RB.fresh w A n c hd sz t).alloc _).alloc _, k.alloc _, h, (((Below.refl _ _).alloc (Nat.le_refl _) _).alloc (by omega) _).alloc (by omega) _, Nat.le_refl _, Nat.lt_succ_self _, Nat.lt_succ_self _⟩
end

/-- A result that is a ring, a message and an error. -/
def RMP (w : World) (cs : List Msg) (hd sz : Int) (X : Msg) (x : Int) (e : Ending) (w' : World) : Prop := ∃ A c, e = .returned (.tuple #[.agg #[.slice A cs.length c, .int .i64 hd, .int .i64 sz], X.v, .int .i64 x]) ∧ Nw w.heap.size A ∧ Ls w' w'.heap.size (.slice A cs.length c) cs ∧ Below w.heap.size w w'

/-- What New returns. -/
def nwC (k : Int) : List Msg := if wi k 1 12 = true then (List.range k.toNat).map (fun _ => zM) else []
def nwE (k : Int) : Int := if wi k 1 12 = true then 0 else 1

theorem new_end {w : World} {o : Obj} {cs : Array Value} {t : TypeId} {k : Nat} {l : List Msg} (h : MRow ((w.alloc o).alloc (.cells cs t)) (w.alloc o).heap.size k (fun _ => zM)) (hl : l = (List.range k).map (fun _ => zM)) (hk : k ≤ maxLen) : Ls ((w.alloc o).alloc (.cells cs t)) ((w.alloc o).alloc (.cells cs t)).heap.size (.slice (some ⟨w.heap.size + 1, 0, none⟩) k k) l := by
  have e : (w.alloc o).heap.size = w.heap.size + 1 := by simp
  rw [e] at h
  exact h.ls' hl.symm (Nat.le_refl _) hk

set_option maxHeartbeats 2000000 in
theorem gnew_any (k : Int) (w : World) : Calls Try.prog 95 #[.int .i64 k] w (RP w (nwC k) 0 0 (nwE k)) := by
  have hcs : ∀ (x lo hi : Int) (k : Bool), wi x lo hi = k → Hid (∀ w, Calls Try.prog 118 #[.int .i64 x, .int .i64 lo, .int .i64 hi] w fun e w' => e = .returned (.bool k) ∧ w = w') := fun x lo hi k h => Lib.hid (fun w => by rw [← h]; exact gwithin_any x lo hi w)
  have HB0 := Lib.hid ((Below.refl w.heap.size w).alloc (Nat.le_refl _) (.cells #[.slice none 0 0, .int .i64 0, .int .i64 0] 79))
  cases h : wi k 1 12 with
  | false =>
    have H := hcs _ _ _ _ h
    have HC := Lib.hid (show nwC k = [] from if_neg (by simp [h]))
    have HE := Lib.hid (show nwE k = 1 from if_neg (by simp [h]))
    clear hcs h
    go_enter Try.func95, Try.ntmps95
    go_wp2_with fail
    refine (H.out _).mono ?_
    rintro e w1 ⟨rfl, rfl⟩
    go_wp2
    exact bodyPost_ret (v := .tuple #[.agg #[.slice none 0 0, .int .i64 0, .int .i64 0], .int .i64 1]) (by simp only [results, Try.results95]; go_simp <;> rfl) rfl ⟨none, 0, by rw [HC.out, HE.out]; rfl, nw_none, by rw [HC.out]; exact Ls.nil, HB0.out⟩
  | true =>
    have H := hcs _ _ _ _ h
    obtain ⟨k1, k2⟩ := wi_of h
    obtain ⟨k, rfl⟩ := Int.eq_ofNat_of_zero_le (show 0 ≤ k by omega)
    have HC := Lib.hid (show nwC (k : Int) = (List.range k).map (fun _ => zM) from if_pos h)
    have HE := Lib.hid (show nwE (k : Int) = 0 from if_pos h)
    have hmk := run_make_msgs k (by omega)
    have hlen : (nwC (k : Int)).length = k := by rw [HC.out]; simp
    have HLN := Lib.hid hlen
    have HM := Lib.hid (MRow.made (w.alloc (.cells #[.slice (some ⟨w.heap.size + 1, 0, none⟩) k k, .int .i64 0, .int .i64 0] 79)) k 151)
    have HKM := Lib.hid (show k ≤ maxLen by unfold maxLen; omega)
    clear hcs h hlen
    go_enter Try.func95, Try.ntmps95
    go_wp2_with fail
    refine (H.out _).mono ?_
    rintro e w1 ⟨rfl, rfl⟩
    go_wp2
    exact bodyPost_ret (v := .tuple #[.agg #[.slice (some ⟨w.heap.size + 1, 0, none⟩) k k, .int .i64 0, .int .i64 0], .int .i64 0]) (by simp only [results, Try.results95]; go_simp <;> rfl) rfl ⟨some ⟨w.heap.size + 1, 0, none⟩, k, by rw [HLN.out, HE.out], nw_some (by omega), by rw [HLN.out]; exact new_end HM.out HC.out HKM.out, ((Below.refl _ _).alloc (Nat.le_refl _) _).alloc (by simp) _⟩
end Go.Proofs.Ytijpflljopckiaa
namespace Go.Proofs.Ytijpflljopckiaa
open Go.RowKit
set_option linter.unusedVariables false

/-- Messages that a ring may hold. -/
def Gd (l : List Msg) : Prop := (∀ M ∈ l, vf M = 0) ∧ ¬ dupP l
section
variable {n hd : Nat} {l : List Msg}
theorem rgV_fil (h1 : 1 ≤ n) (h2 : n ≤ 12) (hh : hd < n) (hl : l.length ≤ n) (hg : Gd l) : rgV (fil n hd l) (hd : Int) (l.length : Int) = 0 := by
  refine rgV_ok (nm_mk (by rw [fil_len]; omega)) (fun k hk hlt => ?_) ?_ ?_
  · rw [fil_len] at hlt
    simp only [Int.toNat_natCast] at hk ⊢
    rw [cel_fil l hh hlt, List.getD_eq_getElem?_getD, List.getElem?_eq_none hk]
    rfl
  · simp only [Int.toNat_natCast]
    rw [ord_fil l hh hl]
    exact fe_all hg.1
  · simp only [Int.toNat_natCast]
    rw [ord_fil l hh hl]
    exact hg.2
theorem lsF_fil (h1 : 1 ≤ n) (h2 : n ≤ 12) (hh : hd < n) (hl : l.length ≤ n) (hg : Gd l) : lsF (fil n hd l) (hd : Int) (l.length : Int) = l := by
  unfold lsF
  rw [if_pos (rgV_fil h1 h2 hh hl hg)]
  simp only [Int.toNat_natCast]
  exact ord_fil l hh hl
theorem puE_fil (h1 : 1 ≤ n) (h2 : n ≤ 12) (hh : hd < n) (hl : l.length < n) (hg : Gd l) {M : Msg} (hM : vf M = 0) (hi : ∀ N ∈ l, N.id ≠ M.id) : puE (fil n hd l) (hd : Int) (l.length : Int) M = 0 := by
  unfold puE
  rw [if_neg (by simpa using rgV_fil h1 h2 hh (by omega) hg), if_neg (by simpa using hM), if_neg (by rw [fil_len]; omega)]
  have e : ord (fil n hd l) (hd : Int).toNat (l.length : Int).toNat = l := by simp only [Int.toNat_natCast]; exact ord_fil l hh (by omega)
  refine if_neg (fun h => ?_)
  rw [e] at h
  obtain ⟨N, hN, e⟩ := (ixF_ge l M.id).1 h
  exact hi N hN e
theorem pbC_fil (h1 : 1 ≤ n) (h2 : n ≤ 12) (hh : hd < n) (hl : l.length < n) (hg : Gd l) {M : Msg} (hM : vf M = 0) (hi : ∀ N ∈ l, N.id ≠ M.id) : pbC (fil n hd l) (hd : Int) (l.length : Int) M = fil n hd (l ++ [M]) := by
  unfold pbC
  rw [if_pos (puE_fil h1 h2 hh hl hg hM hi)]
  simp only [Int.toNat_natCast]
  rw [ord_fil l hh (by omega), fil_len]
theorem gd_nil : Gd [] := ⟨by simp, by rintro ⟨i, j, hi, _⟩; simp at hi⟩
theorem gd_front (hg : Gd l) {M : Msg} (hM : vf M = 0) (hi : ∀ N ∈ l, N.id ≠ M.id) : Gd (M :: l) := by
  refine ⟨fun N hN => ?_, ?_⟩
  · rcases List.mem_cons.1 hN with h | h
    · rw [h]; exact hM
    · exact hg.1 N h
  · rintro ⟨i, j, h1, h2, hij, e⟩
    obtain ⟨j, rfl⟩ : ∃ k, j = k + 1 := ⟨j - 1, by omega⟩
    have hj : j < l.length := by simpa using h2
    cases i with
    | zero => exact hi _ (List.getElem_mem hj) (by simpa using e.symm)
    | succ i => exact hg.2 ⟨i, j, by omega, hj, by omega, by simpa using e⟩
end
theorem nwC_fil {k : Nat} (h1 : 1 ≤ k) (h2 : k ≤ 12) (hd : Nat) (hh : hd < k) : nwC (k : Int) = fil k hd [] ∧ nwE (k : Int) = 0 := by
  have h : wi (k : Int) 1 12 = true := wi_true (by omega) (by omega)
  unfold nwC nwE
  rw [if_pos h, if_pos h]
  exact ⟨row_fil hh (fun j _ => by simp), rfl⟩
end Go.Proofs.Ytijpflljopckiaa
