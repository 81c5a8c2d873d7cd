/- What is proved here: an arena that a loop fills slot by slot: what an append of a slot or of a stripe leaves; Kb; a set of numbers that is kept as a map with bool elements: what a look-up gives, what a store leaves; dead.hasSameID by one contract; dead.isCapacity, dead.New, dead.Validate, dead.Room, dead.examine by contracts. -/
import Derived.Test.YtijpflljopckiaaJ27
import Derived.Test.YtijpflljopckiaaJ13
import Derived.Test.YtijpflljopckiaaJ30
import Derived.Test.YtijpflljopckiaaJ14
import Derived.Test.YtijpflljopckiaaRows
import Derived.Test.YtijpflljopckiaaJ02
import Derived.WalkKit
import Derived.Outline
import Derived.IntWalk
import Derived.Test.YtijpflljopckiaaJ03
import Derived.Maps.OwnOps
import Derived.Maps.Views
import Derived.Carry
namespace Go.Proofs.Ytijpflljopckiaa
open Go.RowKit
set_option linter.unusedVariables false

/-- A slot of a new arena, and its stripe. -/
noncomputable def nwSl (s : Su) (i : Nat) : So := ⟨0, ffS (nwD s.sl s.lv) i s.cp.toNat⟩
def stE (s : Su) : St := ⟨0, s.ep, 0, 0⟩
/-- An arena with i slots and k stripes. -/
noncomputable def grA (s : Su) (i k : Nat) (c : Int) : Ar := ⟨(List.range i).map (nwSl s), List.replicate k (stE s), 0, c, [], nwD s.sl s.lv, s.ep, s.ck, s.ni⟩
theorem grA_sl (s : Su) (i k : Nat) (c : Int) : (grA s i k c).sl.length = i := by simp [grA]
theorem grA_st (s : Su) (i k : Nat) (c : Int) : (grA s i k c).st.length = k := by simp [grA]
/-- The cells of its box. -/
abbrev KG (y : Nat) (s : Su) (i k : Nat) (c : Int) (A : Option Addr) (c1 : Nat) (A2 : Option Addr) (c2 : Nat) (X : Dx) (W : World) : Prop :=
  W.cell? ⟨y, 0, none⟩ = some (.slice A i c1) ∧ W.cell? ⟨y, 1, none⟩ = some (.slice A2 k c2) ∧ W.cell? ⟨y, 2, none⟩ = some (.int .i64 0) ∧ W.cell? ⟨y, 3, none⟩ = some (.int .i64 c) ∧ W.cell? ⟨y, 4, none⟩ = some (.slice none 0 0) ∧ W.cell? ⟨y, 5, none⟩ = some (.int .i64 (nwD s.sl s.lv).vn) ∧ W.cell? ⟨y, 6, none⟩ = some (.slice X.A (nwD s.sl s.lv).l.length X.c) ∧ W.cell? ⟨y, 7, none⟩ = some (.slice X.A2 (nwD s.sl s.lv).F.length X.c2) ∧ W.cell? ⟨y, 8, none⟩ = some (.int .i64 s.ep) ∧ W.cell? ⟨y, 9, none⟩ = some (.int .i64 s.ck) ∧ W.cell? ⟨y, 10, none⟩ = some (.int .i64 s.ni)
/-- The boxes and the rows of an arena that grows. -/
structure Gw12 (w : World) (p r y : Nat) (s : Su) (c : Int) (i k : Nat) (A : Option Addr) (c1 : Nat) (q : List Sl) (A2 : Option Addr) (c2 : Nat) (X : Dx) (W : World) : Prop where
  sb : SuB W p s
  rb : QB W r zA zAx
  yk : KG y s i k c A c1 A2 c2 X W
  yf : ∀ o, W.frozen? ⟨y, o, none⟩ = false
  yl : y < W.heap.size
  o1 : W.ownsRow (y + 1) 88 9 (.slice A i c1) i (qcs q)
  o2 : W.ownsRow (y + 1) 90 4 (.slice A2 k c2) k (tcs (List.replicate k (stE s)))
  so : q.map Sl.so = (List.range i).map (nwSl s)
  sr : ∀ t ∈ q, SR W W.heap.size t.sh t.sx ∧ t.sx.nw (y + 1)
  dr : DR W W.heap.size (nwD s.sl s.lv) X
  dn : X.nw (r + 1) ∧ DOff (nwD s.sl s.lv) X y
  x1 : ∀ b, (Value.slice A i c1).ownBlock = some b → (∀ t ∈ q, SOff t.sh t.sx b) ∧ DOff (nwD s.sl s.lv) X b ∧ (Value.slice A2 k c2).ownBlock ≠ some b
  x2 : ∀ b, (Value.slice A2 k c2).ownBlock = some b → (∀ t ∈ q, SOff t.sh t.sx b) ∧ DOff (nwD s.sl s.lv) X b
  ne : w.heap.size ≤ p ∧ p < r ∧ r < y
  bel : Below w.heap.size w W
section
variable {w W W' : World} {p r y : Nat} {s : Su} {c : Int} {i k : Nat} {A A2 : Option Addr} {c1 c2 : Nat} {q : List Sl} {X : Dx}
theorem KG.keep (h : KG y s i k c A c1 A2 c2 X W) (hc : ∀ o, W'.cell? ⟨y, o, none⟩ = W.cell? ⟨y, o, none⟩) : KG y s i k c A c1 A2 c2 X W' := by
  obtain ⟨k0, k1, k2, k3, k4, k5, k6, k7, k8, k9, k10⟩ := h
  exact ⟨(hc 0).trans k0, (hc 1).trans k1, (hc 2).trans k2, (hc 3).trans k3, (hc 4).trans k4, (hc 5).trans k5, (hc 6).trans k6, (hc 7).trans k7, (hc 8).trans k8, (hc 9).trans k9, (hc 10).trans k10⟩
theorem SR.grownN {g : Option Nat} {S : Sh} {D : Sx} (h : SR W W.heap.size S D) (hg : W.grownBy W' g) (ho : ∀ b, g = some b → SOff S D b) : SR W' W'.heap.size S D := by
  cases g with
  | none => exact h.up ((Below.refl _ _).grown hg (Nat.le_refl _) (fun k e => by cases e))
  | some b => exact h.grownS hg (ho b rfl)
theorem DR.grownN {g : Option Nat} {d : Dd} {X : Dx} (h : DR W W.heap.size d X) (hg : W.grownBy W' g) (ho : ∀ b, g = some b → DOff d X b) : DR W' W'.heap.size d X := by
  cases g with
  | none => exact h.up ((Below.refl _ _).grown hg (Nat.le_refl _) (fun k e => by cases e))
  | some b => exact (h.grownO (ho b rfl) (Nat.le_refl _) hg).more hg.size
theorem QB.grownN {g : Option Nat} {b : Nat} {a : Ar} {Y : Ax} (h : QB W b a Y) (hg : W.grownBy W' g) (ho : ∀ x, g = some x → b ≠ x) : QB W' b a Y := by
  cases g with
  | none => exact h.up ((Below.refl _ _).grown hg (Nat.le_refl _) (fun k e => by cases e))
  | some x => exact h.grown hg (ho x rfl)
theorem SuB.grownN {g : Option Nat} {b : Nat} (h : SuB W b s) (hg : W.grownBy W' g) (ho : ∀ x, g = some x → b ≠ x) : SuB W' b s := by
  cases g with
  | none => exact h.up ((Below.refl _ _).grown hg (Nat.le_refl _) (fun k e => by cases e))
  | some x => exact h.grown hg (ho x rfl)
theorem own_farN {base size n : Nat} {g : Option Nat} {t : TypeId} {v : Value} {xs : List Value} (h : W.ownsRow base t size v n xs) (hg : W.grownBy W' g) (hne : ∀ b, g = some b → v.ownBlock ≠ some b) : W'.ownsRow base t size v n xs := by
  cases g with
  | none => exact own_up10 h ((Below.refl _ _).grown hg (Nat.le_refl _) (fun k e => by cases e))
  | some b => exact own_far10 h hg (hne b rfl)
theorem cell_farN {g : Option Nat} {b : Nat} (hg : W.grownBy W' g) (hb : b < W.heap.size) (ho : ∀ x, g = some x → b ≠ x) (o : Nat) : W'.cell? ⟨b, o, none⟩ = W.cell? ⟨b, o, none⟩ ∧ W'.frozen? ⟨b, o, none⟩ = W.frozen? ⟨b, o, none⟩ := by
  cases g with
  | none =>
    have h := (Below.refl W.heap.size W).grown hg (Nat.le_refl _) (fun k e => by cases e)
    exact ⟨h.cell (p := ⟨b, o, none⟩) hb, h.frozen (p := ⟨b, o, none⟩) hb⟩
  | some x => exact ⟨hg.cell_far ⟨b, o, none⟩ hb (fun e => by injection e with e; exact ho x rfl e), hg.frozen_far ⟨b, o, none⟩ hb (fun e => by injection e with e; exact ho x rfl e)⟩
theorem Gw12.below (h : Gw12 w p r y s c i k A c1 q A2 c2 X W) (hb : Below W.heap.size W W') : Gw12 w p r y s c i k A c1 q A2 c2 X W' :=
  ⟨h.sb.up hb, h.rb.up hb, h.yk.keep (fun o => hb.cell (p := ⟨y, o, none⟩) h.yl), fun o => (hb.frozen (p := ⟨y, o, none⟩) h.yl).trans (h.yf o), Nat.lt_of_lt_of_le h.yl hb.size, own_up10 h.o1 hb, own_up10 h.o2 hb, h.so, fun t ht => ⟨(h.sr t ht).1.up hb, (h.sr t ht).2⟩, h.dr.up hb, h.dn, h.x1, h.x2, h.ne, h.bel.trans (hb.mono h.bel.size)⟩
theorem Gw12.drew (h : Gw12 w p r y s c i k A c1 q A2 c2 X W) : Gw12 w p r y s c i k A c1 q A2 c2 X W.drew := h.below (Below.refl _ _).drew
theorem SR.offs8 {S : Sh} {D : Sx} {B b : Nat} (h : SR W B S D) (hb : B ≤ b) : SOff S D b := ⟨rd_off h.ls.rd hb, rd_off h.el.rd hb, rd_off h.dl.rd hb⟩
/-- A slot is appended. -/
theorem Gw12.slot {W0 : World} (h0 : Gw12 w p r y s c i k A c1 q A2 c2 X W0) (h : Gw12 w p r y s c i k A c1 q A2 c2 X W) {T : Sl} (hso : T.so = nwSl s i) (hsr : SR W W.heap.size T.sh T.sx) (hsn : T.sx.nw W0.heap.size)
    {g1 cp1 : Nat} (ho : W'.ownsRow (y + 1) 88 9 (.slice (some ⟨g1, 0, none⟩) (i + 1) cp1) (i + 1) (qcs q ++ T.l)) (hg : W.grownBy W' (Value.slice A i c1).ownBlock) (hat : (Value.slice A i c1).ownBlock = some g1 ∨ g1 = W.heap.size) :
    Gw12 w p r y s c (i + 1) k (some ⟨g1, 0, none⟩) cp1 (q ++ [T]) A2 c2 X (W'.setCell ⟨y, 0, none⟩ (.slice (some ⟨g1, 0, none⟩) (i + 1) cp1)) := by
  rw [show qcs q ++ T.l = qcs (q ++ [T]) by simp [qcs]] at ho
  have hne := h.ne
  have hyl := h0.yl
  have hb1 := h0.o1.lt
  have hb2 := h0.o2.lt
  have hlow : ∀ x, (Value.slice A i c1).ownBlock = some x → y < x := fun x e => (hb1 x e).1
  have hgy : y < g1 ∧ g1 ≠ p ∧ g1 ≠ r := by
    rcases hat with e | e
    · have := hlow g1 e; omega
    · have := h.yl; omega
  have hyg : ∀ x, (Value.slice A i c1).ownBlock = some x → y ≠ x := fun x e => by have := hlow x e; omega
  have hy' : y < W'.heap.size := Nat.lt_of_lt_of_le h.yl hg.size
  have hT : SR W' W'.heap.size T.sh T.sx := hsr.grownN hg (fun b e => hsn.off (hb1 b e).2)
  have hTy : T.sx.nw (y + 1) := hsn.low hyl
  have hq : ∀ t ∈ q, SR W' W'.heap.size t.sh t.sx := fun t ht => (h.sr t ht).1.grownN hg (fun b e => (h.x1 b e).1 t ht)
  have hd := h.dr.grownN hg (fun b e => (h.x1 b e).2.1)
  have e1 : ∀ t ∈ q ++ [T], SR W' W'.heap.size t.sh t.sx ∧ t.sx.nw (y + 1) := fun t ht => by
    rcases List.mem_append.1 ht with ht | ht
    · exact ⟨hq t ht, (h.sr t ht).2⟩
    · rw [List.mem_singleton] at ht; subst ht; exact ⟨hT, hTy⟩
  refine ⟨(h.sb.grownN hg (fun x e => by have := hlow x e; omega)).other (x := ⟨y, 0, none⟩) (show y ≠ p by omega) _, (h.rb.grownN hg (fun x e => by have := hlow x e; omega)).other (x := ⟨y, 0, none⟩) (show y ≠ r by omega) _, ?_, fun o => by rw [World.frozen?_setCell]; exact (cell_farN hg h.yl hyg o).2.trans (h.yf o), by simpa using hy', own_oth ho (fun b e => by injection e with e; subst e; show g1 ≠ y; omega) _, own_oth (own_farN h.o2 hg (fun b e => (h.x1 b e).2.2)) (fun b e => by have := (hb2 b e).1; show b ≠ y; omega) _, ?_, fun t ht => ⟨((e1 t ht).1.offp (p := ⟨y, 0, none⟩) ((e1 t ht).2.off (Nat.lt_succ_self y)) _).more (by simp), (e1 t ht).2⟩, (hd.offp (q := ⟨y, 0, none⟩) h.dn.2 _).more (by simp), h.dn, fun b e => ?_, fun b e => ?_, h.ne, ?_⟩
  · obtain ⟨k0, k1, k2, k3, k4, k5, k6, k7, k8, k9, k10⟩ := h.yk.keep (fun o => (cell_farN hg h.yl hyg o).1)
    exact ⟨by simp [go_sem, k0], by simp [go_sem, k1], by simp [go_sem, k2], by simp [go_sem, k3], by simp [go_sem, k4], by simp [go_sem, k5], by simp [go_sem, k6], by simp [go_sem, k7], by simp [go_sem, k8], by simp [go_sem, k9], by simp [go_sem, k10]⟩
  · rw [List.map_append, h.so, List.range_succ, List.map_append]
    simp [hso]
  · have e : g1 = b := Option.some.inj e
    subst e
    rcases hat with e2 | e2
    · have hx := h.x1 g1 e2
      refine ⟨fun t ht => ?_, hx.2.1, hx.2.2⟩
      rcases List.mem_append.1 ht with ht | ht
      · exact hx.1 t ht
      · rw [List.mem_singleton] at ht; subst ht; exact hsn.off (hb1 g1 e2).2
    · refine ⟨fun t ht => ?_, h.dr.offs (by omega), fun e3 => by have := (h.o2.lt g1 e3).2; omega⟩
      rcases List.mem_append.1 ht with ht | ht
      · exact (h.sr t ht).1.offs8 (by omega)
      · rw [List.mem_singleton] at ht; subst ht; exact hsr.offs8 (by omega)
  · refine ⟨fun t ht => ?_, (h.x2 b e).2⟩
    rcases List.mem_append.1 ht with ht | ht
    · exact (h.x2 b e).1 t ht
    · rw [List.mem_singleton] at ht; subst ht; exact hsn.off (hb2 b e).2
  · exact ((h.bel.grown hg h.bel.size (fun x e => by have := hlow x e; omega))).setCell (p := ⟨y, 0, none⟩) (show w.heap.size ≤ y by omega) _
/-- A stripe is appended. -/
theorem Gw12.stripe (h : Gw12 w p r y s c i k A c1 q A2 c2 X W)
    {g1 cp1 : Nat} (ho : W'.ownsRow (y + 1) 90 4 (.slice (some ⟨g1, 0, none⟩) (k + 1) cp1) (k + 1) (tcs (List.replicate k (stE s)) ++ (stE s).l)) (hg : W.grownBy W' (Value.slice A2 k c2).ownBlock) (hat : (Value.slice A2 k c2).ownBlock = some g1 ∨ g1 = W.heap.size) :
    Gw12 w p r y s c i (k + 1) A c1 q (some ⟨g1, 0, none⟩) cp1 X (W'.setCell ⟨y, 1, none⟩ (.slice (some ⟨g1, 0, none⟩) (k + 1) cp1)) := by
  rw [show tcs (List.replicate k (stE s)) ++ (stE s).l = tcs (List.replicate (k + 1) (stE s)) by rw [List.replicate_succ', tcs_app]; simp [tcs]] at ho
  have hne := h.ne
  have hb1 := h.o1.lt
  have hb2 := h.o2.lt
  have hlow : ∀ x, (Value.slice A2 k c2).ownBlock = some x → y < x := fun x e => (hb2 x e).1
  have hgy : y < g1 := by
    rcases hat with e | e
    · exact hlow g1 e
    · have := h.yl; omega
  have hyg : ∀ x, (Value.slice A2 k c2).ownBlock = some x → y ≠ x := fun x e => by have := hlow x e; omega
  have hy' : y < W'.heap.size := Nat.lt_of_lt_of_le h.yl hg.size
  have hq : ∀ t ∈ q, SR W' W'.heap.size t.sh t.sx := fun t ht => (h.sr t ht).1.grownN hg (fun b e => (h.x2 b e).1 t ht)
  have hd := h.dr.grownN hg (fun b e => (h.x2 b e).2)
  have hx12 : ∀ b, (Value.slice A2 k c2).ownBlock = some b → (Value.slice A i c1).ownBlock ≠ some b := fun b e e2 => (h.x1 b e2).2.2 e
  refine ⟨(h.sb.grownN hg (fun x e => by have := hlow x e; omega)).other (x := ⟨y, 1, none⟩) (show y ≠ p by omega) _, (h.rb.grownN hg (fun x e => by have := hlow x e; omega)).other (x := ⟨y, 1, none⟩) (show y ≠ r by omega) _, ?_, fun o => by rw [World.frozen?_setCell]; exact (cell_farN hg h.yl hyg o).2.trans (h.yf o), by simpa using hy', own_oth (own_farN h.o1 hg hx12) (fun b e => by have := (hb1 b e).1; show b ≠ y; omega) _, own_oth ho (fun b e => by injection e with e; subst e; show g1 ≠ y; omega) _, h.so, fun t ht => ⟨((hq t ht).offp (p := ⟨y, 1, none⟩) ((h.sr t ht).2.off (Nat.lt_succ_self y)) _).more (by simp), (h.sr t ht).2⟩, (hd.offp (q := ⟨y, 1, none⟩) h.dn.2 _).more (by simp), h.dn, fun b e => ⟨(h.x1 b e).1, (h.x1 b e).2.1, fun e2 => ?_⟩, fun b e => ?_, h.ne, ?_⟩
  · obtain ⟨k0, k1, k2, k3, k4, k5, k6, k7, k8, k9, k10⟩ := h.yk.keep (fun o => (cell_farN hg h.yl hyg o).1)
    exact ⟨by simp [go_sem, k0], by simp [go_sem, k1], by simp [go_sem, k2], by simp [go_sem, k3], by simp [go_sem, k4], by simp [go_sem, k5], by simp [go_sem, k6], by simp [go_sem, k7], by simp [go_sem, k8], by simp [go_sem, k9], by simp [go_sem, k10]⟩
  · have e2 : g1 = b := Option.some.inj e2
    subst e2
    rcases hat with e3 | e3
    · exact (h.x1 g1 e).2.2 e3
    · have := (hb1 g1 e).2; omega
  · have e : g1 = b := Option.some.inj e
    subst e
    rcases hat with e2 | e2
    · exact h.x2 g1 e2
    · exact ⟨fun t ht => (h.sr t ht).1.offs8 (by omega), h.dr.offs (by omega)⟩
  · exact ((h.bel.grown hg h.bel.size (fun x e => by have := hlow x e; omega))).setCell (p := ⟨y, 1, none⟩) (show w.heap.size ≤ y by omega) _
/-- The dead letters are stored. -/
theorem Gw12.dead (h : Gw12 w p r y s c i k A c1 q A2 c2 X W) (c' : Int) : Gw12 w p r y s c' i k A c1 q A2 c2 X ((W.setCell ⟨y, 3, none⟩ (.int .i64 c')).setCell ⟨y, 4, none⟩ (.slice none 0 0)) := by
  have hne := h.ne
  have hb1 := h.o1.lt
  have hb2 := h.o2.lt
  have g1 : ∀ b, (Value.slice A i c1).ownBlock = some b → b ≠ y := fun b e => by have := (hb1 b e).1; omega
  have g2 : ∀ b, (Value.slice A2 k c2).ownBlock = some b → b ≠ y := fun b e => by have := (hb2 b e).1; omega
  refine ⟨(h.sb.other (x := ⟨y, 3, none⟩) (show y ≠ p by omega) _).other (x := ⟨y, 4, none⟩) (show y ≠ p by omega) _, (h.rb.other (x := ⟨y, 3, none⟩) (show y ≠ r by omega) _).other (x := ⟨y, 4, none⟩) (show y ≠ r by omega) _, ?_, fun o => by rw [World.frozen?_setCell, World.frozen?_setCell]; exact h.yf o, by simpa using h.yl, own_oth (own_oth h.o1 (a := ⟨y, 3, none⟩) g1 _) (a := ⟨y, 4, none⟩) g1 _, own_oth (own_oth h.o2 (a := ⟨y, 3, none⟩) g2 _) (a := ⟨y, 4, none⟩) g2 _, h.so, fun t ht => ⟨(((h.sr t ht).1.offp (p := ⟨y, 3, none⟩) ((h.sr t ht).2.off (Nat.lt_succ_self y)) _).offp (p := ⟨y, 4, none⟩) ((h.sr t ht).2.off (Nat.lt_succ_self y)) _).more (by simp), (h.sr t ht).2⟩, ((h.dr.offp (q := ⟨y, 3, none⟩) h.dn.2 _).offp (q := ⟨y, 4, none⟩) h.dn.2 _).more (by simp), h.dn, h.x1, h.x2, h.ne, (h.bel.setCell (p := ⟨y, 3, none⟩) (show w.heap.size ≤ y by omega) _).setCell (p := ⟨y, 4, none⟩) (show w.heap.size ≤ y by omega) _⟩
  obtain ⟨k0, k1, k2, k3, k4, k5, k6, k7, k8, k9, k10⟩ := h.yk
  exact ⟨by simp [go_sem, k0], by simp [go_sem, k1], by simp [go_sem, k2], by simp [go_sem, k3], by simp [go_sem, k4], by simp [go_sem, k5], by simp [go_sem, k6], by simp [go_sem, k7], by simp [go_sem, k8], by simp [go_sem, k9], by simp [go_sem, k10]⟩
theorem Gw12.near1 (h : Gw12 w p r y s c i k A c1 q A2 c2 X W) (hg : W.grownBy W' (Value.slice A i c1).ownBlock) : W'.cell? ⟨y, 0, none⟩ = some (.slice A i c1) ∧ W'.frozen? ⟨y, 0, none⟩ = false ∧ y < W'.heap.size := by
  have hy : ∀ x, (Value.slice A i c1).ownBlock = some x → y ≠ x := fun x e => by have := (h.o1.lt x e).1; omega
  have h2 := cell_farN hg h.yl hy 0
  exact ⟨h2.1.trans h.yk.1, h2.2.trans (h.yf 0), Nat.lt_of_lt_of_le h.yl hg.size⟩
theorem Gw12.near2 (h : Gw12 w p r y s c i k A c1 q A2 c2 X W) (hg : W.grownBy W' (Value.slice A2 k c2).ownBlock) : W'.cell? ⟨y, 1, none⟩ = some (.slice A2 k c2) ∧ W'.frozen? ⟨y, 1, none⟩ = false ∧ y < W'.heap.size := by
  have hy : ∀ x, (Value.slice A2 k c2).ownBlock = some x → y ≠ x := fun x e => by have := (h.o2.lt x e).1; omega
  have h2 := cell_farN hg h.yl hy 1
  exact ⟨h2.1.trans h.yk.2.1, h2.2.trans (h.yf 1), Nat.lt_of_lt_of_le h.yl hg.size⟩
theorem Gw12.alloc (h : Gw12 w p r y s c i k A c1 q A2 c2 X W) (o : Obj) : Gw12 w p r y s c i k A c1 q A2 c2 X (W.alloc o) := h.below ((Below.refl _ _).alloc (Nat.le_refl _) o)
/-- The grown arena. -/
theorem Gw12.ar (h : Gw12 w p r y s c i k A c1 q A2 c2 X W) : AR W W.heap.size (grA s i k c) ⟨A, c1, q, A2, c2, none, 0, X⟩ := by
  have h1 := Ql.of_own h.o1
  have h2 := Tl.of_own h.o2
  exact ⟨by rw [grA_sl]; exact h1, h.so, fun t ht => (h.sr t ht).1, by rw [grA_st]; exact h2, Ls.nil, h.dr⟩
theorem Gw12.anw (h : Gw12 w p r y s c i k A c1 q A2 c2 X W) : (⟨A, c1, q, A2, c2, none, 0, X⟩ : Ax).nw (r + 1) :=
  have hn := h.ne
  have hl : r + 1 ≤ y + 1 := by omega
  ⟨nw_low (nwv_of (nwv_own h.o1 (Nat.le_refl _))) hl, fun t ht => (h.sr t ht).2.low hl, nw_low (nwv_of (nwv_own h.o2 (Nat.le_refl _))) hl, nw_none, h.dn.1⟩
end
end Go.Proofs.Ytijpflljopckiaa
/- Plain: dead-letter stores in memory: a box of a store, results that are a store and an error. -/
namespace Go.Proofs.Ytijpflljopckiaa
open Go.RowKit
set_option linter.unusedVariables false

/-- Block p holds a store, and may be written. -/
structure Db8 (W : World) (p : Nat) (cap : Int) (A : Option Addr) (n c : Nat) : Prop where
  lt : p < W.heap.size
  c0 : W.cell? ⟨p, 0, none⟩ = some (.int .i64 cap)
  c1 : W.cell? ⟨p, 1, none⟩ = some (.slice A n c)
  fr : ∀ o, W.frozen? ⟨p, o, none⟩ = false
section
variable {W W' : World} {p n c : Nat} {A : Option Addr} {cap : Int}
theorem Db8.facts (h : Db8 W p cap A n c) : W.cell? ⟨p, 0, none⟩ = some (.int .i64 cap) ∧ W.cell? ⟨p, 1, none⟩ = some (.slice A n c) ∧ p < W.heap.size := ⟨h.c0, h.c1, h.lt⟩
theorem Db8.all (h : Db8 W p cap A n c) : W.cell? ⟨p, 0, none⟩ = some (.int .i64 cap) ∧ W.cell? ⟨p, 1, none⟩ = some (.slice A n c) ∧ p < W.heap.size ∧ W.frozen? ⟨p, 0, none⟩ = false ∧ W.frozen? ⟨p, 1, none⟩ = false := ⟨h.c0, h.c1, h.lt, h.fr 0, h.fr 1⟩
theorem Db8.up (h : Db8 W p cap A n c) (hb : Below W.heap.size W W') : Db8 W' p cap A n c :=
  ⟨Nat.lt_of_lt_of_le h.lt hb.size, (hb.cell (p := ⟨p, 0, none⟩) h.lt).trans h.c0, (hb.cell (p := ⟨p, 1, none⟩) h.lt).trans h.c1, fun o => (hb.frozen (p := ⟨p, o, none⟩) h.lt).trans (h.fr o)⟩
theorem Db8.drew (h : Db8 W p cap A n c) : Db8 W.drew p cap A n c := ⟨h.lt, h.c0, h.c1, h.fr⟩
theorem Db8.drewN (h : Db8 W p cap A n c) (k : Nat) : Db8 (W.drewN k) p cap A n c := ⟨h.lt, h.c0, h.c1, h.fr⟩
theorem Db8.alloc (h : Db8 W p cap A n c) (o : Obj) : Db8 (W.alloc o) p cap A n c := h.up ((Below.refl _ _).alloc (Nat.le_refl _) o)
theorem Db8.other (h : Db8 W p cap A n c) {a : Addr} (ha : a.block ≠ p) (v : Value) : Db8 (W.setCell a v) p cap A n c := by
  have e : ∀ o, (W.setCell a v).cell? ⟨p, o, none⟩ = W.cell? ⟨p, o, none⟩ := fun o => World.cell?_setCell_other W _ _ v (fun e => ha (by rw [e]))
  exact ⟨by simpa using h.lt, (e 0).trans h.c0, (e 1).trans h.c1, fun o => by rw [World.frozen?_setCell]; exact h.fr o⟩
theorem Db8.setL (h : Db8 W p cap A n c) (A' : Option Addr) (n' c' : Nat) : Db8 (W.setCell ⟨p, 1, none⟩ (.slice A' n' c')) p cap A' n' c' :=
  ⟨by simpa using h.lt, (World.cell?_setCell_other W _ _ _ (fun e => by injection e; omega)).trans h.c0, World.cell?_setCell_same' W _ _ (by rw [h.c1]; rfl), fun o => by rw [World.frozen?_setCell]; exact h.fr o⟩
theorem Db8.setC (h : Db8 W p cap A n c) (x : Int) : Db8 (W.setCell ⟨p, 0, none⟩ (.int .i64 x)) p x A n c :=
  ⟨by simpa using h.lt, World.cell?_setCell_same' W _ _ (by rw [h.c0]; rfl), (World.cell?_setCell_other W _ _ _ (fun e => by injection e; omega)).trans h.c1, fun o => by rw [World.frozen?_setCell]; exact h.fr o⟩
theorem Db8.put (h : Db8 W p cap A n c) (x : Int) (A' : Option Addr) (n' c' : Nat) : Db8 ((W.setCell ⟨p, 0, none⟩ (.int .i64 x)).setCell ⟨p, 1, none⟩ (.slice A' n' c')) p x A' n' c' := (h.setC x).setL A' n' c'
theorem Db8.grown (h : Db8 W p cap A n c) {row : Option Nat} (hg : W.grownBy W' row) (hr : some p ≠ row) : Db8 W' p cap A n c := by
  have e : ∀ o, W'.cell? ⟨p, o, none⟩ = W.cell? ⟨p, o, none⟩ := fun o => hg.cell_far ⟨p, o, none⟩ h.lt hr
  exact ⟨Nat.lt_of_lt_of_le h.lt hg.size, (e 0).trans h.c0, (e 1).trans h.c1, fun o => (hg.frozen_far ⟨p, o, none⟩ h.lt hr).trans (h.fr o)⟩
theorem Db8.fresh (w : World) (cap : Int) (A : Option Addr) (n c : Nat) (t : TypeId) : Db8 (w.alloc (.cells #[.int .i64 cap, .slice A n c] t)) w.heap.size cap A n c :=
  ⟨by simp, by simp [go_sem], by simp [go_sem], fun o => by simp [go_sem]⟩
end
/-- A list does not lie in block b. -/
def Ob (b n : Nat) (A : Option Addr) : Prop := 0 < n → ∀ a, A = some a → a.block ≠ b
theorem ob_nw {lo b n : Nat} {A : Option Addr} (h : Nw lo A) (hb : b < lo) : Ob b n A := fun _ a e => by have := h a e; omega
theorem ob_ls {W : World} {B n c b : Nat} {A : Option Addr} {l : List Msg} (h : Ls W B (.slice A n c) l) (hb : B ≤ b) : Ob b n A := fun hn a e => by
  obtain ⟨b', o, e', hb', _⟩ := h.rd.2 hn
  rw [e'] at e
  injection e with e
  subst e
  show b' ≠ b
  omega
theorem Ls.offo {W : World} {B n c : Nat} {A : Option Addr} {l : List Msg} (h : Ls W B (.slice A n c) l) {p : Addr} (hA : Ob p.block n A) (v : Value) : Ls (W.setCell p v) B (.slice A n c) l := by
  obtain ⟨h1, h2, h3⟩ := h.len
  subst h1
  refine ⟨A, c, rfl, h2, h3, h.rd.1, fun h0 => ?_⟩
  obtain ⟨b, o, e, hb, hc⟩ := h.rd.2 h0
  have hlo := hA h0 _ e
  exact ⟨b, o, e, hb, fun j u hu => (World.cell?_setCell_other W p ⟨b, o + j, none⟩ v (fun e' => hlo (congrArg Addr.block e').symm)).trans (hc j u hu)⟩
theorem Ls.growno {W W' : World} {B n c : Nat} {A : Option Addr} {l : List Msg} (h : Ls W B (.slice A n c) l) (hB : B ≤ W.heap.size) {row : Option Nat} (hg : W.grownBy W' row) (ho : ∀ q, row = some q → Ob q n A) : Ls W' B (.slice A n c) l := by
  obtain ⟨h1, h2, h3⟩ := h.len
  subst h1
  refine ⟨A, c, rfl, h2, h3, h.rd.1, fun hn => ?_⟩
  obtain ⟨b, o, e, hb, hc⟩ := h.rd.2 hn
  exact ⟨b, o, e, hb, fun j u hu => (hg.cell_far ⟨b, o + j, none⟩ (Nat.lt_of_lt_of_le hb hB) (fun e' => ho b e'.symm hn _ e rfl)).trans (hc j u hu)⟩
/-- A store and an error as a result. -/
def D8 (w : World) (cap : Int) (l : List Msg) (x : Int) (e : Ending) (w' : World) : Prop := ∃ A c, e = .returned (.tuple #[.agg #[.int .i64 cap, .slice A l.length c], .int .i64 x]) ∧ Nw w.heap.size A ∧ Ls w' w'.heap.size (.slice A l.length c) l ∧ Below w.heap.size w w'
end Go.Proofs.Ytijpflljopckiaa
namespace Go.Proofs.Ytijpflljopckiaa
open Go.RowKit
set_option linter.unusedVariables false

/-- Block b is the set of the numbers ks. -/
def MetAt (w : World) (b : Nat) (ks : List Int) : Prop := ∃ D : DataW Unit, w.ownsMap Try.prog 3 (plainElem Try.prog 4) b ks.length D ∧ Maps.IsMap D ∧ ∀ x : Int, D.atKey (.int .i64 x) (.lit (.bool false)) = .lit (.bool (ks.contains x))
theorem MetAt.lt {w : World} {b : Nat} {ks : List Int} (h : MetAt w b ks) : b < w.heap.size := by obtain ⟨D, ho, _⟩ := h; exact ho.lt
theorem MetAt.below {w w' : World} {b : Nat} {ks : List Int} (h : MetAt w b ks) (hb : Below w.heap.size w w') : MetAt w' b ks := by
  have hl := h.lt
  obtain ⟨D, ⟨es, clock, he, r⟩, hD, ha⟩ := h
  exact ⟨D, ⟨es, clock, (hb.block b hl).trans he, r⟩, hD, ha⟩
end Go.Proofs.Ytijpflljopckiaa
namespace Go.Proofs.Ytijpflljopckiaa
open Go.RowKit
set_option linter.unusedVariables false

/-- The IDs of the first k messages, the last one first. -/
def ids8 (l : List Msg) (k : Nat) : List Int := ((l.take k).map Msg.id).reverse
theorem ids8_succ {l : List Msg} {k : Nat} (h : k < l.length) : ids8 l (k + 1) = l[k].id :: ids8 l k := by
  unfold ids8
  rw [← List.take_append_getElem h, List.map_append, List.reverse_append]
  rfl
/-- The state of the loop. -/
structure HsAt (w : World) (B : Nat) (A : Option Addr) (c : Nat) (l : List Msg) (k : Nat) (W : World) : Prop where
  met : MetAt W B (ids8 l k)
  bel : Below w.heap.size w W
  old : w.heap.size ≤ B
  ls : Ls W w.heap.size (.slice A l.length c) l
  no : ∀ i j (hi : i < l.length) (hj : j < l.length), i < j → j < k → l[i].id ≠ l[j].id
theorem HsAt.below {w W W' : World} {B c k : Nat} {A : Option Addr} {l : List Msg} (h : HsAt w B A c l k W) (hb : Below W.heap.size W W') : HsAt w B A c l k W' :=
  ⟨h.met.below hb, h.bel.trans (hb.mono h.bel.size), h.old, h.ls.below (hb.mono h.bel.size), h.no⟩
theorem HsAt.put {w W W' : World} {B c k : Nat} {A : Option Addr} {l : List Msg} (h : HsAt w B A c l k W) (hk : k < l.length) (hm : MetAt W' B (l[k].id :: ids8 l k)) (hg : W.grownBy W' (some B)) (hn : ∀ i (hi : i < l.length), i < k → l[i].id ≠ l[k].id) : HsAt w B A c l (k + 1) W' :=
  ⟨by rw [ids8_succ hk]; exact hm, h.bel.grown hg h.bel.size (fun j hj => by cases hj; exact h.old), h.old, h.ls.growno h.bel.size hg (fun q e => by cases e; exact ob_ls h.ls h.old), fun i j hi hj hij hjk => by
    by_cases e : j = k
    · subst e; exact hn i hi hij
    · exact h.no i j hi hj hij (by omega)⟩
end Go.Proofs.Ytijpflljopckiaa
namespace Go.Proofs.Ytijpflljopckiaa
open Go.RowKit
set_option linter.unusedVariables false

theorem iscap8_any (n : Int) (w : World) : Calls Try.prog 66 #[.int .i64 n] w fun e w' => e = .returned (.bool (wi n 1 24)) ∧ w = w' := by
  by_cases h1 : 1 ≤ n
  · by_cases h2 : n ≤ 24
    · have HF := Lib.hid (wi_true h1 h2)
      go_enter Try.func66, Try.ntmps66
      go_wp2
      go_ret
      exact ⟨by rw [HF.out]; rfl, rfl⟩
    · have HF := Lib.hid (wi_high (lo := 1) (show (24 : Int) < n by omega))
      go_enter Try.func66, Try.ntmps66
      go_wp2
      go_ret
      exact ⟨by rw [HF.out]; rfl, rfl⟩
  · have HF := Lib.hid (wi_low (hi := 24) (show n < 1 by omega))
    go_enter Try.func66, Try.ntmps66
    go_wp2
    go_ret
    exact ⟨by rw [HF.out]; rfl, rfl⟩
/-- What New gives. -/
def nw8 (n : Int) : Int := if wi n 1 24 = true then n else 0
def nw8E (n : Int) : Int := if wi n 1 24 = true then 0 else 1
def N8 (w : World) (cap x : Int) (e : Ending) (w' : World) : Prop := e = .returned (.tuple #[.agg #[.int .i64 cap, .slice none 0 0], .int .i64 x]) ∧ Below w.heap.size w w'
theorem new8_any (n : Int) (w : World) : Calls Try.prog 34 #[.int .i64 n] w (N8 w (nw8 n) (nw8E n)) := by
  have HC := Lib.hid (fun W => iscap8_any n W)
  have HB := Lib.hid (Db8.fresh w 0 none 0 0 29)
  have HW := Lib.hid ((Below.refl w.heap.size w).alloc (Nat.le_refl _) (.cells #[.int .i64 0, .slice none 0 0] 29))
  cases h : wi n 1 24 with
  | true =>
    have HE := Lib.hid (show nw8 n = n ∧ nw8E n = 0 from ⟨if_pos h, if_pos h⟩)
    rw [h] at HC
    clear h
    go_enter Try.func34, Try.ntmps34
    go_wp2_with fail
    refine (HC.out _).mono ?_
    rintro e w1 ⟨rfl, rfl⟩
    obtain ⟨b0, b1, bl, f0, f1⟩ := HB.out.all
    go_wp2
    exact bodyPost_ret (v := .tuple #[.agg #[.int .i64 n, .slice none 0 0], .int .i64 0]) (by simp only [results, Try.results34]; go_simp <;> rfl) rfl ⟨by rw [HE.out.1, HE.out.2], (Below.refl _ _).alloc (Nat.le_refl _) _⟩
  | false =>
    have HE := Lib.hid (show nw8 n = 0 ∧ nw8E n = 1 from ⟨if_neg (by rw [h]; decide), if_neg (by rw [h]; decide)⟩)
    rw [h] at HC
    clear h
    go_enter Try.func34, Try.ntmps34
    go_wp2_with fail
    refine (HC.out _).mono ?_
    rintro e w1 ⟨rfl, rfl⟩
    obtain ⟨b0, b1, bl, f0, f1⟩ := HB.out.all
    go_wp2
    exact bodyPost_ret (v := .tuple #[.agg #[.int .i64 0, .slice none 0 0], .int .i64 1]) (by simp only [results, Try.results34]; go_simp <;> rfl) rfl ⟨by rw [HE.out.1, HE.out.2], (Below.refl _ _).alloc (Nat.le_refl _) _⟩
/-- A box of a store in a later world. -/
structure VaAt8 (w : World) (p : Nat) (cap : Int) (A : Option Addr) (c : Nat) (l : List Msg) (W : World) : Prop where
  db : Db8 W p cap A l.length c
  ls : Ls W w.heap.size (.slice A l.length c) l
  bel : Below w.heap.size w W
  old : w.heap.size ≤ p
section
variable {w W W' : World} {p c : Nat} {cap : Int} {A : Option Addr} {l : List Msg}
theorem VaAt8.below (h : VaAt8 w p cap A c l W) (hb : Below W.heap.size W W') : VaAt8 w p cap A c l W' :=
  ⟨h.db.up hb, h.ls.below (hb.mono h.bel.size), h.bel.trans (hb.mono h.bel.size), h.old⟩
theorem VaAt8.alloc (h : VaAt8 w p cap A c l W) (o : Obj) : VaAt8 w p cap A c l (W.alloc o) := h.below ((Below.refl _ _).alloc (Nat.le_refl _) o)
theorem VaAt8.here (h : VaAt8 w p cap A c l W) : Ls W W.heap.size (.slice A l.length c) l := h.ls.more h.bel.size
theorem VaAt8.start (t : TypeId) (cap : Int) (hv : Ls w w.heap.size (.slice A l.length c) l) : VaAt8 w w.heap.size cap A c l (w.alloc (.cells #[.int .i64 cap, .slice A l.length c] t)) :=
  ⟨Db8.fresh w cap A l.length c t, hv.alloc (Nat.le_refl _) _, (Below.refl _ _).alloc (Nat.le_refl _) _, Nat.le_refl _⟩
end
end Go.Proofs.Ytijpflljopckiaa
