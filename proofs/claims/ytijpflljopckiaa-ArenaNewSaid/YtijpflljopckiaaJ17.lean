/- What is proved here: (plain) each route has exactly one owner; New gives a valid directory; directory.merge by a contract; directory.Apply by a contract; what DirectoryOwners and DirectoryHomes hold while a change is drawn and applied; (plain) the boxes and the growing lists of ref10.Apply. -/
import Derived.Test.YtijpflljopckiaaJ15
import Derived.Test.YtijpflljopckiaaJ16
import Derived.Test.YtijpflljopckiaaJ14
import Derived.Test.YtijpflljopckiaaJ02
import Derived.Deep.AppendLies
namespace Go.Proofs.Ytijpflljopckiaa
set_option linter.unusedVariables false

theorem nw_va {n m : Nat} (h1 : 1 ≤ m) (h2 : m ≤ n) (h3 : n ≤ 6) : vaD (nwD n m) = 0 := by
  have hE : nwE10 n m = 0 := by unfold nwE10; rw [if_pos (by omega)]
  have e : nwD n m = ⟨1, nwL m m, List.replicate n (-1)⟩ := by unfold nwD; rw [if_pos hE]; simp
  rw [e]
  clear hE e
  have hn : n = 1 ∨ n = 2 ∨ n = 3 ∨ n = 4 ∨ n = 5 ∨ n = 6 := by omega
  have hm : m = 1 ∨ m = 2 ∨ m = 3 ∨ m = 4 ∨ m = 5 ∨ m = 6 := by omega
  rcases hn with rfl | rfl | rfl | rfl | rfl | rfl <;> rcases hm with rfl | rfl | rfl | rfl | rfl | rfl
  all_goals first
    | (exfalso; omega)
    | exact vaD_dec (by unfold rgD; decide +kernel) (by decide +kernel) (by decide +kernel) (by decide +kernel) (by decide +kernel) (by decide +kernel)
end Go.Proofs.Ytijpflljopckiaa
namespace Go.Proofs.Ytijpflljopckiaa
open Go.RowKit
set_option linter.unusedVariables false

abbrev MgS (p q g f u : Nat) (d : Dd) (X : Dx) (e : Ed) (W : World) : Prop := W.cell? ⟨p, 1, none⟩ = some (.slice (some ⟨g, 0, none⟩) d.l.length X.c) ∧ W.cell? ⟨q, 2, none⟩ = some (.int .i64 e.to) ∧ W.cell? ⟨g, f * 3, none⟩ = some (.int .i64 (sg d.l f).lo) ∧ W.cell? ⟨g, u * 3 + 1, none⟩ = some (.int .i64 (sg d.l u).hi)
theorem MgS.set {p q g f u : Nat} {d : Dd} {X : Dx} {e : Ed} {W : World} (h : MgS p q g f u d X e W) (hu : u = f + 1) (hp : p ≠ g) (hq : q ≠ g) (u' v : Value) : MgS p q g f u d X e (((W.setCell ⟨g, f * 3, none⟩ (.int .i64 (sg d.l f).lo)).setCell ⟨g, f * 3 + 1, none⟩ u').setCell ⟨g, f * 3 + 2, none⟩ v) := by
  obtain ⟨h1, h2, h3, h4⟩ := h
  have o : ∀ (a b : Addr) (u : Value) (W : World), a ≠ b → (W.setCell b u).cell? a = W.cell? a := fun a b u W hn => World.cell?_setCell_other W b a u (fun e => hn (by first | exact e | exact e.symm))
  have n1 : ∀ j, (⟨p, 1, none⟩ : Addr) ≠ ⟨g, j, none⟩ := fun j e => hp (by injection e)
  have n2 : ∀ j, (⟨q, 2, none⟩ : Addr) ≠ ⟨g, j, none⟩ := fun j e => hq (by injection e)
  have n3 : ∀ i j, i ≠ j → (⟨g, i, none⟩ : Addr) ≠ ⟨g, j, none⟩ := fun i j hn e => hn (by injection e)
  refine ⟨by rw [o _ _ _ _ (n1 _), o _ _ _ _ (n1 _), o _ _ _ _ (n1 _)]; exact h1, by rw [o _ _ _ _ (n2 _), o _ _ _ _ (n2 _), o _ _ _ _ (n2 _)]; exact h2, ?_, by rw [o _ _ _ _ (n3 _ _ (by omega)), o _ _ _ _ (n3 _ _ (by omega)), o _ _ _ _ (n3 _ _ (by omega))]; exact h4⟩
  rw [o _ _ _ _ (n3 _ _ (by omega)), o _ _ _ _ (n3 _ _ (by omega))]
  simp [go_sem, h3]
end Go.Proofs.Ytijpflljopckiaa
namespace Go.Proofs.Ytijpflljopckiaa
open Go.RowKit
set_option linter.unusedVariables false

/-- The boxes of Apply: a directory, a change, a result. -/
structure Ab (w : World) (p q r : Nat) (d : Dd) (X : Dx) (e : Ed) (W : World) : Prop where
  da : DAt w p d X W
  eb : EB W q e
  rb : Db10 W r zD10 zDx
  ne : w.heap.size ≤ p ∧ p < q ∧ q < r
  of : ∀ z, w.heap.size ≤ z → DOff d X z
section
variable {w W W' : World} {p q r : Nat} {d : Dd} {X : Dx} {e : Ed}
theorem Ab.below (h : Ab w p q r d X e W) (hb : Below W.heap.size W W') : Ab w p q r d X e W' := ⟨h.da.below hb, h.eb.up hb, h.rb.up hb, h.ne, h.of⟩
/-- A result that a call gave, stored into the result box. -/
theorem Ab.out (h : Ab w p q r d X e W) {B : Nat} {D : Dd} {Y : Dx} (hn : Y.nw B) (hB : r < B) (hr : DR W W.heap.size D Y) (x : Int) : DE w.heap.size w D x (.returned (.tuple #[dv D Y, .int .i64 x])) (((W.setCell ⟨r, 0, none⟩ (.int .i64 D.vn)).setCell ⟨r, 1, none⟩ (.slice Y.A D.l.length Y.c)).setCell ⟨r, 2, none⟩ (.slice Y.A2 D.F.length Y.c2)) := by
  have hp := h.ne
  have hb := h.da.bel
  have f : ∀ o, DOff D Y (⟨r, o, none⟩ : Addr).block := fun o => hn.off hB
  exact ⟨Y, rfl, hn.low (by omega), (((hr.offp (q := ⟨r, 0, none⟩) (f 0) _).offp (q := ⟨r, 1, none⟩) (f 1) _).offp (q := ⟨r, 2, none⟩) (f 2) _).more (by simp), ((hb.setCell (p := ⟨r, 0, none⟩) (show w.heap.size ≤ r by omega) _).setCell (p := ⟨r, 1, none⟩) (show w.heap.size ≤ r by omega) _).setCell (p := ⟨r, 2, none⟩) (show w.heap.size ≤ r by omega) _⟩
end
/-- .. with what the copies have given, and the box of the next directory. -/
structure Nx (w : World) (p q r : Nat) (d : Dd) (X : Dx) (e : Ed) (oL oF : Option Value) (oX : Option Nat) (W : World) : Prop where
  ab : Ab w p q r d X e W
  fl : ∀ v, oL = some v → W.ownsRow (r + 1) 115 3 v d.l.length (scs d.l)
  ff : ∀ v, oF = some v → W.ownsRow (r + 1) 3 1 v d.F.length (ics d.F)
  fx : ∀ x, oX = some x → Db10 W x zD10 zDx ∧ r < x
  d1 : ∀ u v, oL = some u → oF = some v → ∀ k, u.ownBlock = some k → v.ownBlock ≠ some k
  d2 : ∀ u x, oL = some u → oX = some x → ∀ k, u.ownBlock = some k → k ≠ x
  d3 : ∀ u x, oF = some u → oX = some x → ∀ k, u.ownBlock = some k → k ≠ x
section
variable {w W W' : World} {p q r : Nat} {d : Dd} {X : Dx} {e : Ed} {a b : Option Value} {c : Option Nat}
theorem Nx.below (h : Nx w p q r d X e a b c W) (hb : Below W.heap.size W W') : Nx w p q r d X e a b c W' :=
  ⟨h.ab.below hb, fun v ev => own_up10 (h.fl v ev) hb, fun v ev => own_up10 (h.ff v ev) hb, fun x ex => ⟨(h.fx x ex).1.up hb, (h.fx x ex).2⟩, h.d1, h.d2, h.d3⟩
theorem Nx.drew (h : Nx w p q r d X e a b c W) : Nx w p q r d X e a b c W.drew := h.below (Below.refl _ _).drew
theorem Nx.start (h : Ab w p q r d X e W) : Nx w p q r d X e none none none W := ⟨h, by simp, by simp, by simp, by simp, by simp, by simp⟩
theorem Nx.cl (h : Nx w p q r d X e none b c W) {v : Value} (ho : W'.ownsRow W.heap.size 115 3 v d.l.length (scs d.l)) (hb : Below W.heap.size W W') : Nx w p q r d X e (some v) b c W' := by
  have k := h.below hb
  refine ⟨k.ab, fun u eu => ?_, k.ff, k.fx, fun u x eu ex j hj => ?_, fun u x eu ex j hj => ?_, k.d3⟩
  · injection eu with eu; subst eu
    exact own_low ho h.ab.rb.lt
  · injection eu with eu; subst eu
    intro e2
    have h1 := ((h.ff x ex).lt j e2).2
    have h2 := (ho.lt j hj).1
    omega
  · injection eu with eu; subst eu
    have h1 := (h.fx x ex).1.lt
    have h2 := (ho.lt j hj).1
    omega
end
section
variable {w W W' : World} {p q r : Nat} {d : Dd} {X : Dx} {e : Ed} {A A2 : Option Addr} {c c2 : Nat}
end
theorem Ab.k3 {w W W' : World} {p q r : Nat} {d : Dd} {X : Dx} {e : Ed} (h : Ab w p q r d X e W) (hb : Below (p + 1) W W') : K3 p d X W' :=
  ⟨(hb.cell (p := ⟨p, 0, none⟩) (Nat.lt_succ_self p)).trans h.da.db.c0, (hb.cell (p := ⟨p, 1, none⟩) (Nat.lt_succ_self p)).trans h.da.db.c1, (hb.cell (p := ⟨p, 2, none⟩) (Nat.lt_succ_self p)).trans h.da.db.c2⟩
end Go.Proofs.Ytijpflljopckiaa
namespace Go.Proofs.Ytijpflljopckiaa
open Go.RowKit
set_option linter.unusedVariables false

theorem DsAt.other {w W : World} {B g p : Nat} {d : Dd} {X : Dx} (h : DsAt w B g p d X W) {a : Addr} (h1 : a.block ≠ p) (h2 : a.block ≠ g) (h3 : DOff d X a.block) (h4 : w.heap.size ≤ a.block) (v : Value) : DsAt w B g p d X (W.setCell a v) :=
  ⟨h.src.other h2 (by have := h.ne; omega) v, h.db.other h1 v, (h.dr.offp (q := a) h3 v).more (by simp), h.op, h.og, h.ne, h.bel.setCell (p := a) h4 v⟩
/-- .. and the box of the next directory, once it is made. -/
structure DnAt (w : World) (B g p : Nat) (d : Dd) (X : Dx) (oz : Option Nat) (W : World) : Prop where
  ds : DsAt w B g p d X W
  zb : ∀ z, oz = some z → Db10 W z zD10 zDx ∧ z ≠ g ∧ z ≠ p ∧ w.heap.size ≤ z ∧ DOff d X z
section
variable {w W W' : World} {B g p : Nat} {d : Dd} {X : Dx} {oz : Option Nat}
theorem DnAt.start (h : DsAt w B g p d X W) : DnAt w B g p d X none W := ⟨h, by simp⟩
theorem DnAt.below (h : DnAt w B g p d X oz W) (hb : Below W.heap.size W W') : DnAt w B g p d X oz W' := ⟨h.ds.below hb, fun z e => ⟨(h.zb z e).1.up hb, (h.zb z e).2⟩⟩
theorem DnAt.drew (h : DnAt w B g p d X oz W) : DnAt w B g p d X oz W.drew := h.below (Below.refl _ _).drew
theorem DnAt.turn (h : DnAt w B g p d X oz W) (hs : SrcAt W' B g) (hg : W.grownBy W' (some g)) : DnAt w B g p d X oz W' := ⟨h.ds.turn hs hg, fun z e => ⟨(h.zb z e).1.grown hg (h.zb z e).2.1, (h.zb z e).2⟩⟩
theorem DnAt.k3 (h : DnAt w B g p d X oz W) {u : World} (hb : Below (p + 1) W u) : K3 p d X u := by
  obtain ⟨⟨x0, x1, x2, xl⟩, -⟩ := h.ds.db.all
  exact ⟨(hb.cell (p := ⟨p, 0, none⟩) (Nat.lt_succ_self p)).trans x0, (hb.cell (p := ⟨p, 1, none⟩) (Nat.lt_succ_self p)).trans x1, (hb.cell (p := ⟨p, 2, none⟩) (Nat.lt_succ_self p)).trans x2⟩
end
section
variable {w W W' : World} {B g p : Nat} {d d' : Dd} {X Y : Dx}
end
end Go.Proofs.Ytijpflljopckiaa
namespace Go.Proofs.Ytijpflljopckiaa
open Go.RowKit
set_option linter.unusedVariables false

/-- The cells of the argument and of the change that the indices are asked with. -/
abbrev K5 (p q : Nat) (d : Dd) (X : Dx) (e : Ed) (W : World) : Prop := K3 p d X W ∧ W.cell? ⟨q, 1, none⟩ = some (.int .i64 e.fr) ∧ W.cell? ⟨q, 2, none⟩ = some (.int .i64 e.to)
theorem Ab.k5 {w W : World} {p q r : Nat} {d : Dd} {X : Dx} {e : Ed} (h : Ab w p q r d X e W) : K5 p q d X e W := ⟨h.da.k, h.eb.c1, h.eb.c2⟩
/-- The next directory while its lists grow. -/
structure Rz (w : World) (p q r y : Nat) (d : Dd) (X : Dx) (e : Ed) (L : List Sp) (F : List Int) (Y : Dx) (W : World) : Prop where
  ab : Ab w p q r d X e W
  xb : Db10 W y ⟨d.vn + 1, L, F⟩ Y
  ol : W.ownsRow (r + 1) 115 3 (.slice Y.A L.length Y.c) L.length (scs L)
  of : W.ownsRow (r + 1) 3 1 (.slice Y.A2 F.length Y.c2) F.length (ics F)
  d1 : ∀ k, (Value.slice Y.A L.length Y.c).ownBlock = some k → (Value.slice Y.A2 F.length Y.c2).ownBlock ≠ some k
  d2 : ∀ k, (Value.slice Y.A L.length Y.c).ownBlock = some k → k ≠ y
  d3 : ∀ k, (Value.slice Y.A2 F.length Y.c2).ownBlock = some k → k ≠ y
  ry : r < y
section
variable {w W W' : World} {p q r y : Nat} {d : Dd} {X Y : Dx} {e : Ed} {L : List Sp} {F : List Int} {A2 : Option Addr} {c2 : Nat}
theorem Rz.below (h : Rz w p q r y d X e L F Y W) (hb : Below W.heap.size W W') : Rz w p q r y d X e L F Y W' :=
  ⟨h.ab.below hb, h.xb.up hb, own_up10 h.ol hb, own_up10 h.of hb, h.d1, h.d2, h.d3, h.ry⟩
end

section
variable {w W W' : World} {p q r y : Nat} {d : Dd} {X Y : Dx} {e : Ed} {L L' : List Sp} {F : List Int} {A : Option Addr} {c : Nat} {ob : Option Nat}
theorem Ab.oth (h : Ab w p q r d X e W) (hy : r < y) (j : Nat) (v : Value) : Ab w p q r d X e (W.setCell ⟨y, j, none⟩ v) := by
  have hn := h.ne
  exact ⟨h.da.other (a := ⟨y, j, none⟩) (show y ≠ p by omega) (h.of y (by omega)) (show w.heap.size ≤ y by omega) v, h.eb.other (a := ⟨y, j, none⟩) (show y ≠ q by omega) v, h.rb.other (a := ⟨y, j, none⟩) (show y ≠ r by omega) v, h.ne, h.of⟩
theorem Pl.grownV {B n c : Nat} {A : Option Addr} {l : List Sp} {g : Nat} (h : Pl W B (.slice A n c) l) (ho : ∀ a, A = some a → 0 < n → a.block ≠ g) (hB : B ≤ W.heap.size) (hg : W.grownBy W' (some g)) : Pl W' B (.slice A n c) l := by
  obtain ⟨h1, h2, h3⟩ := h.len
  subst h1
  refine ⟨A, c, rfl, h2, h3, h.rd.1, fun hn => ?_⟩
  obtain ⟨b, o, e, hb, hc⟩ := h.rd.2 hn
  have := ho _ e hn
  exact ⟨b, o, e, hb, fun j u hu => (hg.cell_far ⟨b, o + j, none⟩ (by show b < _; omega) (fun e' => by injection e' with e'; exact this e')).trans (hc j u hu)⟩
theorem Fl.grownV {B n c : Nat} {A : Option Addr} {l : List Int} {g : Nat} (h : Fl W B (.slice A n c) l) (ho : ∀ a, A = some a → 0 < n → a.block ≠ g) (hB : B ≤ W.heap.size) (hg : W.grownBy W' (some g)) : Fl W' B (.slice A n c) l := by
  obtain ⟨h1, h2, h3⟩ := h.len
  subst h1
  refine ⟨A, c, rfl, h2, h3, h.rd.1, fun hn => ?_⟩
  obtain ⟨b, o, e, hb, hc⟩ := h.rd.2 hn
  have := ho _ e hn
  exact ⟨b, o, e, hb, fun j u hu => (hg.cell_far ⟨b, o + j, none⟩ (by show b < _; omega) (fun e' => by injection e' with e'; exact this e')).trans (hc j u hu)⟩
theorem Ab.grownV (h : Ab w p q r d X e W) (hg : W.grownBy W' ob) (hlt : ∀ k, ob = some k → r < k) : Ab w p q r d X e W' := by
  have hn := h.ne
  cases ob with
  | none => exact h.below ((Below.refl _ _).grown hg (Nat.le_refl _) (fun k e => by cases e))
  | some g =>
    have hrg := hlt g rfl
    have ho := h.of g (by omega)
    exact ⟨⟨h.da.db.grown hg (by omega), (⟨h.da.dr.pl.grownV ho.o1 (Nat.le_refl _) hg, h.da.dr.fl.grownV ho.o2 (Nat.le_refl _) hg⟩ : DR W' W.heap.size d X).more hg.size, h.da.off, h.da.bel.grown hg h.da.bel.size (fun k e => by injection e with e; omega), h.da.old⟩, h.eb.grown hg (by omega), h.rb.grown hg (by omega), h.ne, h.of⟩
/-- Another list of spans is stored. -/
theorem Rz.newL (h : Rz w p q r y d X e L F Y W) (ho : W'.ownsRow (r + 1) 115 3 (.slice A L'.length c) L'.length (scs L')) (hg : W.grownBy W' ob) (h1 : ∀ k, ob = some k → r < k ∧ k ≠ y ∧ (Value.slice Y.A2 F.length Y.c2).ownBlock ≠ some k) (h2 : ∀ k, (Value.slice A L'.length c).ownBlock = some k → ob = some k ∨ W.heap.size ≤ k) :
    (W'.cell? ⟨y, 1, none⟩ = some (.slice Y.A L.length Y.c) ∧ W'.frozen? ⟨y, 1, none⟩ = false ∧ y < W'.heap.size) ∧ Rz w p q r y d X e L' F ⟨A, c, Y.A2, Y.c2⟩ (W'.setCell ⟨y, 1, none⟩ (.slice A L'.length c)) := by
  have hry := h.ry
  have hx := h.xb.grownO hg (fun e => (h1 y e).2.1 rfl)
  have hyl := h.xb.lt
  have hf := own_farO h.of hg (fun k hk e => (h1 k e).2.2 hk)
  have hLy : ∀ k, (Value.slice A L'.length c).ownBlock = some k → k ≠ y := fun k hk => by
    rcases h2 k hk with e | e
    · exact (h1 k e).2.1
    · omega
  refine ⟨⟨hx.c1, hx.fr 1, hx.lt⟩, (h.ab.grownV hg (fun k e => (h1 k e).1)).oth hry 1 _, ⟨by simp [go_sem, hx.c0], by simp [go_sem, hx.c1], by simp [go_sem, hx.c2], fun o => by simp [go_sem, hx.fr o], by simp [hx.lt]⟩, own_oth ho hLy _, own_oth hf h.d3 _, fun k hk => ?_, hLy, h.d3, hry⟩
  rcases h2 k hk with e | e
  · exact (h1 k e).2.2
  · intro e2; have := (h.of.lt k e2).2; omega
/-- The spans of an append to the own row. -/
theorem Rz.app (h : Rz w p q r y d X e L F Y W) {m : List Sp} {v : Value} (ho : W'.ownsRow (r + 1) 115 3 v (L.length + m.length) (scs L ++ scs m)) (hg : W.grownBy W' (Value.slice Y.A L.length Y.c).ownBlock) (hat : v.ownBlock = (Value.slice Y.A L.length Y.c).ownBlock ∨ v.ownBlock = some W.heap.size) :
    ∃ A c, v = .slice A (L.length + m.length) c ∧ (W'.cell? ⟨y, 1, none⟩ = some (.slice Y.A L.length Y.c) ∧ W'.frozen? ⟨y, 1, none⟩ = false ∧ y < W'.heap.size) ∧ Rz w p q r y d X e (L ++ m) F ⟨A, c, Y.A2, Y.c2⟩ (W'.setCell ⟨y, 1, none⟩ (.slice A (L.length + m.length) c)) := by
  obtain ⟨A, c, rfl⟩ := own_form ho
  have el : (L ++ m).length = L.length + m.length := by simp
  have k := h.newL (L' := L ++ m) (A := A) (c := c) (by rw [el, scs_app]; exact ho) hg (fun k hk => ⟨by have := (h.ol.lt k hk).1; omega, h.d2 k hk, h.d1 k hk⟩) (fun k hk => by
    rw [el] at hk
    rcases hat with e | e
    · left; rw [← e]; exact hk
    · right; rw [e] at hk; injection hk with hk; omega)
  rw [el] at k
  exact ⟨A, c, rfl, k⟩
/-- The result. -/
theorem Rz.out (h : Rz w p q r y d X e L F Y W) (x : Int) : DE w.heap.size w ⟨d.vn + 1, L, F⟩ x (.returned (.tuple #[dv ⟨d.vn + 1, L, F⟩ Y, .int .i64 x])) (((W.setCell ⟨r, 0, none⟩ (.int .i64 (d.vn + 1))).setCell ⟨r, 1, none⟩ (.slice Y.A L.length Y.c)).setCell ⟨r, 2, none⟩ (.slice Y.A2 F.length Y.c2)) :=
  h.ab.out (D := ⟨d.vn + 1, L, F⟩) (Y := Y) (B := r + 1) ⟨nwv_of (nwv_own h.ol (Nat.le_refl _)), nwv_of (nwv_own h.of (Nat.le_refl _))⟩ (Nat.lt_succ_self r) ⟨Pl.of_own h.ol, Fl.of_own h.of⟩ x
end

/-- The two spans of a split. -/
def s12 (M : Sp) (e : Ed) : List Sp := [⟨M.lo, e.md, e.fr⟩, ⟨e.md + 1, M.hi, e.to⟩]
/-- The work of a split: the box of the span, the first spans' copy, the two new spans. -/
structure Rs (w : World) (p q r y u : Nat) (d : Dd) (X : Dx) (e : Ed) (F : List Int) (Y : Dx) (i : Nat) (M : Sp) (oA : Option Value) (oB : Option Nat) (W : World) : Prop where
  rz : Rz w p q r y d X e [] F Y W
  u0 : W.cell? ⟨u, 0, none⟩ = some (.int .i64 M.lo)
  u1 : W.cell? ⟨u, 1, none⟩ = some (.int .i64 M.hi)
  ul : u < W.heap.size
  yu : y < u
  fa : ∀ v, oA = some v → W.ownsRow (r + 1) 115 3 v i (scs (d.l.take i)) ∧ ∀ k, v.ownBlock = some k → u < k ∧ (Value.slice Y.A2 F.length Y.c2).ownBlock ≠ some k
  fb : ∀ b, oB = some b → Rd W W.heap.size 3 (some ⟨b, 0, none⟩) 2 (scs (s12 M e))
/-- The cells that a split reads. -/
abbrev K9 (p q u : Nat) (d : Dd) (X : Dx) (e : Ed) (M : Sp) (W : World) : Prop := (W.cell? ⟨p, 0, none⟩ = some (.int .i64 d.vn) ∧ W.cell? ⟨p, 1, none⟩ = some (.slice X.A d.l.length X.c) ∧ W.cell? ⟨p, 2, none⟩ = some (.slice X.A2 d.F.length X.c2)) ∧ W.cell? ⟨q, 1, none⟩ = some (.int .i64 e.fr) ∧ W.cell? ⟨q, 2, none⟩ = some (.int .i64 e.to) ∧ W.cell? ⟨q, 3, none⟩ = some (.int .i64 e.md) ∧ W.cell? ⟨u, 0, none⟩ = some (.int .i64 M.lo) ∧ W.cell? ⟨u, 1, none⟩ = some (.int .i64 M.hi)
section
variable {w W W' : World} {p q r y u i : Nat} {d : Dd} {X Y : Dx} {e : Ed} {F : List Int} {M : Sp} {oA : Option Value} {oB : Option Nat}
theorem Rs.below (h : Rs w p q r y u d X e F Y i M oA oB W) (hb : Below W.heap.size W W') : Rs w p q r y u d X e F Y i M oA oB W' :=
  ⟨h.rz.below hb, (hb.cell (p := ⟨u, 0, none⟩) h.ul).trans h.u0, (hb.cell (p := ⟨u, 1, none⟩) h.ul).trans h.u1, Nat.lt_of_lt_of_le h.ul hb.size, h.yu, fun v ev => ⟨own_up10 (h.fa v ev).1 hb, (h.fa v ev).2⟩, fun b eb => ((h.fb b eb).keep (fun p hp => hb.cell hp)).more hb.size⟩
theorem Rs.drew (h : Rs w p q r y u d X e F Y i M oA oB W) : Rs w p q r y u d X e F Y i M oA oB W.drew := h.below (Below.refl _ _).drew
theorem Rs.k9 (h : Rs w p q r y u d X e F Y i M oA oB W) (hb : Below (u + 1) W W') : K9 p q u d X e M W' := by
  have hn := h.rz.ab.ne
  have h1 := h.rz.ry
  have h2 := h.yu
  have hc : ∀ (a j : Nat), a ≤ u → W'.cell? ⟨a, j, none⟩ = W.cell? ⟨a, j, none⟩ := fun a j ha => hb.cell (p := ⟨a, j, none⟩) (show a < u + 1 by omega)
  exact ⟨⟨(hc p 0 (by omega)).trans h.rz.ab.da.db.c0, (hc p 1 (by omega)).trans h.rz.ab.da.db.c1, (hc p 2 (by omega)).trans h.rz.ab.da.db.c2⟩, (hc q 1 (by omega)).trans h.rz.ab.eb.c1, (hc q 2 (by omega)).trans h.rz.ab.eb.c2, (hc q 3 (by omega)).trans h.rz.ab.eb.c3, (hc u 0 (by omega)).trans h.u0, (hc u 1 (by omega)).trans h.u1⟩
theorem Rs.a1 (h : Rs w p q r y u d X e F Y i M none oB W) {v : Value} (ho : W'.ownsRow W.heap.size 115 3 v i (scs (d.l.take i))) (hb : Below W.heap.size W W') : Rs w p q r y u d X e F Y i M (some v) oB W' := by
  have k := h.below hb
  have hr := h.rz.ab.rb.lt
  refine ⟨k.rz, k.u0, k.u1, k.ul, k.yu, fun v' ev => ?_, k.fb⟩
  injection ev with ev; subst ev
  refine ⟨own_low ho (by omega), fun j hj => ⟨?_, fun e2 => ?_⟩⟩
  · have := (ho.lt j hj).1; have := h.ul; omega
  · have := (ho.lt j hj).1; have := (h.rz.of.lt j e2).2; omega
theorem Rs.b1 (h : Rs w p q r y u d X e F Y i M oA none W) (t : TypeId) : Rs w p q r y u d X e F Y i M oA (some W.heap.size) (W.alloc (.cells #[.int .i64 M.lo, .int .i64 e.md, .int .i64 e.fr, .int .i64 (e.md + 1), .int .i64 M.hi, .int .i64 e.to] t)) := by
  have k := h.below ((Below.refl _ _).alloc (Nat.le_refl _) (.cells #[.int .i64 M.lo, .int .i64 e.md, .int .i64 e.fr, .int .i64 (e.md + 1), .int .i64 M.hi, .int .i64 e.to] t))
  refine ⟨k.rz, k.u0, k.u1, k.ul, k.yu, k.fa, fun b eb => ?_⟩
  injection eb with eb; subst eb
  refine ⟨rfl, fun _ => ⟨W.heap.size, 0, rfl, by simp, fun j x hx => ?_⟩⟩
  have hj : j < 6 := by have := (List.getElem?_eq_some_iff.1 hx).1; exact this
  match j, hj with
  | 0, _ => injection hx with hx; subst hx; simp [go_sem]
  | 1, _ => injection hx with hx; subst hx; simp [go_sem]
  | 2, _ => injection hx with hx; subst hx; simp [go_sem]
  | 3, _ => injection hx with hx; subst hx; simp [go_sem]
  | 4, _ => injection hx with hx; subst hx; simp [go_sem]
  | 5, _ => injection hx with hx; subst hx; simp [go_sem]
end

/-- The new span of a merge. -/
def s1m (M N : Sp) (e : Ed) : List Sp := [⟨M.lo, N.hi, e.to⟩]
/-- The work of a merge: the first spans' copy, the new span. -/
structure Rm (w : World) (p q r y : Nat) (d : Dd) (X : Dx) (e : Ed) (F : List Int) (Y : Dx) (i : Nat) (M N : Sp) (oA : Option Value) (oB : Option Nat) (W : World) : Prop where
  rz : Rz w p q r y d X e [] F Y W
  fa : ∀ v, oA = some v → W.ownsRow (r + 1) 115 3 v i (scs (d.l.take i)) ∧ ∀ k, v.ownBlock = some k → y < k ∧ (Value.slice Y.A2 F.length Y.c2).ownBlock ≠ some k
  fb : ∀ b, oB = some b → Rd W W.heap.size 3 (some ⟨b, 0, none⟩) 1 (scs (s1m M N e))
section
variable {w W W' : World} {p q r y i b o1 o2 : Nat} {d : Dd} {X Y : Dx} {e : Ed} {F : List Int} {M N : Sp} {oA : Option Value} {oB : Option Nat}
theorem Rm.below (h : Rm w p q r y d X e F Y i M N oA oB W) (hb : Below W.heap.size W W') : Rm w p q r y d X e F Y i M N oA oB W' :=
  ⟨h.rz.below hb, fun v ev => ⟨own_up10 (h.fa v ev).1 hb, (h.fa v ev).2⟩, fun b eb => ((h.fb b eb).keep (fun p hp => hb.cell hp)).more hb.size⟩
theorem Rm.drew (h : Rm w p q r y d X e F Y i M N oA oB W) : Rm w p q r y d X e F Y i M N oA oB W.drew := h.below (Below.refl _ _).drew
theorem Rm.a1 (h : Rm w p q r y d X e F Y i M N none oB W) {v : Value} (ho : W'.ownsRow W.heap.size 115 3 v i (scs (d.l.take i))) (hb : Below W.heap.size W W') : Rm w p q r y d X e F Y i M N (some v) oB W' := by
  have k := h.below hb
  have hr := h.rz.ab.rb.lt
  have hyl := h.rz.xb.lt
  refine ⟨k.rz, fun v' ev => ?_, k.fb⟩
  injection ev with ev; subst ev
  refine ⟨own_low ho (by omega), fun j hj => ⟨?_, fun e2 => ?_⟩⟩
  · have := (ho.lt j hj).1; omega
  · have := (ho.lt j hj).1; have := (h.rz.of.lt j e2).2; omega
theorem Rm.b1 (h : Rm w p q r y d X e F Y i M N oA none W) (t : TypeId) : Rm w p q r y d X e F Y i M N oA (some W.heap.size) (W.alloc (.cells #[.int .i64 M.lo, .int .i64 N.hi, .int .i64 e.to] t)) := by
  have k := h.below ((Below.refl _ _).alloc (Nat.le_refl _) (.cells #[.int .i64 M.lo, .int .i64 N.hi, .int .i64 e.to] t))
  refine ⟨k.rz, k.fa, fun b eb => ?_⟩
  injection eb with eb; subst eb
  refine ⟨rfl, fun _ => ⟨W.heap.size, 0, rfl, by simp, fun j x hx => ?_⟩⟩
  have hj : j < 3 := by have := (List.getElem?_eq_some_iff.1 hx).1; exact this
  match j, hj with
  | 0, _ => injection hx with hx; subst hx; simp [go_sem]
  | 1, _ => injection hx with hx; subst hx; simp [go_sem]
  | 2, _ => injection hx with hx; subst hx; simp [go_sem]
end
end Go.Proofs.Ytijpflljopckiaa
