/- What is proved here: directory.Apply by a contract; what DirectoryOwners and DirectoryHomes hold while a change is drawn and applied; (plain) the boxes and the growing lists of ref10.Apply; Directory of the statements' base makes a valid directory; what a statement about built directories holds: a source, a directory in a box, its lists copied and changed in one place. -/
import Derived.Test.YtijpflljopckiaaJ16
import Derived.Test.YtijpflljopckiaaJ15
import Derived.Test.YtijpflljopckiaaJ14
import Derived.Test.YtijpflljopckiaaJ02
import Derived.Deep.AppendLies
import Derived.Test.YtijpflljopckiaaJ13
import Derived.Test.YtijpflljopckiaaRows
import Derived.WalkKit
import Derived.Outline
import Derived.IntWalk
import Derived.Deep.RegionHeld3
import Derived.Deep.DrawnRows
import Derived.Deep.QuietTactic
import Derived.BigQuiet
import Derived.WalkSpells
import Derived.Deep.DeepCutAuto
namespace Go.Proofs.Ytijpflljopckiaa
open Go.RowKit
set_option linter.unusedVariables false

/-- The boxes of Apply: a directory, a change, a result. -/
structure Ab (w : World) (p q r : Nat) (d : Dd) (X : Dx) (e : Ed) (W : World) : Prop where
  da : DAt w p d X W
  eb : EB W q e
  rb : Db10 W r zD10 zDx
  ne : w.heap.size ≤ p ∧ p < q ∧ q < r
  of : ∀ z, w.heap.size ≤ z → DOff d X z
section
variable {w W W' : World} {p q r : Nat} {d : Dd} {X : Dx} {e : Ed}
theorem Ab.below (h : Ab w p q r d X e W) (hb : Below W.heap.size W W') : Ab w p q r d X e W' := ⟨h.da.below hb, h.eb.up hb, h.rb.up hb, h.ne, h.of⟩
/-- A result that a call gave, stored into the result box. -/
theorem Ab.out (h : Ab w p q r d X e W) {B : Nat} {D : Dd} {Y : Dx} (hn : Y.nw B) (hB : r < B) (hr : DR W W.heap.size D Y) (x : Int) : DE w.heap.size w D x (.returned (.tuple #[dv D Y, .int .i64 x])) (((W.setCell ⟨r, 0, none⟩ (.int .i64 D.vn)).setCell ⟨r, 1, none⟩ (.slice Y.A D.l.length Y.c)).setCell ⟨r, 2, none⟩ (.slice Y.A2 D.F.length Y.c2)) := by
  have hp := h.ne
  have hb := h.da.bel
  have f : ∀ o, DOff D Y (⟨r, o, none⟩ : Addr).block := fun o => hn.off hB
  exact ⟨Y, rfl, hn.low (by omega), (((hr.offp (q := ⟨r, 0, none⟩) (f 0) _).offp (q := ⟨r, 1, none⟩) (f 1) _).offp (q := ⟨r, 2, none⟩) (f 2) _).more (by simp), ((hb.setCell (p := ⟨r, 0, none⟩) (show w.heap.size ≤ r by omega) _).setCell (p := ⟨r, 1, none⟩) (show w.heap.size ≤ r by omega) _).setCell (p := ⟨r, 2, none⟩) (show w.heap.size ≤ r by omega) _⟩
end
/-- .. with what the copies have given, and the box of the next directory. -/
structure Nx (w : World) (p q r : Nat) (d : Dd) (X : Dx) (e : Ed) (oL oF : Option Value) (oX : Option Nat) (W : World) : Prop where
  ab : Ab w p q r d X e W
  fl : ∀ v, oL = some v → W.ownsRow (r + 1) 115 3 v d.l.length (scs d.l)
  ff : ∀ v, oF = some v → W.ownsRow (r + 1) 3 1 v d.F.length (ics d.F)
  fx : ∀ x, oX = some x → Db10 W x zD10 zDx ∧ r < x
  d1 : ∀ u v, oL = some u → oF = some v → ∀ k, u.ownBlock = some k → v.ownBlock ≠ some k
  d2 : ∀ u x, oL = some u → oX = some x → ∀ k, u.ownBlock = some k → k ≠ x
  d3 : ∀ u x, oF = some u → oX = some x → ∀ k, u.ownBlock = some k → k ≠ x
section
variable {w W W' : World} {p q r : Nat} {d : Dd} {X : Dx} {e : Ed} {a b : Option Value} {c : Option Nat}
theorem Nx.below (h : Nx w p q r d X e a b c W) (hb : Below W.heap.size W W') : Nx w p q r d X e a b c W' :=
  ⟨h.ab.below hb, fun v ev => own_up10 (h.fl v ev) hb, fun v ev => own_up10 (h.ff v ev) hb, fun x ex => ⟨(h.fx x ex).1.up hb, (h.fx x ex).2⟩, h.d1, h.d2, h.d3⟩
theorem Nx.drew (h : Nx w p q r d X e a b c W) : Nx w p q r d X e a b c W.drew := h.below (Below.refl _ _).drew
theorem Nx.start (h : Ab w p q r d X e W) : Nx w p q r d X e none none none W := ⟨h, by simp, by simp, by simp, by simp, by simp, by simp⟩
theorem Nx.cl (h : Nx w p q r d X e none b c W) {v : Value} (ho : W'.ownsRow W.heap.size 115 3 v d.l.length (scs d.l)) (hb : Below W.heap.size W W') : Nx w p q r d X e (some v) b c W' := by
  have k := h.below hb
  refine ⟨k.ab, fun u eu => ?_, k.ff, k.fx, fun u x eu ex j hj => ?_, fun u x eu ex j hj => ?_, k.d3⟩
  · injection eu with eu; subst eu
    exact own_low ho h.ab.rb.lt
  · injection eu with eu; subst eu
    intro e2
    have h1 := ((h.ff x ex).lt j e2).2
    have h2 := (ho.lt j hj).1
    omega
  · injection eu with eu; subst eu
    have h1 := (h.fx x ex).1.lt
    have h2 := (ho.lt j hj).1
    omega
end
section
variable {w W W' : World} {p q r : Nat} {d : Dd} {X : Dx} {e : Ed} {A A2 : Option Addr} {c c2 : Nat}
end
theorem Ab.k3 {w W W' : World} {p q r : Nat} {d : Dd} {X : Dx} {e : Ed} (h : Ab w p q r d X e W) (hb : Below (p + 1) W W') : K3 p d X W' :=
  ⟨(hb.cell (p := ⟨p, 0, none⟩) (Nat.lt_succ_self p)).trans h.da.db.c0, (hb.cell (p := ⟨p, 1, none⟩) (Nat.lt_succ_self p)).trans h.da.db.c1, (hb.cell (p := ⟨p, 2, none⟩) (Nat.lt_succ_self p)).trans h.da.db.c2⟩
end Go.Proofs.Ytijpflljopckiaa
namespace Go.Proofs.Ytijpflljopckiaa
open Go.RowKit
set_option linter.unusedVariables false

theorem DsAt.other {w W : World} {B g p : Nat} {d : Dd} {X : Dx} (h : DsAt w B g p d X W) {a : Addr} (h1 : a.block ≠ p) (h2 : a.block ≠ g) (h3 : DOff d X a.block) (h4 : w.heap.size ≤ a.block) (v : Value) : DsAt w B g p d X (W.setCell a v) :=
  ⟨h.src.other h2 (by have := h.ne; omega) v, h.db.other h1 v, (h.dr.offp (q := a) h3 v).more (by simp), h.op, h.og, h.ne, h.bel.setCell (p := a) h4 v⟩
/-- .. and the box of the next directory, once it is made. -/
structure DnAt (w : World) (B g p : Nat) (d : Dd) (X : Dx) (oz : Option Nat) (W : World) : Prop where
  ds : DsAt w B g p d X W
  zb : ∀ z, oz = some z → Db10 W z zD10 zDx ∧ z ≠ g ∧ z ≠ p ∧ w.heap.size ≤ z ∧ DOff d X z
section
variable {w W W' : World} {B g p : Nat} {d : Dd} {X : Dx} {oz : Option Nat}
theorem DnAt.start (h : DsAt w B g p d X W) : DnAt w B g p d X none W := ⟨h, by simp⟩
theorem DnAt.below (h : DnAt w B g p d X oz W) (hb : Below W.heap.size W W') : DnAt w B g p d X oz W' := ⟨h.ds.below hb, fun z e => ⟨(h.zb z e).1.up hb, (h.zb z e).2⟩⟩
theorem DnAt.drew (h : DnAt w B g p d X oz W) : DnAt w B g p d X oz W.drew := h.below (Below.refl _ _).drew
theorem DnAt.turn (h : DnAt w B g p d X oz W) (hs : SrcAt W' B g) (hg : W.grownBy W' (some g)) : DnAt w B g p d X oz W' := ⟨h.ds.turn hs hg, fun z e => ⟨(h.zb z e).1.grown hg (h.zb z e).2.1, (h.zb z e).2⟩⟩
theorem DnAt.k3 (h : DnAt w B g p d X oz W) {u : World} (hb : Below (p + 1) W u) : K3 p d X u := by
  obtain ⟨⟨x0, x1, x2, xl⟩, -⟩ := h.ds.db.all
  exact ⟨(hb.cell (p := ⟨p, 0, none⟩) (Nat.lt_succ_self p)).trans x0, (hb.cell (p := ⟨p, 1, none⟩) (Nat.lt_succ_self p)).trans x1, (hb.cell (p := ⟨p, 2, none⟩) (Nat.lt_succ_self p)).trans x2⟩
end
section
variable {w W W' : World} {B g p : Nat} {d d' : Dd} {X Y : Dx}
end
end Go.Proofs.Ytijpflljopckiaa
namespace Go.Proofs.Ytijpflljopckiaa
open Go.RowKit
set_option linter.unusedVariables false

/-- The cells of the argument and of the change that the indices are asked with. -/
abbrev K5 (p q : Nat) (d : Dd) (X : Dx) (e : Ed) (W : World) : Prop := K3 p d X W ∧ W.cell? ⟨q, 1, none⟩ = some (.int .i64 e.fr) ∧ W.cell? ⟨q, 2, none⟩ = some (.int .i64 e.to)
theorem Ab.k5 {w W : World} {p q r : Nat} {d : Dd} {X : Dx} {e : Ed} (h : Ab w p q r d X e W) : K5 p q d X e W := ⟨h.da.k, h.eb.c1, h.eb.c2⟩
/-- The next directory while its lists grow. -/
structure Rz (w : World) (p q r y : Nat) (d : Dd) (X : Dx) (e : Ed) (L : List Sp) (F : List Int) (Y : Dx) (W : World) : Prop where
  ab : Ab w p q r d X e W
  xb : Db10 W y ⟨d.vn + 1, L, F⟩ Y
  ol : W.ownsRow (r + 1) 115 3 (.slice Y.A L.length Y.c) L.length (scs L)
  of : W.ownsRow (r + 1) 3 1 (.slice Y.A2 F.length Y.c2) F.length (ics F)
  d1 : ∀ k, (Value.slice Y.A L.length Y.c).ownBlock = some k → (Value.slice Y.A2 F.length Y.c2).ownBlock ≠ some k
  d2 : ∀ k, (Value.slice Y.A L.length Y.c).ownBlock = some k → k ≠ y
  d3 : ∀ k, (Value.slice Y.A2 F.length Y.c2).ownBlock = some k → k ≠ y
  ry : r < y
section
variable {w W W' : World} {p q r y : Nat} {d : Dd} {X Y : Dx} {e : Ed} {L : List Sp} {F : List Int} {A2 : Option Addr} {c2 : Nat}
theorem Rz.below (h : Rz w p q r y d X e L F Y W) (hb : Below W.heap.size W W') : Rz w p q r y d X e L F Y W' :=
  ⟨h.ab.below hb, h.xb.up hb, own_up10 h.ol hb, own_up10 h.of hb, h.d1, h.d2, h.d3, h.ry⟩
end

section
variable {w W W' : World} {p q r y : Nat} {d : Dd} {X Y : Dx} {e : Ed} {L L' : List Sp} {F : List Int} {A : Option Addr} {c : Nat} {ob : Option Nat}
theorem Ab.oth (h : Ab w p q r d X e W) (hy : r < y) (j : Nat) (v : Value) : Ab w p q r d X e (W.setCell ⟨y, j, none⟩ v) := by
  have hn := h.ne
  exact ⟨h.da.other (a := ⟨y, j, none⟩) (show y ≠ p by omega) (h.of y (by omega)) (show w.heap.size ≤ y by omega) v, h.eb.other (a := ⟨y, j, none⟩) (show y ≠ q by omega) v, h.rb.other (a := ⟨y, j, none⟩) (show y ≠ r by omega) v, h.ne, h.of⟩
theorem Pl.grownV {B n c : Nat} {A : Option Addr} {l : List Sp} {g : Nat} (h : Pl W B (.slice A n c) l) (ho : ∀ a, A = some a → 0 < n → a.block ≠ g) (hB : B ≤ W.heap.size) (hg : W.grownBy W' (some g)) : Pl W' B (.slice A n c) l := by
  obtain ⟨h1, h2, h3⟩ := h.len
  subst h1
  refine ⟨A, c, rfl, h2, h3, h.rd.1, fun hn => ?_⟩
  obtain ⟨b, o, e, hb, hc⟩ := h.rd.2 hn
  have := ho _ e hn
  exact ⟨b, o, e, hb, fun j u hu => (hg.cell_far ⟨b, o + j, none⟩ (by show b < _; omega) (fun e' => by injection e' with e'; exact this e')).trans (hc j u hu)⟩
theorem Fl.grownV {B n c : Nat} {A : Option Addr} {l : List Int} {g : Nat} (h : Fl W B (.slice A n c) l) (ho : ∀ a, A = some a → 0 < n → a.block ≠ g) (hB : B ≤ W.heap.size) (hg : W.grownBy W' (some g)) : Fl W' B (.slice A n c) l := by
  obtain ⟨h1, h2, h3⟩ := h.len
  subst h1
  refine ⟨A, c, rfl, h2, h3, h.rd.1, fun hn => ?_⟩
  obtain ⟨b, o, e, hb, hc⟩ := h.rd.2 hn
  have := ho _ e hn
  exact ⟨b, o, e, hb, fun j u hu => (hg.cell_far ⟨b, o + j, none⟩ (by show b < _; omega) (fun e' => by injection e' with e'; exact this e')).trans (hc j u hu)⟩
theorem Ab.grownV (h : Ab w p q r d X e W) (hg : W.grownBy W' ob) (hlt : ∀ k, ob = some k → r < k) : Ab w p q r d X e W' := by
  have hn := h.ne
  cases ob with
  | none => exact h.below ((Below.refl _ _).grown hg (Nat.le_refl _) (fun k e => by cases e))
  | some g =>
    have hrg := hlt g rfl
    have ho := h.of g (by omega)
    exact ⟨⟨h.da.db.grown hg (by omega), (⟨h.da.dr.pl.grownV ho.o1 (Nat.le_refl _) hg, h.da.dr.fl.grownV ho.o2 (Nat.le_refl _) hg⟩ : DR W' W.heap.size d X).more hg.size, h.da.off, h.da.bel.grown hg h.da.bel.size (fun k e => by injection e with e; omega), h.da.old⟩, h.eb.grown hg (by omega), h.rb.grown hg (by omega), h.ne, h.of⟩
/-- Another list of spans is stored. -/
theorem Rz.newL (h : Rz w p q r y d X e L F Y W) (ho : W'.ownsRow (r + 1) 115 3 (.slice A L'.length c) L'.length (scs L')) (hg : W.grownBy W' ob) (h1 : ∀ k, ob = some k → r < k ∧ k ≠ y ∧ (Value.slice Y.A2 F.length Y.c2).ownBlock ≠ some k) (h2 : ∀ k, (Value.slice A L'.length c).ownBlock = some k → ob = some k ∨ W.heap.size ≤ k) :
    (W'.cell? ⟨y, 1, none⟩ = some (.slice Y.A L.length Y.c) ∧ W'.frozen? ⟨y, 1, none⟩ = false ∧ y < W'.heap.size) ∧ Rz w p q r y d X e L' F ⟨A, c, Y.A2, Y.c2⟩ (W'.setCell ⟨y, 1, none⟩ (.slice A L'.length c)) := by
  have hry := h.ry
  have hx := h.xb.grownO hg (fun e => (h1 y e).2.1 rfl)
  have hyl := h.xb.lt
  have hf := own_farO h.of hg (fun k hk e => (h1 k e).2.2 hk)
  have hLy : ∀ k, (Value.slice A L'.length c).ownBlock = some k → k ≠ y := fun k hk => by
    rcases h2 k hk with e | e
    · exact (h1 k e).2.1
    · omega
  refine ⟨⟨hx.c1, hx.fr 1, hx.lt⟩, (h.ab.grownV hg (fun k e => (h1 k e).1)).oth hry 1 _, ⟨by simp [go_sem, hx.c0], by simp [go_sem, hx.c1], by simp [go_sem, hx.c2], fun o => by simp [go_sem, hx.fr o], by simp [hx.lt]⟩, own_oth ho hLy _, own_oth hf h.d3 _, fun k hk => ?_, hLy, h.d3, hry⟩
  rcases h2 k hk with e | e
  · exact (h1 k e).2.2
  · intro e2; have := (h.of.lt k e2).2; omega
/-- The spans of an append to the own row. -/
theorem Rz.app (h : Rz w p q r y d X e L F Y W) {m : List Sp} {v : Value} (ho : W'.ownsRow (r + 1) 115 3 v (L.length + m.length) (scs L ++ scs m)) (hg : W.grownBy W' (Value.slice Y.A L.length Y.c).ownBlock) (hat : v.ownBlock = (Value.slice Y.A L.length Y.c).ownBlock ∨ v.ownBlock = some W.heap.size) :
    ∃ A c, v = .slice A (L.length + m.length) c ∧ (W'.cell? ⟨y, 1, none⟩ = some (.slice Y.A L.length Y.c) ∧ W'.frozen? ⟨y, 1, none⟩ = false ∧ y < W'.heap.size) ∧ Rz w p q r y d X e (L ++ m) F ⟨A, c, Y.A2, Y.c2⟩ (W'.setCell ⟨y, 1, none⟩ (.slice A (L.length + m.length) c)) := by
  obtain ⟨A, c, rfl⟩ := own_form ho
  have el : (L ++ m).length = L.length + m.length := by simp
  have k := h.newL (L' := L ++ m) (A := A) (c := c) (by rw [el, scs_app]; exact ho) hg (fun k hk => ⟨by have := (h.ol.lt k hk).1; omega, h.d2 k hk, h.d1 k hk⟩) (fun k hk => by
    rw [el] at hk
    rcases hat with e | e
    · left; rw [← e]; exact hk
    · right; rw [e] at hk; injection hk with hk; omega)
  rw [el] at k
  exact ⟨A, c, rfl, k⟩
/-- The result. -/
theorem Rz.out (h : Rz w p q r y d X e L F Y W) (x : Int) : DE w.heap.size w ⟨d.vn + 1, L, F⟩ x (.returned (.tuple #[dv ⟨d.vn + 1, L, F⟩ Y, .int .i64 x])) (((W.setCell ⟨r, 0, none⟩ (.int .i64 (d.vn + 1))).setCell ⟨r, 1, none⟩ (.slice Y.A L.length Y.c)).setCell ⟨r, 2, none⟩ (.slice Y.A2 F.length Y.c2)) :=
  h.ab.out (D := ⟨d.vn + 1, L, F⟩) (Y := Y) (B := r + 1) ⟨nwv_of (nwv_own h.ol (Nat.le_refl _)), nwv_of (nwv_own h.of (Nat.le_refl _))⟩ (Nat.lt_succ_self r) ⟨Pl.of_own h.ol, Fl.of_own h.of⟩ x
end

/-- The two spans of a split. -/
def s12 (M : Sp) (e : Ed) : List Sp := [⟨M.lo, e.md, e.fr⟩, ⟨e.md + 1, M.hi, e.to⟩]
/-- The work of a split: the box of the span, the first spans' copy, the two new spans. -/
structure Rs (w : World) (p q r y u : Nat) (d : Dd) (X : Dx) (e : Ed) (F : List Int) (Y : Dx) (i : Nat) (M : Sp) (oA : Option Value) (oB : Option Nat) (W : World) : Prop where
  rz : Rz w p q r y d X e [] F Y W
  u0 : W.cell? ⟨u, 0, none⟩ = some (.int .i64 M.lo)
  u1 : W.cell? ⟨u, 1, none⟩ = some (.int .i64 M.hi)
  ul : u < W.heap.size
  yu : y < u
  fa : ∀ v, oA = some v → W.ownsRow (r + 1) 115 3 v i (scs (d.l.take i)) ∧ ∀ k, v.ownBlock = some k → u < k ∧ (Value.slice Y.A2 F.length Y.c2).ownBlock ≠ some k
  fb : ∀ b, oB = some b → Rd W W.heap.size 3 (some ⟨b, 0, none⟩) 2 (scs (s12 M e))
/-- The cells that a split reads. -/
abbrev K9 (p q u : Nat) (d : Dd) (X : Dx) (e : Ed) (M : Sp) (W : World) : Prop := (W.cell? ⟨p, 0, none⟩ = some (.int .i64 d.vn) ∧ W.cell? ⟨p, 1, none⟩ = some (.slice X.A d.l.length X.c) ∧ W.cell? ⟨p, 2, none⟩ = some (.slice X.A2 d.F.length X.c2)) ∧ W.cell? ⟨q, 1, none⟩ = some (.int .i64 e.fr) ∧ W.cell? ⟨q, 2, none⟩ = some (.int .i64 e.to) ∧ W.cell? ⟨q, 3, none⟩ = some (.int .i64 e.md) ∧ W.cell? ⟨u, 0, none⟩ = some (.int .i64 M.lo) ∧ W.cell? ⟨u, 1, none⟩ = some (.int .i64 M.hi)
section
variable {w W W' : World} {p q r y u i : Nat} {d : Dd} {X Y : Dx} {e : Ed} {F : List Int} {M : Sp} {oA : Option Value} {oB : Option Nat}
theorem Rs.below (h : Rs w p q r y u d X e F Y i M oA oB W) (hb : Below W.heap.size W W') : Rs w p q r y u d X e F Y i M oA oB W' :=
  ⟨h.rz.below hb, (hb.cell (p := ⟨u, 0, none⟩) h.ul).trans h.u0, (hb.cell (p := ⟨u, 1, none⟩) h.ul).trans h.u1, Nat.lt_of_lt_of_le h.ul hb.size, h.yu, fun v ev => ⟨own_up10 (h.fa v ev).1 hb, (h.fa v ev).2⟩, fun b eb => ((h.fb b eb).keep (fun p hp => hb.cell hp)).more hb.size⟩
theorem Rs.drew (h : Rs w p q r y u d X e F Y i M oA oB W) : Rs w p q r y u d X e F Y i M oA oB W.drew := h.below (Below.refl _ _).drew
theorem Rs.k9 (h : Rs w p q r y u d X e F Y i M oA oB W) (hb : Below (u + 1) W W') : K9 p q u d X e M W' := by
  have hn := h.rz.ab.ne
  have h1 := h.rz.ry
  have h2 := h.yu
  have hc : ∀ (a j : Nat), a ≤ u → W'.cell? ⟨a, j, none⟩ = W.cell? ⟨a, j, none⟩ := fun a j ha => hb.cell (p := ⟨a, j, none⟩) (show a < u + 1 by omega)
  exact ⟨⟨(hc p 0 (by omega)).trans h.rz.ab.da.db.c0, (hc p 1 (by omega)).trans h.rz.ab.da.db.c1, (hc p 2 (by omega)).trans h.rz.ab.da.db.c2⟩, (hc q 1 (by omega)).trans h.rz.ab.eb.c1, (hc q 2 (by omega)).trans h.rz.ab.eb.c2, (hc q 3 (by omega)).trans h.rz.ab.eb.c3, (hc u 0 (by omega)).trans h.u0, (hc u 1 (by omega)).trans h.u1⟩
theorem Rs.a1 (h : Rs w p q r y u d X e F Y i M none oB W) {v : Value} (ho : W'.ownsRow W.heap.size 115 3 v i (scs (d.l.take i))) (hb : Below W.heap.size W W') : Rs w p q r y u d X e F Y i M (some v) oB W' := by
  have k := h.below hb
  have hr := h.rz.ab.rb.lt
  refine ⟨k.rz, k.u0, k.u1, k.ul, k.yu, fun v' ev => ?_, k.fb⟩
  injection ev with ev; subst ev
  refine ⟨own_low ho (by omega), fun j hj => ⟨?_, fun e2 => ?_⟩⟩
  · have := (ho.lt j hj).1; have := h.ul; omega
  · have := (ho.lt j hj).1; have := (h.rz.of.lt j e2).2; omega
theorem Rs.b1 (h : Rs w p q r y u d X e F Y i M oA none W) (t : TypeId) : Rs w p q r y u d X e F Y i M oA (some W.heap.size) (W.alloc (.cells #[.int .i64 M.lo, .int .i64 e.md, .int .i64 e.fr, .int .i64 (e.md + 1), .int .i64 M.hi, .int .i64 e.to] t)) := by
  have k := h.below ((Below.refl _ _).alloc (Nat.le_refl _) (.cells #[.int .i64 M.lo, .int .i64 e.md, .int .i64 e.fr, .int .i64 (e.md + 1), .int .i64 M.hi, .int .i64 e.to] t))
  refine ⟨k.rz, k.u0, k.u1, k.ul, k.yu, k.fa, fun b eb => ?_⟩
  injection eb with eb; subst eb
  refine ⟨rfl, fun _ => ⟨W.heap.size, 0, rfl, by simp, fun j x hx => ?_⟩⟩
  have hj : j < 6 := by have := (List.getElem?_eq_some_iff.1 hx).1; exact this
  match j, hj with
  | 0, _ => injection hx with hx; subst hx; simp [go_sem]
  | 1, _ => injection hx with hx; subst hx; simp [go_sem]
  | 2, _ => injection hx with hx; subst hx; simp [go_sem]
  | 3, _ => injection hx with hx; subst hx; simp [go_sem]
  | 4, _ => injection hx with hx; subst hx; simp [go_sem]
  | 5, _ => injection hx with hx; subst hx; simp [go_sem]
theorem Rs.app2 {v : Value} {b : Nat} (h : Rs w p q r y u d X e F Y i M (some v) (some b) W) (hi : i ≤ d.l.length) {v2 : Value} (ho : W'.ownsRow (r + 1) 115 3 v2 (i + 2) (scs (d.l.take i) ++ scs (s12 M e))) (hg : W.grownBy W' v.ownBlock) (hat : v2.ownBlock = v.ownBlock ∨ v2.ownBlock = some W.heap.size) :
    ∃ A c, v2 = .slice A (i + 2) c ∧ (W'.cell? ⟨y, 1, none⟩ = some (.slice Y.A 0 Y.c) ∧ W'.frozen? ⟨y, 1, none⟩ = false ∧ y < W'.heap.size) ∧ Rz w p q r y d X e (d.l.take i ++ s12 M e) F ⟨A, c, Y.A2, Y.c2⟩ (W'.setCell ⟨y, 1, none⟩ (.slice A (i + 2) c)) ∧ (i + 2 ≤ c ∧ c ≤ maxLen) := by
  obtain ⟨A, c, rfl⟩ := own_form ho
  have el : (d.l.take i ++ s12 M e).length = i + 2 := by simp [s12]; omega
  have h1 := h.rz.ry
  have h2 := h.yu
  have fa := h.fa v rfl
  have hl : i + 2 ≤ c ∧ c ≤ maxLen := by
    have hp : Pl W' W'.heap.size (.slice A (i + 2) c) (d.l.take i ++ s12 M e) := Pl.of_own (by rw [scs_app]; exact ho)
    have := hp.len
    omega
  have k := h.rz.newL (L' := d.l.take i ++ s12 M e) (A := A) (c := c) (by rw [el, scs_app]; exact ho) hg (fun k hk => ⟨by have := (fa.2 k hk).1; omega, by have := (fa.2 k hk).1; omega, (fa.2 k hk).2⟩) (fun k hk => by
    rw [el] at hk
    rcases hat with e | e
    · left; rw [← e]; exact hk
    · right; rw [e] at hk; injection hk with hk; omega)
  rw [el] at k
  exact ⟨A, c, rfl, k.1, k.2, hl⟩
end

/-- The new span of a merge. -/
def s1m (M N : Sp) (e : Ed) : List Sp := [⟨M.lo, N.hi, e.to⟩]
/-- The work of a merge: the first spans' copy, the new span. -/
structure Rm (w : World) (p q r y : Nat) (d : Dd) (X : Dx) (e : Ed) (F : List Int) (Y : Dx) (i : Nat) (M N : Sp) (oA : Option Value) (oB : Option Nat) (W : World) : Prop where
  rz : Rz w p q r y d X e [] F Y W
  fa : ∀ v, oA = some v → W.ownsRow (r + 1) 115 3 v i (scs (d.l.take i)) ∧ ∀ k, v.ownBlock = some k → y < k ∧ (Value.slice Y.A2 F.length Y.c2).ownBlock ≠ some k
  fb : ∀ b, oB = some b → Rd W W.heap.size 3 (some ⟨b, 0, none⟩) 1 (scs (s1m M N e))
section
variable {w W W' : World} {p q r y i b o1 o2 : Nat} {d : Dd} {X Y : Dx} {e : Ed} {F : List Int} {M N : Sp} {oA : Option Value} {oB : Option Nat}
theorem Rm.below (h : Rm w p q r y d X e F Y i M N oA oB W) (hb : Below W.heap.size W W') : Rm w p q r y d X e F Y i M N oA oB W' :=
  ⟨h.rz.below hb, fun v ev => ⟨own_up10 (h.fa v ev).1 hb, (h.fa v ev).2⟩, fun b eb => ((h.fb b eb).keep (fun p hp => hb.cell hp)).more hb.size⟩
theorem Rm.drew (h : Rm w p q r y d X e F Y i M N oA oB W) : Rm w p q r y d X e F Y i M N oA oB W.drew := h.below (Below.refl _ _).drew
theorem Rm.a1 (h : Rm w p q r y d X e F Y i M N none oB W) {v : Value} (ho : W'.ownsRow W.heap.size 115 3 v i (scs (d.l.take i))) (hb : Below W.heap.size W W') : Rm w p q r y d X e F Y i M N (some v) oB W' := by
  have k := h.below hb
  have hr := h.rz.ab.rb.lt
  have hyl := h.rz.xb.lt
  refine ⟨k.rz, fun v' ev => ?_, k.fb⟩
  injection ev with ev; subst ev
  refine ⟨own_low ho (by omega), fun j hj => ⟨?_, fun e2 => ?_⟩⟩
  · have := (ho.lt j hj).1; omega
  · have := (ho.lt j hj).1; have := (h.rz.of.lt j e2).2; omega
theorem Rm.b1 (h : Rm w p q r y d X e F Y i M N oA none W) (t : TypeId) : Rm w p q r y d X e F Y i M N oA (some W.heap.size) (W.alloc (.cells #[.int .i64 M.lo, .int .i64 N.hi, .int .i64 e.to] t)) := by
  have k := h.below ((Below.refl _ _).alloc (Nat.le_refl _) (.cells #[.int .i64 M.lo, .int .i64 N.hi, .int .i64 e.to] t))
  refine ⟨k.rz, k.fa, fun b eb => ?_⟩
  injection eb with eb; subst eb
  refine ⟨rfl, fun _ => ⟨W.heap.size, 0, rfl, by simp, fun j x hx => ?_⟩⟩
  have hj : j < 3 := by have := (List.getElem?_eq_some_iff.1 hx).1; exact this
  match j, hj with
  | 0, _ => injection hx with hx; subst hx; simp [go_sem]
  | 1, _ => injection hx with hx; subst hx; simp [go_sem]
  | 2, _ => injection hx with hx; subst hx; simp [go_sem]
theorem Rm.app2 {v : Value} {b : Nat} (h : Rm w p q r y d X e F Y i M N (some v) (some b) W) (hi : i ≤ d.l.length) {v2 : Value} (ho : W'.ownsRow (r + 1) 115 3 v2 (i + 1) (scs (d.l.take i) ++ scs (s1m M N e))) (hg : W.grownBy W' v.ownBlock) (hat : v2.ownBlock = v.ownBlock ∨ v2.ownBlock = some W.heap.size) :
    ∃ A c, v2 = .slice A (i + 1) c ∧ (W'.cell? ⟨y, 1, none⟩ = some (.slice Y.A 0 Y.c) ∧ W'.frozen? ⟨y, 1, none⟩ = false ∧ y < W'.heap.size) ∧ Rz w p q r y d X e (d.l.take i ++ s1m M N e) F ⟨A, c, Y.A2, Y.c2⟩ (W'.setCell ⟨y, 1, none⟩ (.slice A (i + 1) c)) := by
  obtain ⟨A, c, rfl⟩ := own_form ho
  have el : (d.l.take i ++ s1m M N e).length = i + 1 := by simp [s1m]; omega
  have h1 := h.rz.ry
  have fa := h.fa v rfl
  have k := h.rz.newL (L' := d.l.take i ++ s1m M N e) (A := A) (c := c) (by rw [el, scs_app]; exact ho) hg (fun k hk => ⟨by have := (fa.2 k hk).1; omega, by have := (fa.2 k hk).1; omega, (fa.2 k hk).2⟩) (fun k hk => by
    rw [el] at hk
    rcases hat with e | e
    · left; rw [← e]; exact hk
    · right; rw [e] at hk; injection hk with hk; omega)
  rw [el] at k
  exact ⟨A, c, rfl, k.1, k.2⟩
end
end Go.Proofs.Ytijpflljopckiaa
namespace Go.Proofs.Ytijpflljopckiaa
open Go.RowKit
set_option linter.unusedVariables false

/-- A source turned and a valid directory in new lists as a result. -/
def SrDir (B g : Nat) (w : World) (e : Ending) (w' : World) : Prop := ∃ (D : Dd) (X : Dx), e = .returned (dv D X) ∧ vaD D = 0 ∧ DR w' w'.heap.size D X ∧ X.nw w.heap.size ∧ SrcAt w' B g ∧ w.grownBy w' (some g)
/-- A source and a directory in a box of the call's own, its lists new. -/
structure DgAt (w : World) (B g r p : Nat) (d : Dd) (X : Dx) (W : World) : Prop where
  src : SrcAt W B g
  db : Db10 W p d X
  dr : DR W W.heap.size d X
  op : DOff d X p
  nw : X.nw (r + 1)
  ne : g < w.heap.size ∧ w.heap.size ≤ r ∧ r < p
  rb : Db10 W r zD10 zDx
  gr : w.grownBy W (some g)
section
variable {w W W' : World} {B g r p : Nat} {d : Dd} {X : Dx}
theorem DgAt.og (h : DgAt w B g r p d X W) : DOff d X g := h.nw.off (by have := h.ne; omega)
theorem DgAt.below (h : DgAt w B g r p d X W) (hb : Below W.heap.size W W') : DgAt w B g r p d X W' :=
  ⟨h.src.below hb, h.db.up hb, h.dr.up hb, h.op, h.nw, h.ne, h.rb.up hb, only_below h.gr hb⟩
theorem DgAt.turn (h : DgAt w B g r p d X W) (hs : SrcAt W' B g) (hg : W.grownBy W' (some g)) : DgAt w B g r p d X W' :=
  ⟨hs, h.db.grown hg (by have := h.ne; omega), (h.dr.grownO h.og (Nat.le_refl _) hg).more hg.size, h.op, h.nw, h.ne, h.rb.grown hg (by have := h.ne; omega), h.gr.trans hg⟩
/-- Another directory is stored. -/
theorem DgAt.put (h : DgAt w B g r p d X W) {d' : Dd} {Y : Dx} (hr : DR W W.heap.size d' Y) (o1 : DOff d' Y p) (hn : Y.nw (r + 1)) :
    DgAt w B g r p d' Y (((W.setCell ⟨p, 0, none⟩ (.int .i64 d'.vn)).setCell ⟨p, 1, none⟩ (.slice Y.A d'.l.length Y.c)).setCell ⟨p, 2, none⟩ (.slice Y.A2 d'.F.length Y.c2)) := by
  have hne := h.ne
  have hg : p ≠ g := by omega
  have hB : B ≤ p := by have := h.src.1; omega
  have hP : w.heap.size ≤ p := by omega
  exact ⟨((h.src.other (p := ⟨p, 0, none⟩) hg hB _).other (p := ⟨p, 1, none⟩) hg hB _).other (p := ⟨p, 2, none⟩) hg hB _, h.db.set d' Y, (((hr.offp (q := ⟨p, 0, none⟩) o1 _).offp (q := ⟨p, 1, none⟩) o1 _).offp (q := ⟨p, 2, none⟩) o1 _).more (by simp), o1, hn, h.ne, ((h.rb.other (a := ⟨p, 0, none⟩) (show p ≠ r by omega) _).other (a := ⟨p, 1, none⟩) (show p ≠ r by omega) _).other (a := ⟨p, 2, none⟩) (show p ≠ r by omega) _,
    only_set (only_set (only_set h.gr (p := ⟨p, 0, none⟩) (.inr hP) _) (p := ⟨p, 1, none⟩) (.inr hP) _) (p := ⟨p, 2, none⟩) (.inr hP) _⟩
theorem DgAt.other (h : DgAt w B g r p d X W) {a : Addr} (h1 : a.block ≠ p) (h2 : a.block ≠ g) (h3 : DOff d X a.block) (h4 : w.heap.size ≤ a.block) (h5 : a.block ≠ r) (v : Value) : DgAt w B g r p d X (W.setCell a v) :=
  ⟨h.src.other h2 (by have := h.src.1; have := h.ne; omega) v, h.db.other h1 v, (h.dr.offp (q := a) h3 v).more (by simp), h.op, h.nw, h.ne, h.rb.other h5 v, only_set h.gr (p := a) (.inr h4) v⟩
end
/-- .. and the box of the next directory, once it is made. -/
structure DgN (w : World) (B g r p : Nat) (d : Dd) (X : Dx) (oz : Option Nat) (W : World) : Prop where
  ds : DgAt w B g r p d X W
  zb : ∀ z, oz = some z → Db10 W z zD10 zDx ∧ z ≠ g ∧ z ≠ p ∧ w.heap.size ≤ z ∧ DOff d X z ∧ z ≠ r
section
variable {w W W' : World} {B g r p : Nat} {d : Dd} {X : Dx} {oz : Option Nat}
theorem DgN.start (h : DgAt w B g r p d X W) : DgN w B g r p d X none W := ⟨h, by simp⟩
theorem DgN.below (h : DgN w B g r p d X oz W) (hb : Below W.heap.size W W') : DgN w B g r p d X oz W' := ⟨h.ds.below hb, fun z e => ⟨(h.zb z e).1.up hb, (h.zb z e).2⟩⟩
theorem DgN.drew (h : DgN w B g r p d X oz W) : DgN w B g r p d X oz W.drew := h.below (Below.refl _ _).drew
theorem DgN.turn (h : DgN w B g r p d X oz W) (hs : SrcAt W' B g) (hg : W.grownBy W' (some g)) : DgN w B g r p d X oz W' := ⟨h.ds.turn hs hg, fun z e => ⟨(h.zb z e).1.grown hg (h.zb z e).2.1, (h.zb z e).2⟩⟩
theorem DgN.k3 (h : DgN w B g r p d X oz W) {u : World} (hb : Below (p + 1) W u) : K3 p d X u := by
  obtain ⟨⟨x0, x1, x2, xl⟩, -⟩ := h.ds.db.all
  exact ⟨(hb.cell (p := ⟨p, 0, none⟩) (Nat.lt_succ_self p)).trans x0, (hb.cell (p := ⟨p, 1, none⟩) (Nat.lt_succ_self p)).trans x1, (hb.cell (p := ⟨p, 2, none⟩) (Nat.lt_succ_self p)).trans x2⟩
end
section
variable {w W W' : World} {B g r p : Nat} {d d' : Dd} {X Y : Dx}
end
theorem DgAt.start {w W : World} {B g r : Nat} {d : Dd} {X : Dx} (hs : SrcAt W B g) (hd : DR W W.heap.size d X) (hn : X.nw (r + 1)) (hg : g < w.heap.size) (hr : w.heap.size ≤ r) (hb : Db10 W r zD10 zDx) (hgr : w.grownBy W (some g)) (t : TypeId) :
    DgAt w B g r W.heap.size d X (W.alloc (.cells #[.int .i64 d.vn, .slice X.A d.l.length X.c, .slice X.A2 d.F.length X.c2] t)) :=
  ⟨hs.alloc _, Db10.start W d X t, hd.alloc _, hd.offs (Nat.le_refl _), hn, ⟨hg, hr, hb.lt⟩, hb.alloc _, only_alloc hgr _⟩
/-- The directory as the result. -/
theorem DgAt.out {w W : World} {B g r p : Nat} {d : Dd} {X : Dx} (h : DgAt w B g r p d X W) (hv : vaD d = 0) :
    SrDir B g w (.returned (dv d X)) (((W.setCell ⟨r, 0, none⟩ (.int .i64 d.vn)).setCell ⟨r, 1, none⟩ (.slice X.A d.l.length X.c)).setCell ⟨r, 2, none⟩ (.slice X.A2 d.F.length X.c2)) := by
  have hne := h.ne
  have ho : DOff d X r := h.nw.off (Nat.lt_succ_self r)
  have hB : B ≤ r := by have := h.src.1; omega
  have hg : r ≠ g := by omega
  exact ⟨d, X, rfl, hv, (((h.dr.offp (q := ⟨r, 0, none⟩) ho _).offp (q := ⟨r, 1, none⟩) ho _).offp (q := ⟨r, 2, none⟩) ho _).more (by simp), h.nw.low (by omega),
    ((h.src.other (p := ⟨r, 0, none⟩) hg hB _).other (p := ⟨r, 1, none⟩) hg hB _).other (p := ⟨r, 2, none⟩) hg hB _,
    only_set (only_set (only_set h.gr (p := ⟨r, 0, none⟩) (.inr hne.2.1) _) (p := ⟨r, 1, none⟩) (.inr hne.2.1) _) (p := ⟨r, 2, none⟩) (.inr hne.2.1) _⟩

end Go.Proofs.Ytijpflljopckiaa
namespace Go.Proofs.Ytijpflljopckiaa
open Go.RowKit
set_option linter.unusedVariables false

/-- Block q holds these cells and may be written. -/
structure Rb (W : World) (q : Nat) (cs : List Value) : Prop where
  c : ∀ (j : Nat) (u : Value), cs[j]? = some u → W.cell? ⟨q, j, none⟩ = some u
  f : ∀ o, W.frozen? ⟨q, o, none⟩ = false
  lt : q < W.heap.size
section
variable {W W' : World} {q g : Nat} {cs : List Value}
theorem Rb.up (h : Rb W q cs) (hb : Below W.heap.size W W') : Rb W' q cs := ⟨fun j u hu => (hb.cell (p := ⟨q, j, none⟩) h.lt).trans (h.c j u hu), fun o => (hb.frozen (p := ⟨q, o, none⟩) h.lt).trans (h.f o), Nat.lt_of_lt_of_le h.lt hb.size⟩
theorem Rb.grown (h : Rb W q cs) (hg : W.grownBy W' (some g)) (hne : q ≠ g) : Rb W' q cs :=
  ⟨fun j u hu => (hg.cell_far ⟨q, j, none⟩ h.lt (fun e => by injection e with e; exact hne e)).trans (h.c j u hu), fun o => (hg.frozen_far ⟨q, o, none⟩ h.lt (fun e => by injection e with e; exact hne e)).trans (h.f o), Nat.lt_of_lt_of_le h.lt hg.size⟩
theorem Rb.other (h : Rb W q cs) {a : Addr} (hne : a.block ≠ q) (v : Value) : Rb (W.setCell a v) q cs :=
  ⟨fun j u hu => (World.cell?_setCell_other W a ⟨q, j, none⟩ v (fun e => hne (by rw [e]))).trans (h.c j u hu), fun o => by rw [World.frozen?_setCell]; exact h.f o, by simpa using h.lt⟩
theorem Rb.set (h : Rb W q cs) {j : Nat} (hj : j < cs.length) (v : Value) : Rb (W.setCell ⟨q, j, none⟩ v) q (cs.set j v) := by
  refine ⟨fun i u hu => ?_, fun o => by rw [World.frozen?_setCell]; exact h.f o, by simpa using h.lt⟩
  by_cases e : i = j
  · subst e
    rw [List.getElem?_set_self hj] at hu
    injection hu with hu
    subst hu
    exact World.cell?_setCell_same' W _ _ (by rw [h.c i _ (List.getElem?_eq_getElem hj)]; rfl)
  · rw [List.getElem?_set_ne (fun e' => e e'.symm)] at hu
    exact (World.cell?_setCell_other W _ _ _ (fun e' => by injection e' with _ e2; exact e e2.symm)).trans (h.c i u hu)
theorem Rb.of_own {base size n cap : Nat} {e : TypeId} (h : W.ownsRow base e size (.slice (some ⟨q, 0, none⟩) n cap) n cs) : Rb W q cs :=
  ⟨fun j u hu => by have := h.cells (g := q) rfl j u hu; rw [add_mk, Nat.zero_add] at this; exact this, fun o => h.frozenAt o, (h.lt q rfl).2⟩
theorem Rb.pl {l : List Sp} {c : Nat} (h : Rb W q (scs l)) (hc : l.length ≤ c) (hm : c ≤ maxLen) : Pl W W.heap.size (.slice (some ⟨q, 0, none⟩) l.length c) l :=
  ⟨_, c, rfl, hc, hm, by rw [scs_len], fun _ => ⟨q, 0, rfl, h.lt, fun j u hu => by rw [Nat.zero_add]; exact h.c j u hu⟩⟩
theorem Rb.fl {F : List Int} {c : Nat} (h : Rb W q (ics F)) (hc : F.length ≤ c) (hm : c ≤ maxLen) : Fl W W.heap.size (.slice (some ⟨q, 0, none⟩) F.length c) F :=
  ⟨_, c, rfl, hc, hm, by rw [ics_len], fun _ => ⟨q, 0, rfl, h.lt, fun j u hu => by rw [Nat.zero_add]; exact h.c j u hu⟩⟩
end
theorem own_rb {W : World} {base size n : Nat} {e : TypeId} {v : Value} {cs : List Value} (ho : W.ownsRow base e size v n cs) (h0 : 0 < n) : ∃ q cap, v = .slice (some ⟨q, 0, none⟩) n cap ∧ base ≤ q ∧ n ≤ cap ∧ cap ≤ maxLen ∧ Rb W q cs := by
  rcases ho.2 with ⟨_, h⟩ | ⟨q, cap, cur, hv, hq, _, hl, hm, _⟩
  · omega
  · subst hv
    exact ⟨q, cap, rfl, hq, hl, hm, Rb.of_own ho⟩
/-- The spans are copied. -/
structure Be10 (w : World) (g p q1 c1 : Nat) (d : Dd) (A2 : Option Addr) (c2 : Nat) (W : World) : Prop where
  src : SrcAt W w.heap.size g
  db : Db10 W p d ⟨some ⟨q1, 0, none⟩, c1, A2, c2⟩
  r1 : Rb W q1 (scs d.l)
  fl : Fl W W.heap.size (.slice A2 d.F.length c2) d.F
  bel : Below w.heap.size w W
  ord : w.heap.size ≤ g ∧ g < p ∧ p < q1
  cap : d.l.length ≤ c1 ∧ c1 ≤ maxLen
  off : ∀ a, A2 = some a → 0 < d.F.length → a.block ≠ p
/-- Both lists are copied. -/
structure Bf10 (w : World) (g p q1 c1 q2 c2 : Nat) (d : Dd) (W : World) : Prop where
  src : SrcAt W w.heap.size g
  db : Db10 W p d ⟨some ⟨q1, 0, none⟩, c1, some ⟨q2, 0, none⟩, c2⟩
  r1 : Rb W q1 (scs d.l)
  r2 : Rb W q2 (ics d.F)
  bel : Below w.heap.size w W
  ord : w.heap.size ≤ g ∧ g < p ∧ p < q1 ∧ q1 < q2
  cap : (d.l.length ≤ c1 ∧ c1 ≤ maxLen) ∧ d.F.length ≤ c2 ∧ c2 ≤ maxLen
theorem Db10.set1 {W : World} {p : Nat} {d : Dd} {X : Dx} (h : Db10 W p d X) (A : Option Addr) (c : Nat) : Db10 (W.setCell ⟨p, 1, none⟩ (.slice A d.l.length c)) p d ⟨A, c, X.A2, X.c2⟩ := by
  obtain ⟨c0, c1, c2, fr, lt⟩ := h
  exact ⟨by simp [go_sem, c0], by simp [go_sem, c1], by simp [go_sem, c2], fun o => by simp [go_sem, fr o], by simp [lt]⟩
theorem Db10.set2 {W : World} {p : Nat} {d : Dd} {X : Dx} (h : Db10 W p d X) (A : Option Addr) (c : Nat) : Db10 (W.setCell ⟨p, 2, none⟩ (.slice A d.F.length c)) p d ⟨X.A, X.c, A, c⟩ := by
  obtain ⟨c0, c1, c2, fr, lt⟩ := h
  exact ⟨by simp [go_sem, c0], by simp [go_sem, c1], by simp [go_sem, c2], fun o => by simp [go_sem, fr o], by simp [lt]⟩
section
variable {w W W' : World} {g p q1 c1 q2 c2 : Nat} {d : Dd} {X : Dx} {A2 : Option Addr}
theorem DsAt.one (k : DsAt w w.heap.size g p d X W) (hgp : g < p) {q : Nat} {c : Nat} (hb : Below W.heap.size W W') (hr : Rb W' q (scs d.l)) (hq : W.heap.size ≤ q) (hc : d.l.length ≤ c ∧ c ≤ maxLen) :
    Be10 w g p q c d X.A2 X.c2 (W'.setCell ⟨p, 1, none⟩ (.slice (some ⟨q, 0, none⟩) d.l.length c)) := by
  have k' := k.below hb
  have hn := k.ne
  have hp := k.db.lt
  exact ⟨k'.src.other (p := ⟨p, 1, none⟩) (show p ≠ g by omega) (show w.heap.size ≤ p by omega) _, k'.db.set1 _ _, hr.other (a := ⟨p, 1, none⟩) (show p ≠ q by omega) _, (k'.dr.fl.offp (p := ⟨p, 1, none⟩) k.op.o2 _).more (by simp), k'.bel.setCell (p := ⟨p, 1, none⟩) (show w.heap.size ≤ p by omega) _, ⟨by omega, hgp, by omega⟩, hc, k.op.o2⟩
theorem Be10.two (k : Be10 w g p q1 c1 d A2 c2 W) {q c : Nat} (hb : Below W.heap.size W W') (hr : Rb W' q (ics d.F)) (hq : W.heap.size ≤ q) (hc : d.F.length ≤ c ∧ c ≤ maxLen) :
    Bf10 w g p q1 c1 q c d (W'.setCell ⟨p, 2, none⟩ (.slice (some ⟨q, 0, none⟩) d.F.length c)) := by
  have hn := k.ord
  have hp := k.r1.lt
  exact ⟨(k.src.below hb).other (p := ⟨p, 2, none⟩) (show p ≠ g by omega) (show w.heap.size ≤ p by omega) _, (k.db.up hb).set2 _ _, (k.r1.up hb).other (a := ⟨p, 2, none⟩) (show p ≠ q1 by omega) _, hr.other (a := ⟨p, 2, none⟩) (show p ≠ q by omega) _, (k.bel.trans (hb.mono k.bel.size)).setCell (p := ⟨p, 2, none⟩) (show w.heap.size ≤ p by omega) _, ⟨by omega, by omega, by omega, by omega⟩, k.cap, hc⟩
theorem Bf10.below (k : Bf10 w g p q1 c1 q2 c2 d W) (hb : Below W.heap.size W W') : Bf10 w g p q1 c1 q2 c2 d W' :=
  ⟨k.src.below hb, k.db.up hb, k.r1.up hb, k.r2.up hb, k.bel.trans (hb.mono k.bel.size), k.ord, k.cap⟩
theorem Bf10.drew (k : Bf10 w g p q1 c1 q2 c2 d W) : Bf10 w g p q1 c1 q2 c2 d W.drew := k.below (Below.refl _ _).drew
theorem Bf10.turn (k : Bf10 w g p q1 c1 q2 c2 d W) (hs : SrcAt W' w.heap.size g) (hg : W.grownBy W' (some g)) : Bf10 w g p q1 c1 q2 c2 d W' :=
  ⟨hs, k.db.grown hg (by have := k.ord; omega), k.r1.grown hg (by have := k.ord; omega), k.r2.grown hg (by have := k.ord; omega), below_only k.bel hg k.ord.1 (Nat.le_refl _), k.ord, k.cap⟩
theorem Bf10.dr (k : Bf10 w g p q1 c1 q2 c2 d W) : DR W W.heap.size d ⟨some ⟨q1, 0, none⟩, c1, some ⟨q2, 0, none⟩, c2⟩ := ⟨k.r1.pl k.cap.1.1 k.cap.1.2, k.r2.fl k.cap.2.1 k.cap.2.2⟩
theorem Bf10.setL (k : Bf10 w g p q1 c1 q2 c2 d W) {o : Nat} {L : List Sp} {x : Int} (hl : L.length = d.l.length) (ho : o < d.l.length * 3) (he : (scs d.l).set o (.int .i64 x) = scs L) : Bf10 w g p q1 c1 q2 c2 ⟨d.vn, L, d.F⟩ (W.setCell ⟨q1, o, none⟩ (.int .i64 x)) := by
  have hn := k.ord
  have h2 := k.r1.set (j := o) (by rw [scs_len]; exact ho) (.int .i64 x)
  rw [he] at h2
  have h3 := k.db.other (a := ⟨q1, o, none⟩) (show q1 ≠ p by omega) (.int .i64 x)
  exact ⟨k.src.other (p := ⟨q1, o, none⟩) (show q1 ≠ g by omega) (show w.heap.size ≤ q1 by omega) _, ⟨h3.c0, by rw [show (⟨d.vn, L, d.F⟩ : Dd).l.length = d.l.length from hl]; exact h3.c1, h3.c2, h3.fr, h3.lt⟩, h2, k.r2.other (a := ⟨q1, o, none⟩) (show q1 ≠ q2 by omega) _, k.bel.setCell (p := ⟨q1, o, none⟩) (show w.heap.size ≤ q1 by omega) _, k.ord, by rw [show (⟨d.vn, L, d.F⟩ : Dd).l.length = d.l.length from hl]; exact k.cap⟩
theorem Bf10.pn (k : Bf10 w g p q1 c1 q2 c2 d W) : (q1 ≠ p ∧ q2 ≠ p) ∧ q1 < W.heap.size ∧ q2 < W.heap.size := by have h1 := k.ord; have h2 := k.r1.lt; have h3 := k.r2.lt; omega
/-- The cells of a span. -/
theorem Bf10.sp (k : Bf10 w g p q1 c1 q2 c2 d W) {j : Nat} (hj : j < d.l.length) : W.cell? ⟨q1, j * 3, none⟩ = some (.int .i64 (sg d.l j).lo) ∧ W.cell? ⟨q1, j * 3 + 1, none⟩ = some (.int .i64 (sg d.l j).hi) ∧ W.cell? ⟨q1, j * 3 + 2, none⟩ = some (.int .i64 (sg d.l j).sh) := by
  have h : ∀ i u, i < 3 → (d.l[j]).l[i]? = some u → W.cell? ⟨q1, j * 3 + i, none⟩ = some u := fun i u hi hu => k.r1.c _ u (by rw [scs_at d.l j i hj hi]; exact hu)
  rw [sg_get hj]
  exact ⟨h 0 _ (by omega) rfl, h 1 _ (by omega) rfl, h 2 _ (by omega) rfl⟩
end
end Go.Proofs.Ytijpflljopckiaa
