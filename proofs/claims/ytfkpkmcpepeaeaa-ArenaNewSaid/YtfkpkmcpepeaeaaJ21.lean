/- What is proved here: what DirectoryOwners and DirectoryHomes hold while a change is drawn and applied; (plain) the boxes and the growing lists of ref10.Apply; ref10.New by a contract; Directory of the statements' base makes a valid directory. -/
import Derived.Test.YtfkpkmcpepeaeaaJ17
import Derived.Test.YtfkpkmcpepeaeaaJ20
import Derived.Test.YtfkpkmcpepeaeaaJ18
import Derived.Test.YtfkpkmcpepeaeaaJ01
import Derived.Deep.AppendLies
import Derived.WalkSpells
import Derived.Deep.RegionHeld3
import Derived.Test.YtfkpkmcpepeaeaaJ15
import Derived.Test.YtfkpkmcpepeaeaaRows
import Derived.WalkKit
import Derived.Outline
import Derived.IntWalk
import Derived.Deep.DrawnRows
import Derived.Deep.QuietTactic
import Derived.BigQuiet
import Derived.Deep.DeepCutAuto
namespace Go.Proofs.Ytfkpkmcpepeaeaa
open Go.RowKit
set_option linter.unusedVariables false

theorem DsAt.other {w W : World} {B g p : Nat} {d : Dd} {X : Dx} (h : DsAt w B g p d X W) {a : Addr} (h1 : a.block ≠ p) (h2 : a.block ≠ g) (h3 : DOff d X a.block) (h4 : w.heap.size ≤ a.block) (v : Value) : DsAt w B g p d X (W.setCell a v) :=
  ⟨h.src.other h2 (by have := h.ne; omega) v, h.db.other h1 v, (h.dr.offp (q := a) h3 v).more (by simp), h.op, h.og, h.ne, h.bel.setCell (p := a) h4 v⟩
/-- .. and the box of the next directory, once it is made. -/
structure DnAt (w : World) (B g p : Nat) (d : Dd) (X : Dx) (oz : Option Nat) (W : World) : Prop where
  ds : DsAt w B g p d X W
  zb : ∀ z, oz = some z → Db10 W z zD10 zDx ∧ z ≠ g ∧ z ≠ p ∧ w.heap.size ≤ z ∧ DOff d X z
section
variable {w W W' : World} {B g p : Nat} {d : Dd} {X : Dx} {oz : Option Nat}
theorem DnAt.start (h : DsAt w B g p d X W) : DnAt w B g p d X none W := ⟨h, by simp⟩
theorem DnAt.below (h : DnAt w B g p d X oz W) (hb : Below W.heap.size W W') : DnAt w B g p d X oz W' := ⟨h.ds.below hb, fun z e => ⟨(h.zb z e).1.up hb, (h.zb z e).2⟩⟩
theorem DnAt.drew (h : DnAt w B g p d X oz W) : DnAt w B g p d X oz W.drew := h.below (Below.refl _ _).drew
theorem DnAt.turn (h : DnAt w B g p d X oz W) (hs : SrcAt W' B g) (hg : W.grownBy W' (some g)) : DnAt w B g p d X oz W' := ⟨h.ds.turn hs hg, fun z e => ⟨(h.zb z e).1.grown hg (h.zb z e).2.1, (h.zb z e).2⟩⟩
theorem DnAt.k3 (h : DnAt w B g p d X oz W) {u : World} (hb : Below (p + 1) W u) : K3 p d X u := by
  obtain ⟨⟨x0, x1, x2, xl⟩, -⟩ := h.ds.db.all
  exact ⟨(hb.cell (p := ⟨p, 0, none⟩) (Nat.lt_succ_self p)).trans x0, (hb.cell (p := ⟨p, 1, none⟩) (Nat.lt_succ_self p)).trans x1, (hb.cell (p := ⟨p, 2, none⟩) (Nat.lt_succ_self p)).trans x2⟩
end
section
variable {w W W' : World} {B g p : Nat} {d d' : Dd} {X Y : Dx}
end
end Go.Proofs.Ytfkpkmcpepeaeaa
namespace Go.Proofs.Ytfkpkmcpepeaeaa
open Go.RowKit
set_option linter.unusedVariables false

/-- The cells of the argument and of the change that the indices are asked with. -/
abbrev K5 (p q : Nat) (d : Dd) (X : Dx) (e : Ed) (W : World) : Prop := K3 p d X W ∧ W.cell? ⟨q, 1, none⟩ = some (.int .i64 e.fr) ∧ W.cell? ⟨q, 2, none⟩ = some (.int .i64 e.to)
theorem Ab.k5 {w W : World} {p q r : Nat} {d : Dd} {X : Dx} {e : Ed} (h : Ab w p q r d X e W) : K5 p q d X e W := ⟨h.da.k, h.eb.c1, h.eb.c2⟩
/-- The next directory while its lists grow. -/
structure Rz (w : World) (p q r y : Nat) (d : Dd) (X : Dx) (e : Ed) (L : List Sp) (F : List Int) (Y : Dx) (W : World) : Prop where
  ab : Ab w p q r d X e W
  xb : Db10 W y ⟨d.vn + 1, L, F⟩ Y
  ol : W.ownsRow (r + 1) 43 3 (.slice Y.A L.length Y.c) L.length (scs L)
  of : W.ownsRow (r + 1) 3 1 (.slice Y.A2 F.length Y.c2) F.length (ics F)
  d1 : ∀ k, (Value.slice Y.A L.length Y.c).ownBlock = some k → (Value.slice Y.A2 F.length Y.c2).ownBlock ≠ some k
  d2 : ∀ k, (Value.slice Y.A L.length Y.c).ownBlock = some k → k ≠ y
  d3 : ∀ k, (Value.slice Y.A2 F.length Y.c2).ownBlock = some k → k ≠ y
  ry : r < y
section
variable {w W W' : World} {p q r y : Nat} {d : Dd} {X Y : Dx} {e : Ed} {L : List Sp} {F : List Int} {A2 : Option Addr} {c2 : Nat}
theorem Rz.below (h : Rz w p q r y d X e L F Y W) (hb : Below W.heap.size W W') : Rz w p q r y d X e L F Y W' :=
  ⟨h.ab.below hb, h.xb.up hb, own_up10 h.ol hb, own_up10 h.of hb, h.d1, h.d2, h.d3, h.ry⟩
end

section
variable {w W W' : World} {p q r y : Nat} {d : Dd} {X Y : Dx} {e : Ed} {L L' : List Sp} {F : List Int} {A : Option Addr} {c : Nat} {ob : Option Nat}
theorem Ab.oth (h : Ab w p q r d X e W) (hy : r < y) (j : Nat) (v : Value) : Ab w p q r d X e (W.setCell ⟨y, j, none⟩ v) := by
  have hn := h.ne
  exact ⟨h.da.other (a := ⟨y, j, none⟩) (show y ≠ p by omega) (h.of y (by omega)) (show w.heap.size ≤ y by omega) v, h.eb.other (a := ⟨y, j, none⟩) (show y ≠ q by omega) v, h.rb.other (a := ⟨y, j, none⟩) (show y ≠ r by omega) v, h.ne, h.of⟩
theorem Pl.grownV {B n c : Nat} {A : Option Addr} {l : List Sp} {g : Nat} (h : Pl W B (.slice A n c) l) (ho : ∀ a, A = some a → 0 < n → a.block ≠ g) (hB : B ≤ W.heap.size) (hg : W.grownBy W' (some g)) : Pl W' B (.slice A n c) l := by
  obtain ⟨h1, h2, h3⟩ := h.len
  subst h1
  refine ⟨A, c, rfl, h2, h3, h.rd.1, fun hn => ?_⟩
  obtain ⟨b, o, e, hb, hc⟩ := h.rd.2 hn
  have := ho _ e hn
  exact ⟨b, o, e, hb, fun j u hu => (hg.cell_far ⟨b, o + j, none⟩ (by show b < _; omega) (fun e' => by injection e' with e'; exact this e')).trans (hc j u hu)⟩
theorem Fl.grownV {B n c : Nat} {A : Option Addr} {l : List Int} {g : Nat} (h : Fl W B (.slice A n c) l) (ho : ∀ a, A = some a → 0 < n → a.block ≠ g) (hB : B ≤ W.heap.size) (hg : W.grownBy W' (some g)) : Fl W' B (.slice A n c) l := by
  obtain ⟨h1, h2, h3⟩ := h.len
  subst h1
  refine ⟨A, c, rfl, h2, h3, h.rd.1, fun hn => ?_⟩
  obtain ⟨b, o, e, hb, hc⟩ := h.rd.2 hn
  have := ho _ e hn
  exact ⟨b, o, e, hb, fun j u hu => (hg.cell_far ⟨b, o + j, none⟩ (by show b < _; omega) (fun e' => by injection e' with e'; exact this e')).trans (hc j u hu)⟩
theorem Ab.grownV (h : Ab w p q r d X e W) (hg : W.grownBy W' ob) (hlt : ∀ k, ob = some k → r < k) : Ab w p q r d X e W' := by
  have hn := h.ne
  cases ob with
  | none => exact h.below ((Below.refl _ _).grown hg (Nat.le_refl _) (fun k e => by cases e))
  | some g =>
    have hrg := hlt g rfl
    have ho := h.of g (by omega)
    exact ⟨⟨h.da.db.grown hg (by omega), (⟨h.da.dr.pl.grownV ho.o1 (Nat.le_refl _) hg, h.da.dr.fl.grownV ho.o2 (Nat.le_refl _) hg⟩ : DR W' W.heap.size d X).more hg.size, h.da.off, h.da.bel.grown hg h.da.bel.size (fun k e => by injection e with e; omega), h.da.old⟩, h.eb.grown hg (by omega), h.rb.grown hg (by omega), h.ne, h.of⟩
/-- Another list of spans is stored. -/
theorem Rz.newL (h : Rz w p q r y d X e L F Y W) (ho : W'.ownsRow (r + 1) 43 3 (.slice A L'.length c) L'.length (scs L')) (hg : W.grownBy W' ob) (h1 : ∀ k, ob = some k → r < k ∧ k ≠ y ∧ (Value.slice Y.A2 F.length Y.c2).ownBlock ≠ some k) (h2 : ∀ k, (Value.slice A L'.length c).ownBlock = some k → ob = some k ∨ W.heap.size ≤ k) :
    (W'.cell? ⟨y, 1, none⟩ = some (.slice Y.A L.length Y.c) ∧ W'.frozen? ⟨y, 1, none⟩ = false ∧ y < W'.heap.size) ∧ Rz w p q r y d X e L' F ⟨A, c, Y.A2, Y.c2⟩ (W'.setCell ⟨y, 1, none⟩ (.slice A L'.length c)) := by
  have hry := h.ry
  have hx := h.xb.grownO hg (fun e => (h1 y e).2.1 rfl)
  have hyl := h.xb.lt
  have hf := own_farO h.of hg (fun k hk e => (h1 k e).2.2 hk)
  have hLy : ∀ k, (Value.slice A L'.length c).ownBlock = some k → k ≠ y := fun k hk => by
    rcases h2 k hk with e | e
    · exact (h1 k e).2.1
    · omega
  refine ⟨⟨hx.c1, hx.fr 1, hx.lt⟩, (h.ab.grownV hg (fun k e => (h1 k e).1)).oth hry 1 _, ⟨by simp [go_sem, hx.c0], by simp [go_sem, hx.c1], by simp [go_sem, hx.c2], fun o => by simp [go_sem, hx.fr o], by simp [hx.lt]⟩, own_oth ho hLy _, own_oth hf h.d3 _, fun k hk => ?_, hLy, h.d3, hry⟩
  rcases h2 k hk with e | e
  · exact (h1 k e).2.2
  · intro e2; have := (h.of.lt k e2).2; omega
/-- The spans of an append to the own row. -/
theorem Rz.app (h : Rz w p q r y d X e L F Y W) {m : List Sp} {v : Value} (ho : W'.ownsRow (r + 1) 43 3 v (L.length + m.length) (scs L ++ scs m)) (hg : W.grownBy W' (Value.slice Y.A L.length Y.c).ownBlock) (hat : v.ownBlock = (Value.slice Y.A L.length Y.c).ownBlock ∨ v.ownBlock = some W.heap.size) :
    ∃ A c, v = .slice A (L.length + m.length) c ∧ (W'.cell? ⟨y, 1, none⟩ = some (.slice Y.A L.length Y.c) ∧ W'.frozen? ⟨y, 1, none⟩ = false ∧ y < W'.heap.size) ∧ Rz w p q r y d X e (L ++ m) F ⟨A, c, Y.A2, Y.c2⟩ (W'.setCell ⟨y, 1, none⟩ (.slice A (L.length + m.length) c)) := by
  obtain ⟨A, c, rfl⟩ := own_form ho
  have el : (L ++ m).length = L.length + m.length := by simp
  have k := h.newL (L' := L ++ m) (A := A) (c := c) (by rw [el, scs_app]; exact ho) hg (fun k hk => ⟨by have := (h.ol.lt k hk).1; omega, h.d2 k hk, h.d1 k hk⟩) (fun k hk => by
    rw [el] at hk
    rcases hat with e | e
    · left; rw [← e]; exact hk
    · right; rw [e] at hk; injection hk with hk; omega)
  rw [el] at k
  exact ⟨A, c, rfl, k⟩
/-- The result. -/
theorem Rz.out (h : Rz w p q r y d X e L F Y W) (x : Int) : DE w.heap.size w ⟨d.vn + 1, L, F⟩ x (.returned (.tuple #[dv ⟨d.vn + 1, L, F⟩ Y, .int .i64 x])) (((W.setCell ⟨r, 0, none⟩ (.int .i64 (d.vn + 1))).setCell ⟨r, 1, none⟩ (.slice Y.A L.length Y.c)).setCell ⟨r, 2, none⟩ (.slice Y.A2 F.length Y.c2)) :=
  h.ab.out (D := ⟨d.vn + 1, L, F⟩) (Y := Y) (B := r + 1) ⟨nwv_of (nwv_own h.ol (Nat.le_refl _)), nwv_of (nwv_own h.of (Nat.le_refl _))⟩ (Nat.lt_succ_self r) ⟨Pl.of_own h.ol, Fl.of_own h.of⟩ x
end

/-- The two spans of a split. -/
def s12 (M : Sp) (e : Ed) : List Sp := [⟨M.lo, e.md, e.fr⟩, ⟨e.md + 1, M.hi, e.to⟩]
/-- The work of a split: the box of the span, the first spans' copy, the two new spans. -/
structure Rs (w : World) (p q r y u : Nat) (d : Dd) (X : Dx) (e : Ed) (F : List Int) (Y : Dx) (i : Nat) (M : Sp) (oA : Option Value) (oB : Option Nat) (W : World) : Prop where
  rz : Rz w p q r y d X e [] F Y W
  u0 : W.cell? ⟨u, 0, none⟩ = some (.int .i64 M.lo)
  u1 : W.cell? ⟨u, 1, none⟩ = some (.int .i64 M.hi)
  ul : u < W.heap.size
  yu : y < u
  fa : ∀ v, oA = some v → W.ownsRow (r + 1) 43 3 v i (scs (d.l.take i)) ∧ ∀ k, v.ownBlock = some k → u < k ∧ (Value.slice Y.A2 F.length Y.c2).ownBlock ≠ some k
  fb : ∀ b, oB = some b → Rd W W.heap.size 3 (some ⟨b, 0, none⟩) 2 (scs (s12 M e))
/-- The cells that a split reads. -/
abbrev K9 (p q u : Nat) (d : Dd) (X : Dx) (e : Ed) (M : Sp) (W : World) : Prop := (W.cell? ⟨p, 0, none⟩ = some (.int .i64 d.vn) ∧ W.cell? ⟨p, 1, none⟩ = some (.slice X.A d.l.length X.c) ∧ W.cell? ⟨p, 2, none⟩ = some (.slice X.A2 d.F.length X.c2)) ∧ W.cell? ⟨q, 1, none⟩ = some (.int .i64 e.fr) ∧ W.cell? ⟨q, 2, none⟩ = some (.int .i64 e.to) ∧ W.cell? ⟨q, 3, none⟩ = some (.int .i64 e.md) ∧ W.cell? ⟨u, 0, none⟩ = some (.int .i64 M.lo) ∧ W.cell? ⟨u, 1, none⟩ = some (.int .i64 M.hi)
section
variable {w W W' : World} {p q r y u i : Nat} {d : Dd} {X Y : Dx} {e : Ed} {F : List Int} {M : Sp} {oA : Option Value} {oB : Option Nat}
theorem Rs.below (h : Rs w p q r y u d X e F Y i M oA oB W) (hb : Below W.heap.size W W') : Rs w p q r y u d X e F Y i M oA oB W' :=
  ⟨h.rz.below hb, (hb.cell (p := ⟨u, 0, none⟩) h.ul).trans h.u0, (hb.cell (p := ⟨u, 1, none⟩) h.ul).trans h.u1, Nat.lt_of_lt_of_le h.ul hb.size, h.yu, fun v ev => ⟨own_up10 (h.fa v ev).1 hb, (h.fa v ev).2⟩, fun b eb => ((h.fb b eb).keep (fun p hp => hb.cell hp)).more hb.size⟩
theorem Rs.drew (h : Rs w p q r y u d X e F Y i M oA oB W) : Rs w p q r y u d X e F Y i M oA oB W.drew := h.below (Below.refl _ _).drew
theorem Rs.k9 (h : Rs w p q r y u d X e F Y i M oA oB W) (hb : Below (u + 1) W W') : K9 p q u d X e M W' := by
  have hn := h.rz.ab.ne
  have h1 := h.rz.ry
  have h2 := h.yu
  have hc : ∀ (a j : Nat), a ≤ u → W'.cell? ⟨a, j, none⟩ = W.cell? ⟨a, j, none⟩ := fun a j ha => hb.cell (p := ⟨a, j, none⟩) (show a < u + 1 by omega)
  exact ⟨⟨(hc p 0 (by omega)).trans h.rz.ab.da.db.c0, (hc p 1 (by omega)).trans h.rz.ab.da.db.c1, (hc p 2 (by omega)).trans h.rz.ab.da.db.c2⟩, (hc q 1 (by omega)).trans h.rz.ab.eb.c1, (hc q 2 (by omega)).trans h.rz.ab.eb.c2, (hc q 3 (by omega)).trans h.rz.ab.eb.c3, (hc u 0 (by omega)).trans h.u0, (hc u 1 (by omega)).trans h.u1⟩
theorem Rs.a1 (h : Rs w p q r y u d X e F Y i M none oB W) {v : Value} (ho : W'.ownsRow W.heap.size 43 3 v i (scs (d.l.take i))) (hb : Below W.heap.size W W') : Rs w p q r y u d X e F Y i M (some v) oB W' := by
  have k := h.below hb
  have hr := h.rz.ab.rb.lt
  refine ⟨k.rz, k.u0, k.u1, k.ul, k.yu, fun v' ev => ?_, k.fb⟩
  injection ev with ev; subst ev
  refine ⟨own_low ho (by omega), fun j hj => ⟨?_, fun e2 => ?_⟩⟩
  · have := (ho.lt j hj).1; have := h.ul; omega
  · have := (ho.lt j hj).1; have := (h.rz.of.lt j e2).2; omega
theorem Rs.b1 (h : Rs w p q r y u d X e F Y i M oA none W) (t : TypeId) : Rs w p q r y u d X e F Y i M oA (some W.heap.size) (W.alloc (.cells #[.int .i64 M.lo, .int .i64 e.md, .int .i64 e.fr, .int .i64 (e.md + 1), .int .i64 M.hi, .int .i64 e.to] t)) := by
  have k := h.below ((Below.refl _ _).alloc (Nat.le_refl _) (.cells #[.int .i64 M.lo, .int .i64 e.md, .int .i64 e.fr, .int .i64 (e.md + 1), .int .i64 M.hi, .int .i64 e.to] t))
  refine ⟨k.rz, k.u0, k.u1, k.ul, k.yu, k.fa, fun b eb => ?_⟩
  injection eb with eb; subst eb
  refine ⟨rfl, fun _ => ⟨W.heap.size, 0, rfl, by simp, fun j x hx => ?_⟩⟩
  have hj : j < 6 := by have := (List.getElem?_eq_some_iff.1 hx).1; exact this
  match j, hj with
  | 0, _ => injection hx with hx; subst hx; simp [go_sem]
  | 1, _ => injection hx with hx; subst hx; simp [go_sem]
  | 2, _ => injection hx with hx; subst hx; simp [go_sem]
  | 3, _ => injection hx with hx; subst hx; simp [go_sem]
  | 4, _ => injection hx with hx; subst hx; simp [go_sem]
  | 5, _ => injection hx with hx; subst hx; simp [go_sem]
end

/-- The new span of a merge. -/
def s1m (M N : Sp) (e : Ed) : List Sp := [⟨M.lo, N.hi, e.to⟩]
/-- The work of a merge: the first spans' copy, the new span. -/
structure Rm (w : World) (p q r y : Nat) (d : Dd) (X : Dx) (e : Ed) (F : List Int) (Y : Dx) (i : Nat) (M N : Sp) (oA : Option Value) (oB : Option Nat) (W : World) : Prop where
  rz : Rz w p q r y d X e [] F Y W
  fa : ∀ v, oA = some v → W.ownsRow (r + 1) 43 3 v i (scs (d.l.take i)) ∧ ∀ k, v.ownBlock = some k → y < k ∧ (Value.slice Y.A2 F.length Y.c2).ownBlock ≠ some k
  fb : ∀ b, oB = some b → Rd W W.heap.size 3 (some ⟨b, 0, none⟩) 1 (scs (s1m M N e))
section
variable {w W W' : World} {p q r y i b o1 o2 : Nat} {d : Dd} {X Y : Dx} {e : Ed} {F : List Int} {M N : Sp} {oA : Option Value} {oB : Option Nat}
theorem Rm.below (h : Rm w p q r y d X e F Y i M N oA oB W) (hb : Below W.heap.size W W') : Rm w p q r y d X e F Y i M N oA oB W' :=
  ⟨h.rz.below hb, fun v ev => ⟨own_up10 (h.fa v ev).1 hb, (h.fa v ev).2⟩, fun b eb => ((h.fb b eb).keep (fun p hp => hb.cell hp)).more hb.size⟩
theorem Rm.drew (h : Rm w p q r y d X e F Y i M N oA oB W) : Rm w p q r y d X e F Y i M N oA oB W.drew := h.below (Below.refl _ _).drew
theorem Rm.a1 (h : Rm w p q r y d X e F Y i M N none oB W) {v : Value} (ho : W'.ownsRow W.heap.size 43 3 v i (scs (d.l.take i))) (hb : Below W.heap.size W W') : Rm w p q r y d X e F Y i M N (some v) oB W' := by
  have k := h.below hb
  have hr := h.rz.ab.rb.lt
  have hyl := h.rz.xb.lt
  refine ⟨k.rz, fun v' ev => ?_, k.fb⟩
  injection ev with ev; subst ev
  refine ⟨own_low ho (by omega), fun j hj => ⟨?_, fun e2 => ?_⟩⟩
  · have := (ho.lt j hj).1; omega
  · have := (ho.lt j hj).1; have := (h.rz.of.lt j e2).2; omega
theorem Rm.b1 (h : Rm w p q r y d X e F Y i M N oA none W) (t : TypeId) : Rm w p q r y d X e F Y i M N oA (some W.heap.size) (W.alloc (.cells #[.int .i64 M.lo, .int .i64 N.hi, .int .i64 e.to] t)) := by
  have k := h.below ((Below.refl _ _).alloc (Nat.le_refl _) (.cells #[.int .i64 M.lo, .int .i64 N.hi, .int .i64 e.to] t))
  refine ⟨k.rz, k.fa, fun b eb => ?_⟩
  injection eb with eb; subst eb
  refine ⟨rfl, fun _ => ⟨W.heap.size, 0, rfl, by simp, fun j x hx => ?_⟩⟩
  have hj : j < 3 := by have := (List.getElem?_eq_some_iff.1 hx).1; exact this
  match j, hj with
  | 0, _ => injection hx with hx; subst hx; simp [go_sem]
  | 1, _ => injection hx with hx; subst hx; simp [go_sem]
  | 2, _ => injection hx with hx; subst hx; simp [go_sem]
end
end Go.Proofs.Ytfkpkmcpepeaeaa
namespace Go.Proofs.Ytfkpkmcpepeaeaa
open Go.RowKit
set_option linter.unusedVariables false

section
variable {w W W' : World} {r y : Nat} {d : Dd} {X : Dx}
/-- A number is appended. -/
theorem NA.appF (h : NA w r y d X W) {v : Int} {g cap : Nat} (ho : W'.ownsRow (r + 1) 3 1 (.slice (some ⟨g, 0, none⟩) (d.F.length + 1) cap) (d.F.length + 1) (ics d.F ++ [.int .i64 v])) (hg : W.grownBy W' (Value.slice X.A2 d.F.length X.c2).ownBlock) (hat : (Value.slice X.A2 d.F.length X.c2).ownBlock = some g ∨ g = W.heap.size) :
    (W'.cell? ⟨y, 2, none⟩ = some (.slice X.A2 d.F.length X.c2) ∧ W'.frozen? ⟨y, 2, none⟩ = false ∧ y < W'.heap.size) ∧ NA w r y ⟨d.vn, d.l, d.F ++ [v]⟩ ⟨X.A, X.c, some ⟨g, 0, none⟩, cap⟩ (W'.setCell ⟨y, 2, none⟩ (.slice (some ⟨g, 0, none⟩) (d.F.length + 1) cap)) := by
  have hn := h.ne
  have hrl := h.rb.lt
  have hor : (Value.slice X.A2 d.F.length X.c2).ownBlock ≠ some r := fun e => by have := (h.of.lt r e).1; omega
  have hoy : (Value.slice X.A2 d.F.length X.c2).ownBlock ≠ some y := fun e => h.d3 y e rfl
  have hx := h.xb.grownO hg hoy
  have hr := h.rb.grownO hg hor
  have hf := own_farO h.ol hg fun k hk e => h.d1 k hk e
  have hgy : g ≠ y := by
    rcases hat with e | e
    · exact h.d3 g e
    · have := h.xb.lt; omega
  have hb : Below w.heap.size w W' := h.bel.grown hg h.bel.size fun k hk => by have := (h.of.lt k hk).1; omega
  refine ⟨⟨hx.c2, hx.fr 2, hx.lt⟩, hr.other (a := ⟨y, 2, none⟩) (by show y ≠ r; omega) _, ⟨?_, ?_, ?_, fun o => ?_, ?_⟩, own_oth hf (fun k hk => h.d2 k hk) _, ?_, fun k hk e => ?_, h.d2, fun k hk => ?_, h.ne, hb.setCell (p := ⟨y, 2, none⟩) (show w.heap.size ≤ y by omega) _⟩
  · simpa [go_sem] using hx.c0
  · simpa [go_sem] using hx.c1
  · simp [go_sem, hx.c2]
  · simpa [go_sem] using hx.fr o
  · simpa using hx.lt
  · have k := own_oth ho (a := ⟨y, 2, none⟩) (fun k hk => by simp [Value.ownBlock] at hk; subst hk; exact hgy) (.slice (some ⟨g, 0, none⟩) (d.F.length + 1) cap)
    have e1 : ics (d.F ++ [v]) = ics d.F ++ [.int .i64 v] := by simp [ics, i64v]
    show World.ownsRow _ _ _ _ (.slice (some ⟨g, 0, none⟩) (d.F ++ [v]).length cap) (d.F ++ [v]).length (ics (d.F ++ [v]))
    rw [e1, List.length_append, List.length_singleton]
    exact k
  · simp [Value.ownBlock] at e
    subst e
    rcases hat with e2 | e2
    · exact h.d1 _ hk e2
    · have := (h.ol.lt _ hk).2; omega
  · simp [Value.ownBlock] at hk
    subst hk
    exact hgy
end

set_option maxHeartbeats 4000000 in
set_option maxRecDepth 20000 in
theorem rnew10_any (s l : Int) (w : World) : Calls Try.prog 8 #[.int .i64 s, .int .i64 l] w (DE w.heap.size w (nwD s l) (nwE10 s l)) := by
  obtain ⟨r, hr⟩ : ∃ r, r = w.heap.size := ⟨_, rfl⟩
  by_cases h : 1 ≤ s ∧ s ≤ 6 ∧ 1 ≤ l ∧ l ≤ s
  · obtain ⟨n, hn⟩ : ∃ n : Nat, s = n := ⟨s.toNat, by omega⟩
    obtain ⟨m, hm⟩ : ∃ m : Nat, l = m := ⟨l.toNat, by omega⟩
    subst hn
    subst hm
    have e1 : nwE10 n m = 0 := by unfold nwE10; rw [if_pos h]
    have e2 : nwD n m = ⟨1, nwL m m, List.replicate n (-1)⟩ := by unfold nwD; rw [e1]; simp
    have HM := Lib.hid (show (1 ≤ n ∧ n ≤ 6) ∧ (1 ≤ m ∧ m ≤ n) by omega)
    rw [e1, e2]
    have qc1 : ¬ (m : Int) < 1 := by omega
    have qc2 : ¬ (n : Int) < (m : Int) := by omega
    have qc3 : ¬ (6 : Int) < (n : Int) := by omega
    clear e1 e2 h
    obtain ⟨i0, hi0, hz0⟩ := Option.map_eq_some_iff.1 info_sp
    simp only [Prod.mk.injEq] at hz0
    have HI := Lib.hid hi0
    have HZ := Lib.hid hz0
    clear hi0 hz0
    obtain ⟨j0, hi0, hz0⟩ := Option.map_eq_some_iff.1 info_ni
    simp only [Prod.mk.injEq] at hz0
    have HJ := Lib.hid hi0
    have HY := Lib.hid hz0
    clear hi0 hz0
    have HR0 := Lib.hid hr
    obtain ⟨y, hy⟩ : ∃ y, y = w.heap.size + 1 := ⟨_, rfl⟩
    have HN := Lib.hid (show NA w r y ⟨1, [], []⟩ ⟨none, 0, none, 0⟩ ((w.alloc (.cells #[.int .i64 0, .slice none 0 0, .slice none 0 0] 25)).alloc (.cells #[.int .i64 1, .slice none 0 0, .slice none 0 0] 25)) from by
      have k := NA.start (w := w) (W := w.alloc (.cells #[.int .i64 0, .slice none 0 0, .slice none 0 0] 25)) (F := []) (A2 := none) (c2 := 0) hr ((Below.refl _ _).alloc (Nat.le_refl _) _) (by rw [hr]; exact Db10.zero w _) (World.ownsRow_nil _ _ _ _) 25
      have hs : (w.alloc (.cells #[.int .i64 0, .slice none 0 0, .slice none 0 0] 25)).heap.size = y := by rw [hy]; simp
      rw [hs] at k
      exact k)
    go_enter Try.func8, Try.ntmps8
    go_wp2_with fail
    rw [← hy, ← hr]
    generalize (w.alloc (.cells #[.int .i64 0, .slice none 0 0, .slice none 0 0] 25)).alloc (.cells #[.int .i64 1, .slice none 0 0, .slice none 0 0] 25) = w4 at *
    clear hr hy
    go_loopw [7] (fun iv wr => ∃ (k : Nat) (A : Option Addr) (c : Nat), iv = .int .i64 k ∧ k ≤ m ∧ Hid (NA w r y ⟨1, nwL m k, []⟩ ⟨A, c, none, 0⟩ wr)) (fun iv _ => m - (intOf iv).toNat)
    case atStart => exact ⟨0, none, 0, rfl, Nat.zero_le _, HN⟩
    case round =>
      obtain ⟨k, A, c, rfl, hkm, HA⟩ := hrel
      by_cases hk : k < m
      · obtain ⟨L, hL⟩ : ∃ L, L = nwL m k := ⟨_, rfl⟩
        rw [← hL] at HA
        have HL := Lib.hid (show L.length = k ∧ nwL m (k + 1) = L ++ [⟨(k : Int) * 65536 / m, ((k : Int) + 1) * 65536 / m - 1, k⟩] from ⟨by rw [hL, nwL_len], by rw [hL]; exact nwL_succ m k⟩)
        clear hL
        have hk' : (k : Int) < (m : Int) := by omega
        clear hkm hk
        have h56 : k ≤ 5 ∧ m ≤ 6 := by have := HM.out; omega
        have HL6 := Lib.hid h56
        have hw1 : IntKind.i64.wrap ((k : Int) * 65536) = (k : Int) * 65536 := IntWalk.i64_in _ (by omega)
        have hw2 : IntKind.i64.wrap ((k : Int) + 1) = (k : Int) + 1 := IntWalk.i64_in _ (by omega)
        have hw3 : IntKind.i64.wrap (((k : Int) + 1) * 65536) = ((k : Int) + 1) * 65536 := IntWalk.i64_in _ (by omega)
        obtain ⟨a, ha⟩ : ∃ a, a = ((k : Int) * 65536) / (m : Int) := ⟨_, rfl⟩
        obtain ⟨b, hb⟩ : ∃ b, b = (((k : Int) + 1) * 65536) / (m : Int) := ⟨_, rfl⟩
        have ht1 : ((k : Int) * 65536).tdiv (m : Int) = a := by rw [ha]; exact Int.tdiv_eq_ediv_of_nonneg (by omega)
        have ht2 : (((k : Int) + 1) * 65536).tdiv (m : Int) = b := by rw [hb]; exact Int.tdiv_eq_ediv_of_nonneg (by omega)
        have hra : 0 ≤ a ∧ a ≤ 400000 := by
          rw [ha]
          exact ⟨Int.ediv_nonneg (by omega) (by omega), Int.le_trans (Int.ediv_le_self _ (by omega)) (by omega)⟩
        have hrb : 0 ≤ b ∧ b ≤ 400000 := by
          rw [hb]
          exact ⟨Int.ediv_nonneg (by omega) (by omega), Int.le_trans (Int.ediv_le_self _ (by omega)) (by omega)⟩
        have hw4 : IntKind.i64.wrap a = a := IntWalk.i64_in _ (by omega)
        have hw5 : IntKind.i64.wrap b = b := IntWalk.i64_in _ (by omega)
        have hw6 : IntKind.i64.wrap (b - 1) = b - 1 := IntWalk.i64_in _ (by omega)
        rw [← ha, ← hb] at HL
        have hm0 : ¬ (m : Int) = 0 := by omega
        have hm1 : ((m : Int) == 0) = false := by simpa using hm0
        have hm2 : ¬ m = 0 := by omega
        have hm3 : ((m == 0) : Bool) = false := by simpa using hm2
        clear ha hb h56
        obtain ⟨⟨x0, x1, x2, xl⟩, f0, f1, f2⟩ := HA.out.xb.all
        dsimp only at x0 x1 x2
        clear x0 x2 f0 f2
        go_wp2
        go_region_law (refine step_append_lies _ (by rfl) _ _ _ (by rfl) (r + 1) 43 i0 _ 3 24 Try.underlying22 HI.out HZ.out.1 HZ.out.2.1 HZ.out.2.2 rfl (by omega) (.slice A L.length c) L.length (scs L) (by rfl) (HA.out.drew.alloc _).ol ⟨wr.heap.size, 0, none⟩ 1 1 (Sp.mk a (b - 1) k).l (by rfl) (by rfl) (World.news_of_block (cs := (Sp.mk a (b - 1) k).l.toArray) (t := 43) (fr := (0, 0)) (heap_alloc_new wr.drew _)) (Sp.l_one _) (by omega) (by have := HL.out; have := HL6.out; unfold maxLen; omega) (by have := HL.out; have := HL6.out; omega) (Nat.succ_le_of_lt (HA.out.drew.alloc _).rb.lt) _ rfl ?_; intro g1 cp1 w8 hown1 hgrow1 hat1 hlt1; have HP8 := Lib.hid ((HA.out.drew.alloc _).app (S := Sp.mk a (b - 1) k) hown1 hgrow1 hat1); obtain ⟨z1, f1, xl⟩ := HP8.out.1; clear hown1 hgrow1 hat1 hlt1)
        all_goals
          go_wp2
          exact ⟨⟨k + 1, _, _, by rw [Int.natCast_add]; rfl, by omega, Lib.hid (by rw [HL.out.2]; exact HP8.out.2)⟩, by simp [intOf]; omega⟩
      · have hke : k = m := by omega
        subst hke
        have hkk : ¬ (k : Int) < (k : Int) := by omega
        obtain ⟨L, hL⟩ : ∃ L, L = nwL k k := ⟨_, rfl⟩
        have HA0 := Lib.hid (show NA w r y ⟨1, L, []⟩ ⟨A, c, none, 0⟩ wr by rw [hL]; exact HA.out)
        have HL := Lib.hid hL
        clear hkm hk HA hL
        go_wp2
        generalize wr = w5 at *
        go_loopw [8] (fun iv wr => ∃ (j : Nat) (A2 : Option Addr) (c2 : Nat), iv = .int .i64 j ∧ j ≤ n ∧ Hid (NA w r y ⟨1, L, List.replicate j (-1)⟩ ⟨A, c, A2, c2⟩ wr)) (fun iv _ => n - (intOf iv).toNat)
        case atStart => exact ⟨0, none, 0, rfl, Nat.zero_le _, HA0⟩
        case round =>
          obtain ⟨j, A2, c2, rfl, hjn, HB⟩ := hrel
          by_cases hj : j < n
          · obtain ⟨F, hF⟩ : ∃ F, F = List.replicate j (-1 : Int) := ⟨_, rfl⟩
            rw [← hF] at HB
            have HF := Lib.hid (show F.length = j ∧ List.replicate (j + 1) (-1 : Int) = F ++ [-1] from ⟨by rw [hF]; simp, by rw [hF]; exact List.replicate_succ'⟩)
            clear hF
            have HL6 := Lib.hid (show j ≤ 5 by have := HM.out; omega)
            have hj' : (j : Int) < (n : Int) := by omega
            have hw2 : IntKind.i64.wrap ((j : Int) + 1) = (j : Int) + 1 := IntWalk.i64_in _ (by omega)
            clear hjn hj
            obtain ⟨⟨x0, x1, x2, xl⟩, f0, f1, f2⟩ := HB.out.xb.all
            dsimp only at x0 x1 x2
            clear x0 x1 f0 f1
            go_wp2_with (at_builtin; refine wpList_append_lies _ rfl _ _ _ rfl (r + 1) 3 j0 _ 1 8 Try.underlying23 HJ.out HY.out.1 HY.out.2.1 HY.out.2.2 rfl (by omega) (.slice A2 F.length c2) F.length (ics F) (by rfl) (HB.out.alloc _).of ⟨wr.heap.size, 0, none⟩ 1 1 [.int .i64 (-1)] (by rfl) (by rfl) (World.news_of_block (cs := #[.int .i64 (-1)]) (t := 3) (fr := (0, 0)) (heap_alloc_new wr _)) (fun u hu => by simp at hu; subst hu; rfl) (by omega) (by have := HF.out; have := HL6.out; unfold maxLen; omega) (by have := HF.out; have := HL6.out; omega) (Nat.succ_le_of_lt (HB.out.alloc _).rb.lt) _ rfl ?_; intro g1 cp1 w8 hown1 hgrow1 hat1 hlt1; have HP8 := Lib.hid ((HB.out.alloc _).appF (v := -1) hown1 hgrow1 hat1); obtain ⟨z1, f2, xl⟩ := HP8.out.1; clear hown1 hgrow1 hat1 hlt1)
            exact ⟨⟨j + 1, _, _, by rw [Int.natCast_add]; rfl, by omega, Lib.hid (by rw [HF.out.2]; exact HP8.out.2)⟩, by simp [intOf]; omega⟩
          · have hje : j = n := by omega
            subst hje
            have hjj : ¬ (j : Int) < (j : Int) := by omega
            obtain ⟨F, hF⟩ : ∃ F, F = List.replicate j (-1 : Int) := ⟨_, rfl⟩
            rw [← hF] at HB
            have HO := Lib.hid (show DE w.heap.size w ⟨1, nwL k k, List.replicate j (-1)⟩ 0 (.returned (.tuple #[dv ⟨1, L, F⟩ ⟨A, c, A2, c2⟩, .int .i64 0])) _ from by rw [← hF, ← HL.out]; exact HB.out.out)
            obtain ⟨⟨x0, x1, x2, xl⟩, f0, f1, f2⟩ := HB.out.xb.all
            obtain ⟨⟨r0, r1, r2, rl⟩, g0, g1, g2⟩ := HB.out.rb.all
            have hry : ¬ r = y ∧ ¬ y = r := by have := HB.out.ne; omega
            obtain ⟨hry1, hry2⟩ := hry
            dsimp only at x0 x1 x2
            clear hjn hj hF
            go_wp2
            exact bodyPost_ret (v := .tuple #[dv ⟨1, L, F⟩ ⟨A, c, A2, c2⟩, .int .i64 0]) (by simp only [results, Try.results8]; go_simp <;> rfl) rfl HO.out
  · have HEE := Lib.hid (show nwE10 s l = 1 ∧ nwD s l = zD10 from by
      have e1 : nwE10 s l = 1 := by unfold nwE10; rw [if_neg h]
      exact ⟨e1, by unfold nwD; rw [e1]; rfl⟩)
    obtain ⟨E1, hE1⟩ : ∃ E1, E1 = nwE10 s l := ⟨_, rfl⟩
    obtain ⟨D1, hD1⟩ : ∃ D1, D1 = nwD s l := ⟨_, rfl⟩
    rw [← hE1, ← hD1] at HEE
    rw [← hE1, ← hD1]
    clear hE1 hD1
    have HO1 := Lib.hid (new_out0 (w := w) (W := w.alloc (.cells #[.int .i64 0, .slice none 0 0, .slice none 0 0] 25)) rfl ((Below.refl _ _).alloc (Nat.le_refl _) _) 1)
    have hq : l < 1 ∨ (1 ≤ l ∧ s < l) ∨ (1 ≤ l ∧ l ≤ s ∧ 6 < s) := by omega
    clear h hr
    rcases hq with q1 | ⟨q1, q2⟩ | ⟨q1, q2, q3⟩
    all_goals
      go_enter Try.func8, Try.ntmps8
      go_wp2
      exact bodyPost_ret (v := .tuple #[.agg #[.int .i64 0, .slice none 0 0, .slice none 0 0], .int .i64 1]) (by simp only [results, Try.results8]; go_simp <;> rfl) rfl (by rw [HEE.out.1, HEE.out.2]; simpa [go_sem] using HO1.out)
end Go.Proofs.Ytfkpkmcpepeaeaa
namespace Go.Proofs.Ytfkpkmcpepeaeaa
open Go.RowKit
set_option linter.unusedVariables false

/-- A source turned and a valid directory in new lists as a result. -/
def SrDir (B g : Nat) (w : World) (e : Ending) (w' : World) : Prop := ∃ (D : Dd) (X : Dx), e = .returned (dv D X) ∧ vaD D = 0 ∧ DR w' w'.heap.size D X ∧ X.nw w.heap.size ∧ SrcAt w' B g ∧ w.grownBy w' (some g)
/-- A source and a directory in a box of the call's own, its lists new. -/
structure DgAt (w : World) (B g r p : Nat) (d : Dd) (X : Dx) (W : World) : Prop where
  src : SrcAt W B g
  db : Db10 W p d X
  dr : DR W W.heap.size d X
  op : DOff d X p
  nw : X.nw (r + 1)
  ne : g < w.heap.size ∧ w.heap.size ≤ r ∧ r < p
  rb : Db10 W r zD10 zDx
  gr : w.grownBy W (some g)
section
variable {w W W' : World} {B g r p : Nat} {d : Dd} {X : Dx}
theorem DgAt.og (h : DgAt w B g r p d X W) : DOff d X g := h.nw.off (by have := h.ne; omega)
theorem DgAt.below (h : DgAt w B g r p d X W) (hb : Below W.heap.size W W') : DgAt w B g r p d X W' :=
  ⟨h.src.below hb, h.db.up hb, h.dr.up hb, h.op, h.nw, h.ne, h.rb.up hb, only_below h.gr hb⟩
theorem DgAt.turn (h : DgAt w B g r p d X W) (hs : SrcAt W' B g) (hg : W.grownBy W' (some g)) : DgAt w B g r p d X W' :=
  ⟨hs, h.db.grown hg (by have := h.ne; omega), (h.dr.grownO h.og (Nat.le_refl _) hg).more hg.size, h.op, h.nw, h.ne, h.rb.grown hg (by have := h.ne; omega), h.gr.trans hg⟩
/-- Another directory is stored. -/
theorem DgAt.put (h : DgAt w B g r p d X W) {d' : Dd} {Y : Dx} (hr : DR W W.heap.size d' Y) (o1 : DOff d' Y p) (hn : Y.nw (r + 1)) :
    DgAt w B g r p d' Y (((W.setCell ⟨p, 0, none⟩ (.int .i64 d'.vn)).setCell ⟨p, 1, none⟩ (.slice Y.A d'.l.length Y.c)).setCell ⟨p, 2, none⟩ (.slice Y.A2 d'.F.length Y.c2)) := by
  have hne := h.ne
  have hg : p ≠ g := by omega
  have hB : B ≤ p := by have := h.src.1; omega
  have hP : w.heap.size ≤ p := by omega
  exact ⟨((h.src.other (p := ⟨p, 0, none⟩) hg hB _).other (p := ⟨p, 1, none⟩) hg hB _).other (p := ⟨p, 2, none⟩) hg hB _, h.db.set d' Y, (((hr.offp (q := ⟨p, 0, none⟩) o1 _).offp (q := ⟨p, 1, none⟩) o1 _).offp (q := ⟨p, 2, none⟩) o1 _).more (by simp), o1, hn, h.ne, ((h.rb.other (a := ⟨p, 0, none⟩) (show p ≠ r by omega) _).other (a := ⟨p, 1, none⟩) (show p ≠ r by omega) _).other (a := ⟨p, 2, none⟩) (show p ≠ r by omega) _,
    only_set (only_set (only_set h.gr (p := ⟨p, 0, none⟩) (.inr hP) _) (p := ⟨p, 1, none⟩) (.inr hP) _) (p := ⟨p, 2, none⟩) (.inr hP) _⟩
theorem DgAt.other (h : DgAt w B g r p d X W) {a : Addr} (h1 : a.block ≠ p) (h2 : a.block ≠ g) (h3 : DOff d X a.block) (h4 : w.heap.size ≤ a.block) (h5 : a.block ≠ r) (v : Value) : DgAt w B g r p d X (W.setCell a v) :=
  ⟨h.src.other h2 (by have := h.src.1; have := h.ne; omega) v, h.db.other h1 v, (h.dr.offp (q := a) h3 v).more (by simp), h.op, h.nw, h.ne, h.rb.other h5 v, only_set h.gr (p := a) (.inr h4) v⟩
end
/-- .. and the box of the next directory, once it is made. -/
structure DgN (w : World) (B g r p : Nat) (d : Dd) (X : Dx) (oz : Option Nat) (W : World) : Prop where
  ds : DgAt w B g r p d X W
  zb : ∀ z, oz = some z → Db10 W z zD10 zDx ∧ z ≠ g ∧ z ≠ p ∧ w.heap.size ≤ z ∧ DOff d X z ∧ z ≠ r
section
variable {w W W' : World} {B g r p : Nat} {d : Dd} {X : Dx} {oz : Option Nat}
theorem DgN.start (h : DgAt w B g r p d X W) : DgN w B g r p d X none W := ⟨h, by simp⟩
theorem DgN.below (h : DgN w B g r p d X oz W) (hb : Below W.heap.size W W') : DgN w B g r p d X oz W' := ⟨h.ds.below hb, fun z e => ⟨(h.zb z e).1.up hb, (h.zb z e).2⟩⟩
theorem DgN.drew (h : DgN w B g r p d X oz W) : DgN w B g r p d X oz W.drew := h.below (Below.refl _ _).drew
theorem DgN.turn (h : DgN w B g r p d X oz W) (hs : SrcAt W' B g) (hg : W.grownBy W' (some g)) : DgN w B g r p d X oz W' := ⟨h.ds.turn hs hg, fun z e => ⟨(h.zb z e).1.grown hg (h.zb z e).2.1, (h.zb z e).2⟩⟩
theorem DgN.k3 (h : DgN w B g r p d X oz W) {u : World} (hb : Below (p + 1) W u) : K3 p d X u := by
  obtain ⟨⟨x0, x1, x2, xl⟩, -⟩ := h.ds.db.all
  exact ⟨(hb.cell (p := ⟨p, 0, none⟩) (Nat.lt_succ_self p)).trans x0, (hb.cell (p := ⟨p, 1, none⟩) (Nat.lt_succ_self p)).trans x1, (hb.cell (p := ⟨p, 2, none⟩) (Nat.lt_succ_self p)).trans x2⟩
end
section
variable {w W W' : World} {B g r p : Nat} {d d' : Dd} {X Y : Dx}
end
theorem DgAt.start {w W : World} {B g r : Nat} {d : Dd} {X : Dx} (hs : SrcAt W B g) (hd : DR W W.heap.size d X) (hn : X.nw (r + 1)) (hg : g < w.heap.size) (hr : w.heap.size ≤ r) (hb : Db10 W r zD10 zDx) (hgr : w.grownBy W (some g)) (t : TypeId) :
    DgAt w B g r W.heap.size d X (W.alloc (.cells #[.int .i64 d.vn, .slice X.A d.l.length X.c, .slice X.A2 d.F.length X.c2] t)) :=
  ⟨hs.alloc _, Db10.start W d X t, hd.alloc _, hd.offs (Nat.le_refl _), hn, ⟨hg, hr, hb.lt⟩, hb.alloc _, only_alloc hgr _⟩
/-- The directory as the result. -/
theorem DgAt.out {w W : World} {B g r p : Nat} {d : Dd} {X : Dx} (h : DgAt w B g r p d X W) (hv : vaD d = 0) :
    SrDir B g w (.returned (dv d X)) (((W.setCell ⟨r, 0, none⟩ (.int .i64 d.vn)).setCell ⟨r, 1, none⟩ (.slice X.A d.l.length X.c)).setCell ⟨r, 2, none⟩ (.slice X.A2 d.F.length X.c2)) := by
  have hne := h.ne
  have ho : DOff d X r := h.nw.off (Nat.lt_succ_self r)
  have hB : B ≤ r := by have := h.src.1; omega
  have hg : r ≠ g := by omega
  exact ⟨d, X, rfl, hv, (((h.dr.offp (q := ⟨r, 0, none⟩) ho _).offp (q := ⟨r, 1, none⟩) ho _).offp (q := ⟨r, 2, none⟩) ho _).more (by simp), h.nw.low (by omega),
    ((h.src.other (p := ⟨r, 0, none⟩) hg hB _).other (p := ⟨r, 1, none⟩) hg hB _).other (p := ⟨r, 2, none⟩) hg hB _,
    only_set (only_set (only_set h.gr (p := ⟨r, 0, none⟩) (.inr hne.2.1) _) (p := ⟨r, 1, none⟩) (.inr hne.2.1) _) (p := ⟨r, 2, none⟩) (.inr hne.2.1) _⟩

end Go.Proofs.Ytfkpkmcpepeaeaa
