/- What is proved here: in the statements of layer 10, awake is true; directory.merge by a contract; directory.Apply by a contract; what DirectoryOwners and DirectoryHomes hold while a change is drawn and applied. -/
import Derived.Test.YtommkhjgockpfaaJ19
import Derived.Test.YtommkhjgockpfaaJ17
import Derived.Test.YtommkhjgockpfaaJ18
namespace Go.Proofs.Ytommkhjgockpfaa
open Go.RowKit
set_option linter.unusedVariables false

/-- A directory in a box, with its lists. -/
structure DD (w : World) (p : Nat) (d : Dd) (X : Dx) (W : World) : Prop where
  db : Db10 W p d X
  dr : DR W W.heap.size d X
  old : w.heap.size ≤ p
  bel : Below w.heap.size w W
theorem DD.up {w W W' : World} {p : Nat} {d : Dd} {X : Dx} (h : DD w p d X W) (hb : Below W.heap.size W W') : DD w p d X W' := ⟨h.db.up hb, h.dr.up hb, h.old, h.bel.trans (hb.mono h.bel.size)⟩
theorem DD.start {w W : World} {d : Dd} {X : Dx} (hr : DR W W.heap.size d X) (hb : Below w.heap.size w W) (t : TypeId) : DD w W.heap.size d X (W.alloc (.cells #[.int .i64 d.vn, .slice X.A d.l.length X.c, .slice X.A2 d.F.length X.c2] t)) :=
  ⟨Db10.start W d X t, hr.alloc _, hb.size, hb.alloc hb.size _⟩

end Go.Proofs.Ytommkhjgockpfaa
namespace Go.Proofs.Ytommkhjgockpfaa
open Go.RowKit
set_option linter.unusedVariables false

abbrev MgS (p q g f u : Nat) (d : Dd) (X : Dx) (e : Ed) (W : World) : Prop := W.cell? ⟨p, 1, none⟩ = some (.slice (some ⟨g, 0, none⟩) d.l.length X.c) ∧ W.cell? ⟨q, 2, none⟩ = some (.int .i64 e.to) ∧ W.cell? ⟨g, f * 3, none⟩ = some (.int .i64 (sg d.l f).lo) ∧ W.cell? ⟨g, u * 3 + 1, none⟩ = some (.int .i64 (sg d.l u).hi)
theorem MgS.set {p q g f u : Nat} {d : Dd} {X : Dx} {e : Ed} {W : World} (h : MgS p q g f u d X e W) (hu : u = f + 1) (hp : p ≠ g) (hq : q ≠ g) (u' v : Value) : MgS p q g f u d X e (((W.setCell ⟨g, f * 3, none⟩ (.int .i64 (sg d.l f).lo)).setCell ⟨g, f * 3 + 1, none⟩ u').setCell ⟨g, f * 3 + 2, none⟩ v) := by
  obtain ⟨h1, h2, h3, h4⟩ := h
  have o : ∀ (a b : Addr) (u : Value) (W : World), a ≠ b → (W.setCell b u).cell? a = W.cell? a := fun a b u W hn => World.cell?_setCell_other W b a u (fun e => hn (by first | exact e | exact e.symm))
  have n1 : ∀ j, (⟨p, 1, none⟩ : Addr) ≠ ⟨g, j, none⟩ := fun j e => hp (by injection e)
  have n2 : ∀ j, (⟨q, 2, none⟩ : Addr) ≠ ⟨g, j, none⟩ := fun j e => hq (by injection e)
  have n3 : ∀ i j, i ≠ j → (⟨g, i, none⟩ : Addr) ≠ ⟨g, j, none⟩ := fun i j hn e => hn (by injection e)
  refine ⟨by rw [o _ _ _ _ (n1 _), o _ _ _ _ (n1 _), o _ _ _ _ (n1 _)]; exact h1, by rw [o _ _ _ _ (n2 _), o _ _ _ _ (n2 _), o _ _ _ _ (n2 _)]; exact h2, ?_, by rw [o _ _ _ _ (n3 _ _ (by omega)), o _ _ _ _ (n3 _ _ (by omega)), o _ _ _ _ (n3 _ _ (by omega))]; exact h4⟩
  rw [o _ _ _ _ (n3 _ _ (by omega)), o _ _ _ _ (n3 _ _ (by omega))]
  simp [go_sem, h3]
end Go.Proofs.Ytommkhjgockpfaa
namespace Go.Proofs.Ytommkhjgockpfaa
open Go.RowKit
set_option linter.unusedVariables false

/-- The boxes of Apply: a directory, a change, a result. -/
structure Ab (w : World) (p q r : Nat) (d : Dd) (X : Dx) (e : Ed) (W : World) : Prop where
  da : DAt w p d X W
  eb : EB W q e
  rb : Db10 W r zD10 zDx
  ne : w.heap.size ≤ p ∧ p < q ∧ q < r
  of : ∀ z, w.heap.size ≤ z → DOff d X z
section
variable {w W W' : World} {p q r : Nat} {d : Dd} {X : Dx} {e : Ed}
theorem Ab.below (h : Ab w p q r d X e W) (hb : Below W.heap.size W W') : Ab w p q r d X e W' := ⟨h.da.below hb, h.eb.up hb, h.rb.up hb, h.ne, h.of⟩
/-- A result that a call gave, stored into the result box. -/
theorem Ab.out (h : Ab w p q r d X e W) {B : Nat} {D : Dd} {Y : Dx} (hn : Y.nw B) (hB : r < B) (hr : DR W W.heap.size D Y) (x : Int) : DE w.heap.size w D x (.returned (.tuple #[dv D Y, .int .i64 x])) (((W.setCell ⟨r, 0, none⟩ (.int .i64 D.vn)).setCell ⟨r, 1, none⟩ (.slice Y.A D.l.length Y.c)).setCell ⟨r, 2, none⟩ (.slice Y.A2 D.F.length Y.c2)) := by
  have hp := h.ne
  have hb := h.da.bel
  have f : ∀ o, DOff D Y (⟨r, o, none⟩ : Addr).block := fun o => hn.off hB
  exact ⟨Y, rfl, hn.low (by omega), (((hr.offp (q := ⟨r, 0, none⟩) (f 0) _).offp (q := ⟨r, 1, none⟩) (f 1) _).offp (q := ⟨r, 2, none⟩) (f 2) _).more (by simp), ((hb.setCell (p := ⟨r, 0, none⟩) (show w.heap.size ≤ r by omega) _).setCell (p := ⟨r, 1, none⟩) (show w.heap.size ≤ r by omega) _).setCell (p := ⟨r, 2, none⟩) (show w.heap.size ≤ r by omega) _⟩
end
/-- .. with what the copies have given, and the box of the next directory. -/
structure Nx (w : World) (p q r : Nat) (d : Dd) (X : Dx) (e : Ed) (oL oF : Option Value) (oX : Option Nat) (W : World) : Prop where
  ab : Ab w p q r d X e W
  fl : ∀ v, oL = some v → W.ownsRow (r + 1) 94 3 v d.l.length (scs d.l)
  ff : ∀ v, oF = some v → W.ownsRow (r + 1) 3 1 v d.F.length (ics d.F)
  fx : ∀ x, oX = some x → Db10 W x zD10 zDx ∧ r < x
  d1 : ∀ u v, oL = some u → oF = some v → ∀ k, u.ownBlock = some k → v.ownBlock ≠ some k
  d2 : ∀ u x, oL = some u → oX = some x → ∀ k, u.ownBlock = some k → k ≠ x
  d3 : ∀ u x, oF = some u → oX = some x → ∀ k, u.ownBlock = some k → k ≠ x
section
variable {w W W' : World} {p q r : Nat} {d : Dd} {X : Dx} {e : Ed} {a b : Option Value} {c : Option Nat}
theorem Nx.below (h : Nx w p q r d X e a b c W) (hb : Below W.heap.size W W') : Nx w p q r d X e a b c W' :=
  ⟨h.ab.below hb, fun v ev => own_up10 (h.fl v ev) hb, fun v ev => own_up10 (h.ff v ev) hb, fun x ex => ⟨(h.fx x ex).1.up hb, (h.fx x ex).2⟩, h.d1, h.d2, h.d3⟩
theorem Nx.drew (h : Nx w p q r d X e a b c W) : Nx w p q r d X e a b c W.drew := h.below (Below.refl _ _).drew
theorem Nx.start (h : Ab w p q r d X e W) : Nx w p q r d X e none none none W := ⟨h, by simp, by simp, by simp, by simp, by simp, by simp⟩
theorem Nx.cl (h : Nx w p q r d X e none b c W) {v : Value} (ho : W'.ownsRow W.heap.size 94 3 v d.l.length (scs d.l)) (hb : Below W.heap.size W W') : Nx w p q r d X e (some v) b c W' := by
  have k := h.below hb
  refine ⟨k.ab, fun u eu => ?_, k.ff, k.fx, fun u x eu ex j hj => ?_, fun u x eu ex j hj => ?_, k.d3⟩
  · injection eu with eu; subst eu
    exact own_low ho h.ab.rb.lt
  · injection eu with eu; subst eu
    intro e2
    have h1 := ((h.ff x ex).lt j e2).2
    have h2 := (ho.lt j hj).1
    omega
  · injection eu with eu; subst eu
    have h1 := (h.fx x ex).1.lt
    have h2 := (ho.lt j hj).1
    omega
end
section
variable {w W W' : World} {p q r : Nat} {d : Dd} {X : Dx} {e : Ed} {A A2 : Option Addr} {c c2 : Nat}
end
theorem Ab.k3 {w W W' : World} {p q r : Nat} {d : Dd} {X : Dx} {e : Ed} (h : Ab w p q r d X e W) (hb : Below (p + 1) W W') : K3 p d X W' :=
  ⟨(hb.cell (p := ⟨p, 0, none⟩) (Nat.lt_succ_self p)).trans h.da.db.c0, (hb.cell (p := ⟨p, 1, none⟩) (Nat.lt_succ_self p)).trans h.da.db.c1, (hb.cell (p := ⟨p, 2, none⟩) (Nat.lt_succ_self p)).trans h.da.db.c2⟩
end Go.Proofs.Ytommkhjgockpfaa
namespace Go.Proofs.Ytommkhjgockpfaa
open Go.RowKit
set_option linter.unusedVariables false

theorem DsAt.other {w W : World} {B g p : Nat} {d : Dd} {X : Dx} (h : DsAt w B g p d X W) {a : Addr} (h1 : a.block ≠ p) (h2 : a.block ≠ g) (h3 : DOff d X a.block) (h4 : w.heap.size ≤ a.block) (v : Value) : DsAt w B g p d X (W.setCell a v) :=
  ⟨h.src.other h2 (by have := h.ne; omega) v, h.db.other h1 v, (h.dr.offp (q := a) h3 v).more (by simp), h.op, h.og, h.ne, h.bel.setCell (p := a) h4 v⟩
/-- .. and the box of the next directory, once it is made. -/
structure DnAt (w : World) (B g p : Nat) (d : Dd) (X : Dx) (oz : Option Nat) (W : World) : Prop where
  ds : DsAt w B g p d X W
  zb : ∀ z, oz = some z → Db10 W z zD10 zDx ∧ z ≠ g ∧ z ≠ p ∧ w.heap.size ≤ z ∧ DOff d X z
section
variable {w W W' : World} {B g p : Nat} {d : Dd} {X : Dx} {oz : Option Nat}
theorem DnAt.start (h : DsAt w B g p d X W) : DnAt w B g p d X none W := ⟨h, by simp⟩
theorem DnAt.below (h : DnAt w B g p d X oz W) (hb : Below W.heap.size W W') : DnAt w B g p d X oz W' := ⟨h.ds.below hb, fun z e => ⟨(h.zb z e).1.up hb, (h.zb z e).2⟩⟩
theorem DnAt.drew (h : DnAt w B g p d X oz W) : DnAt w B g p d X oz W.drew := h.below (Below.refl _ _).drew
theorem DnAt.turn (h : DnAt w B g p d X oz W) (hs : SrcAt W' B g) (hg : W.grownBy W' (some g)) : DnAt w B g p d X oz W' := ⟨h.ds.turn hs hg, fun z e => ⟨(h.zb z e).1.grown hg (h.zb z e).2.1, (h.zb z e).2⟩⟩
theorem DnAt.k3 (h : DnAt w B g p d X oz W) {u : World} (hb : Below (p + 1) W u) : K3 p d X u := by
  obtain ⟨⟨x0, x1, x2, xl⟩, -⟩ := h.ds.db.all
  exact ⟨(hb.cell (p := ⟨p, 0, none⟩) (Nat.lt_succ_self p)).trans x0, (hb.cell (p := ⟨p, 1, none⟩) (Nat.lt_succ_self p)).trans x1, (hb.cell (p := ⟨p, 2, none⟩) (Nat.lt_succ_self p)).trans x2⟩
end
section
variable {w W W' : World} {B g p : Nat} {d d' : Dd} {X Y : Dx}
end
end Go.Proofs.Ytommkhjgockpfaa
