/- What is proved here: slices.Grow, slices.Concat of messages by contracts; dead.Put by one contract; ref07.Same of two shards of one content is true; ref12.Same says yes to equal arenas; arena.rangeError, deadCell, lockError, ownerOf by contracts. -/
import Derived.Test.YtijpflljopckiaaJ03
import Derived.Test.YtijpflljopckiaaJ02
import Derived.Test.YtijpflljopckiaaRows
import Derived.WalkKit
import Derived.Outline
import Derived.IntWalk
import Derived.Deep.AppendLies
import Derived.WalkSpells
import Derived.Lib.AppendZerosOnto
import Derived.Shelf.Spec.SlicesGrow
import Derived.Deep.RegionHeld3
import Derived.Test.YtijpflljopckiaaJ29
import Derived.Test.YtijpflljopckiaaJ06
import Derived.Laws.StructEq
import Derived.KernelRfl
import Derived.Deep.QuietTactic
import Derived.BigQuiet
import Derived.Test.YtijpflljopckiaaJ08
import Derived.Test.YtijpflljopckiaaJ10
import Derived.Test.YtijpflljopckiaaJ09
import Derived.Below
import Derived.Test.YtijpflljopckiaaJ11
import Derived.Test.YtijpflljopckiaaJ12
import Derived.Test.YtijpflljopckiaaJ30
import Derived.Test.YtijpflljopckiaaJ24
import Derived.Deep.DeepCutAuto
import Derived.Laws.LoneSync
namespace Go.Proofs.Ytijpflljopckiaa
open Go.RowKit
set_option linter.unusedVariables false

/-- Two slices in an array of the call's own. -/
structure Mc2 (W : World) (g : Nat) (v0 v1 : Value) (l0 l1 : List Msg) : Prop where
  c0 : W.cell? ⟨g, 0, none⟩ = some v0
  c1 : W.cell? ⟨g, 1, none⟩ = some v1
  lt : g < W.heap.size
  e0 : Ls W W.heap.size v0 l0
  e1 : Ls W W.heap.size v1 l1
theorem Mc2.start {w : World} {v0 v1 : Value} {l0 l1 : List Msg} (t : TypeId) (h0 : Ls w w.heap.size v0 l0) (h1 : Ls w w.heap.size v1 l1) : Mc2 (w.alloc (.cells #[v0, v1] t)) w.heap.size v0 v1 l0 l1 := by
  have hb := (Below.refl w.heap.size w).alloc (Nat.le_refl _) (.cells #[v0, v1] t)
  refine ⟨?_, ?_, by simp, (h0.below hb).more hb.size, (h1.below hb).more hb.size⟩
  · rw [World.cell?_alloc_new]; rfl
  · rw [World.cell?_alloc_new]; rfl
end Go.Proofs.Ytijpflljopckiaa
namespace Go.Proofs.Ytijpflljopckiaa
open Go.RowKit
set_option linter.unusedVariables false

/-- The boxes of a store and of a result. -/
structure Tw8 (w : World) (p r : Nat) (cap : Int) (A : Option Addr) (c : Nat) (l : List Msg) (W : World) : Prop where
  db : Db8 W p cap A l.length c
  rs : Db8 W r 0 none 0 0
  ls : Ls W w.heap.size (.slice A l.length c) l
  bel : Below w.heap.size w W
  old : w.heap.size ≤ p ∧ p < r
section
variable {w W W' : World} {p r c : Nat} {cap : Int} {A : Option Addr} {l : List Msg}
theorem Tw8.below (h : Tw8 w p r cap A c l W) (hb : Below W.heap.size W W') : Tw8 w p r cap A c l W' :=
  ⟨h.db.up hb, h.rs.up hb, h.ls.below (hb.mono h.bel.size), h.bel.trans (hb.mono h.bel.size), h.old⟩
theorem Tw8.alloc (h : Tw8 w p r cap A c l W) (o : Obj) : Tw8 w p r cap A c l (W.alloc o) := h.below ((Below.refl _ _).alloc (Nat.le_refl _) o)
theorem Tw8.drew (h : Tw8 w p r cap A c l W) : Tw8 w p r cap A c l W.drew := ⟨h.db.drew, h.rs.drew, h.ls.drew, h.bel.drew, h.old⟩
theorem Tw8.here (h : Tw8 w p r cap A c l W) : Ls W W.heap.size (.slice A l.length c) l := h.ls.more h.bel.size
theorem Tw8.start (t u : TypeId) (cap : Int) (hv : Ls w w.heap.size (.slice A l.length c) l) : Tw8 w w.heap.size (w.heap.size + 1) cap A c l ((w.alloc (.cells #[.int .i64 cap, .slice A l.length c] t)).alloc (.cells #[.int .i64 0, .slice none 0 0] u)) := by
  have h2 := Db8.fresh (w.alloc (.cells #[.int .i64 cap, .slice A l.length c] t)) 0 none 0 0 u
  have e : (w.alloc (.cells #[.int .i64 cap, .slice A l.length c] t)).heap.size = w.heap.size + 1 := by simp
  rw [e] at h2
  exact ⟨(Db8.fresh w cap A l.length c t).alloc _, h2, (hv.alloc (Nat.le_refl _) _).alloc (by simp) _, ((Below.refl _ _).alloc (Nat.le_refl _) _).alloc (by simp) _, Nat.le_refl _, by omega⟩
/-- A result is stored: the zero store. -/
theorem Tw8.zero (h : Tw8 w p r cap A c l W) : Below w.heap.size w ((W.setCell ⟨r, 0, none⟩ (.int .i64 0)).setCell ⟨r, 1, none⟩ (.slice none 0 0)) :=
  (h.bel.setCell (p := ⟨r, 0, none⟩) (show w.heap.size ≤ r by have := h.old; omega) _).setCell (p := ⟨r, 1, none⟩) (show w.heap.size ≤ r by have := h.old; omega) _
theorem Tw8.out (h : Tw8 w p r cap A c l W) (e : Int) : D8 w 0 [] e (.returned (.tuple #[.agg #[.int .i64 0, .slice none 0 0], .int .i64 e])) ((W.setCell ⟨r, 0, none⟩ (.int .i64 0)).setCell ⟨r, 1, none⟩ (.slice none 0 0)) :=
  ⟨none, 0, rfl, nw_none, Ls.nil, h.zero⟩
end
/-- Put's state behind the joining of the lists. -/
structure Pu8 (w : World) (p r : Nat) (cap : Int) (A : Option Addr) (c : Nat) (l : List Msg) (W : World) : Prop where
  db : Db8 W p cap A l.length c
  rs : Db8 W r 0 none 0 0
  ls : Ls W W.heap.size (.slice A l.length c) l
  nw : Nw (r + 1) A
  bel : Below w.heap.size w W
  old : w.heap.size ≤ p ∧ p < r
section
variable {w W W' : World} {p r c : Nat} {cap : Int} {A : Option Addr} {l : List Msg}
theorem Pu8.below (h : Pu8 w p r cap A c l W) (hb : Below W.heap.size W W') : Pu8 w p r cap A c l W' :=
  ⟨h.db.up hb, h.rs.up hb, (h.ls.below hb).more hb.size, h.nw, h.bel.trans (hb.mono h.bel.size), h.old⟩
theorem Pu8.zero (h : Pu8 w p r cap A c l W) : Below w.heap.size w ((W.setCell ⟨r, 0, none⟩ (.int .i64 0)).setCell ⟨r, 1, none⟩ (.slice none 0 0)) :=
  (h.bel.setCell (p := ⟨r, 0, none⟩) (show w.heap.size ≤ r by have := h.old; omega) _).setCell (p := ⟨r, 1, none⟩) (show w.heap.size ≤ r by have := h.old; omega) _
theorem Pu8.out (h : Pu8 w p r cap A c l W) : D8 w cap l 0 (.returned (.tuple #[.agg #[.int .i64 cap, .slice A l.length c], .int .i64 0])) ((W.setCell ⟨r, 0, none⟩ (.int .i64 cap)).setCell ⟨r, 1, none⟩ (.slice A l.length c)) := by
  have ho : Ob r l.length A := ob_nw h.nw (Nat.lt_succ_self r)
  refine ⟨A, c, rfl, nw_low h.nw (by have := h.old; omega), ?_, (h.bel.setCell (p := ⟨r, 0, none⟩) (show w.heap.size ≤ r by have := h.old; omega) _).setCell (p := ⟨r, 1, none⟩) (show w.heap.size ≤ r by have := h.old; omega) _⟩
  have := (h.ls.offo (p := ⟨r, 0, none⟩) ho (.int .i64 cap)).offo (p := ⟨r, 1, none⟩) ho (.slice A l.length c)
  simpa using this
end
end Go.Proofs.Ytijpflljopckiaa
namespace Go.Proofs.Ytijpflljopckiaa
open Go.RowKit
set_option linter.unusedVariables false

/-- Two boxes of shards, read only. -/
structure TwAt7 (w : World) (p q : Nat) (S : Sh) (D E : Sx) (W : World) : Prop where
  a : SAt w p S D W
  b : SAt w q S E W
theorem TwAt7.below {w W W' : World} {p q : Nat} {S : Sh} {D E : Sx} (h : TwAt7 w p q S D E W) (hb : Below W.heap.size W W') : TwAt7 w p q S D E W' := ⟨h.a.below hb, h.b.below hb⟩
theorem SAt.from7 {w w1 : World} {p : Nat} {S : Sh} {D : Sx} {W : World} (h : SAt w1 p S D W) (hw : Below w.heap.size w w1) : SAt w p S D W := ⟨h.s8, h.sr, h.off, hw.trans (h.bel.mono hw.size), Nat.le_trans hw.size h.old⟩
theorem TwAt7.start (w : World) (S : Sh) (D E : Sx) (hs : SR w w.heap.size S D) (ht : SR w w.heap.size S E) : TwAt7 w w.heap.size (w.heap.size + 1) S D E ((w.alloc (.cells #[.bool S.lv, .int .i64 S.lo, .int .i64 S.hi, .slice D.A S.cs.length D.c, .int .i64 S.hd, .int .i64 S.sz, .slice D.A2 S.l.length D.c2, .slice D.A3 S.h.length D.c3] 85)).alloc (.cells #[.bool S.lv, .int .i64 S.lo, .int .i64 S.hi, .slice E.A S.cs.length E.c, .int .i64 S.hd, .int .i64 S.sz, .slice E.A2 S.l.length E.c2, .slice E.A3 S.h.length E.c3] 85)) := by
  have hb := (Below.refl w.heap.size w).alloc (Nat.le_refl _) (.cells #[.bool S.lv, .int .i64 S.lo, .int .i64 S.hi, .slice D.A S.cs.length D.c, .int .i64 S.hd, .int .i64 S.sz, .slice D.A2 S.l.length D.c2, .slice D.A3 S.h.length D.c3] 85)
  have h1 := SAt.from7 (SAt.start 85 (ht.up hb)) hb
  rw [show (w.alloc (.cells #[.bool S.lv, .int .i64 S.lo, .int .i64 S.hi, .slice D.A S.cs.length D.c, .int .i64 S.hd, .int .i64 S.sz, .slice D.A2 S.l.length D.c2, .slice D.A3 S.h.length D.c3] 85)).heap.size = w.heap.size + 1 by simp] at h1
  exact ⟨(SAt.start 85 hs).alloc _, h1⟩
end Go.Proofs.Ytijpflljopckiaa
namespace Go.Proofs.Ytijpflljopckiaa
open Go.RowKit
set_option linter.unusedVariables false

/-- The slot at place k. -/
def og (l : List So) (k : Nat) : So := l.getD k ⟨0, zS⟩
theorem og_get {l : List So} {k : Nat} (h : k < l.length) : og l k = l[k] := by simp [og, List.getD, h]
theorem AR.at2 {W : World} {B : Nat} {a : Ar} {Y : Ax} {k : Nat} (h : AR W B a Y) (hk : k < a.sl.length) : ∃ (D : Sx) (b o : Nat), Y.A = some ⟨b, o, none⟩ ∧ b < B ∧ Q9 W b (o + k * 9) ⟨(og a.sl k).ow, (og a.sl k).sh, D⟩ ∧ SR W B (og a.sl k).sh D ∧ Y.q[k]? = some ⟨(og a.sl k).ow, (og a.sl k).sh, D⟩ := by
  obtain ⟨s, b, o, hq, hs, hA, hb, h9, hr⟩ := h.atg hk
  rw [og_get hk]
  obtain ⟨e1, e2⟩ := sl_so hs
  cases s with
  | mk x y z =>
    simp only at e1 e2
    subst e1 e2
    exact ⟨z, b, o, hA, hb, h9, hr, hq⟩
/-- Two equal arenas in boxes. -/
structure Ts12 (w : World) (p q : Nat) (a : Ar) (Y Z : Ax) (W : World) : Prop where
  pb : QB W p a Y
  qb : QB W q a Z
  pr : AR W W.heap.size a Y
  qr : AR W W.heap.size a Z
  bel : Below w.heap.size w W
section
variable {w W W' : World} {p q : Nat} {a : Ar} {Y Z : Ax}
theorem Ts12.below (h : Ts12 w p q a Y Z W) (hb : Below W.heap.size W W') : Ts12 w p q a Y Z W' := ⟨h.pb.up hb, h.qb.up hb, h.pr.up hb, h.qr.up hb, h.bel.trans (hb.mono h.bel.size)⟩
theorem Ts12.drew (h : Ts12 w p q a Y Z W) : Ts12 w p q a Y Z W.drew := h.below (Below.refl _ _).drew
theorem Ts12.start (w : World) (a : Ar) (Y Z : Ax) (hy : AR w w.heap.size a Y) (hz : AR w w.heap.size a Z) : Ts12 w w.heap.size (w.heap.size + 1) a Y Z ((w.alloc (.cells (acl a Y) 36)).alloc (.cells (acl a Z) 36)) := by
  have h1 := QB.start (w.alloc (.cells (acl a Y) 36)) a Z 36
  rw [show (w.alloc (.cells (acl a Y) 36)).heap.size = w.heap.size + 1 by simp] at h1
  exact ⟨(QB.start w a Y _).alloc _, h1, (hy.alloc _).alloc _, (hz.alloc _).alloc _, ((Below.refl _ _).alloc (Nat.le_refl _) _).alloc (by simp) _⟩
end
theorem q9_up {W W' : World} {b o : Nat} {s : Sl} (h : Q9 W b o s) (hl : b < W.heap.size) (hb : Below W.heap.size W W') : Q9 W' b o s := by
  have g : ∀ k, W'.cell? ⟨b, k, none⟩ = W.cell? ⟨b, k, none⟩ := fun k => hb.cell (p := ⟨b, k, none⟩) hl
  obtain ⟨k0, k1, k2, k3, k4, k5, k6, k7, k8⟩ := h
  exact ⟨(g _).trans k0, (g _).trans k1, (g _).trans k2, (g _).trans k3, (g _).trans k4, (g _).trans k5, (g _).trans k6, (g _).trans k7, (g _).trans k8⟩
/-- .. and a slot of each. -/
structure Tv12 (w : World) (p q : Nat) (a : Ar) (Y Z : Ax) (x y b o b' o' : Nat) (s s' : Sl) (W : World) : Prop where
  ts : Ts12 w p q a Y Z W
  ea : Y.A = some ⟨b, o, none⟩
  ez : Z.A = some ⟨b', o', none⟩
  ys : Q9 W b x s
  zs : Q9 W b' y s'
  bl : b < W.heap.size
  bl' : b' < W.heap.size
  sr : SR W W.heap.size s.sh s.sx
  sr' : SR W W.heap.size s'.sh s'.sx
abbrev C20 (p q : Nat) (n c n' c' x y b o b' o' : Nat) (s s' : Sl) (W : World) : Prop := (W.cell? ⟨p, 0, none⟩ = some (.slice (some ⟨b, o, none⟩) n c) ∧ W.cell? ⟨q, 0, none⟩ = some (.slice (some ⟨b', o', none⟩) n' c')) ∧ Q9 W b x s ∧ Q9 W b' y s'
section
variable {w W W' : World} {p q x y b o b' o' : Nat} {a : Ar} {Y Z : Ax} {s s' : Sl}
theorem Tv12.below (h : Tv12 w p q a Y Z x y b o b' o' s s' W) (hb : Below W.heap.size W W') : Tv12 w p q a Y Z x y b o b' o' s s' W' :=
  ⟨h.ts.below hb, h.ea, h.ez, q9_up h.ys h.bl hb, q9_up h.zs h.bl' hb, Nat.lt_of_lt_of_le h.bl hb.size, Nat.lt_of_lt_of_le h.bl' hb.size, h.sr.up hb, h.sr'.up hb⟩
theorem Tv12.drew (h : Tv12 w p q a Y Z x y b o b' o' s s' W) : Tv12 w p q a Y Z x y b o b' o' s s' W.drew := h.below (Below.refl _ _).drew
theorem Tv12.c (h : Tv12 w p q a Y Z x y b o b' o' s s' W) : C20 p q a.sl.length Y.c a.sl.length Z.c x y b o b' o' s s' W :=
  ⟨⟨by rw [← h.ea]; exact h.ts.pb.k.1, by rw [← h.ez]; exact h.ts.qb.k.1⟩, h.ys, h.zs⟩
end
end Go.Proofs.Ytijpflljopckiaa
namespace Go.Proofs.Ytijpflljopckiaa
open Go.RowKit
set_option linter.unusedVariables false

/-- The owner of a cell, the place where it lies, an arena with another owner of it. -/
def Ar.own (a : Ar) (k : Nat) : Int := if k = a.sl.length then a.ow else (og a.sl k).ow
def ownP (p b n k : Nat) : Addr := if k = n then ⟨p, 2, none⟩ else ⟨b, k * 9, none⟩
def Ar.setOwn (a : Ar) (k : Nat) (v : Int) : Ar := if k = a.sl.length then ⟨a.sl, a.st, v, a.cap, a.dl, a.dir, a.ep, a.ck, a.ni⟩ else ⟨a.sl.set k ⟨v, (og a.sl k).sh⟩, a.st, a.ow, a.cap, a.dl, a.dir, a.ep, a.ck, a.ni⟩
end Go.Proofs.Ytijpflljopckiaa
