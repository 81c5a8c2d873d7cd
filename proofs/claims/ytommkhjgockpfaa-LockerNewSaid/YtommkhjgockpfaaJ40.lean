/- What is proved here: '==' and '!=' of two stripes; slices.Equal, stripe.Same, ref11.Same by contracts; slices.Grow, slices.Concat of messages by contracts; dead.Put by one contract; '==' and '!=' of a lease and itself. -/
import Derived.Test.YtommkhjgockpfaaJ14
import Derived.Test.YtommkhjgockpfaaRows
import Derived.Test.YtommkhjgockpfaaJ02
import Derived.WalkKit
import Derived.Outline
import Derived.IntWalk
import Derived.Test.YtommkhjgockpfaaJ31
import Derived.Laws.StructEq
import Derived.KernelRfl
import Derived.Deep.QuietTactic
import Derived.BigQuiet
import Derived.Test.YtommkhjgockpfaaJ03
import Derived.Deep.AppendLies
import Derived.WalkSpells
import Derived.Lib.AppendZerosOnto
import Derived.Shelf.Spec.SlicesGrow
import Derived.Deep.RegionHeld3
import Derived.Test.YtommkhjgockpfaaJ38
import Derived.Test.YtommkhjgockpfaaJ09
namespace Go.Proofs.Ytommkhjgockpfaa
open Go.RowKit
set_option linter.unusedVariables false

/-- Two lists, read only. -/
structure TwT (w : World) (A B : Option Addr) (n m : Nat) (c d : Nat) (x y : List St) (W : World) : Prop where
  a : Tl W W.heap.size (.slice A n c) x
  b : Tl W W.heap.size (.slice B m d) y
  bel : Below w.heap.size w W
theorem TwT.up {w W W' : World} {A B : Option Addr} {n m c d : Nat} {x y : List St} (h : TwT w A B n m c d x y W) (hb : Below W.heap.size W W') : TwT w A B n m c d x y W' := ⟨h.a.up hb, h.b.up hb, h.bel.trans (hb.mono h.bel.size)⟩
theorem TwT.drewN {w W : World} {A B : Option Addr} {n m c d : Nat} {x y : List St} (h : TwT w A B n m c d x y W) (k : Nat) : TwT w A B n m c d x y (W.drewN k) := h.up (bel_drewN (Below.refl _ _) k)

end Go.Proofs.Ytommkhjgockpfaa
namespace Go.Proofs.Ytommkhjgockpfaa
open Go.RowKit
set_option linter.unusedVariables false

/-- Two slices in an array of the call's own. -/
structure Mc2 (W : World) (g : Nat) (v0 v1 : Value) (l0 l1 : List Msg) : Prop where
  c0 : W.cell? ⟨g, 0, none⟩ = some v0
  c1 : W.cell? ⟨g, 1, none⟩ = some v1
  lt : g < W.heap.size
  e0 : Ls W W.heap.size v0 l0
  e1 : Ls W W.heap.size v1 l1
theorem Mc2.start {w : World} {v0 v1 : Value} {l0 l1 : List Msg} (t : TypeId) (h0 : Ls w w.heap.size v0 l0) (h1 : Ls w w.heap.size v1 l1) : Mc2 (w.alloc (.cells #[v0, v1] t)) w.heap.size v0 v1 l0 l1 := by
  have hb := (Below.refl w.heap.size w).alloc (Nat.le_refl _) (.cells #[v0, v1] t)
  refine ⟨?_, ?_, by simp, (h0.below hb).more hb.size, (h1.below hb).more hb.size⟩
  · rw [World.cell?_alloc_new]; rfl
  · rw [World.cell?_alloc_new]; rfl
end Go.Proofs.Ytommkhjgockpfaa
namespace Go.Proofs.Ytommkhjgockpfaa
open Go.RowKit
set_option linter.unusedVariables false

/-- The boxes of a store and of a result. -/
structure Tw8 (w : World) (p r : Nat) (cap : Int) (A : Option Addr) (c : Nat) (l : List Msg) (W : World) : Prop where
  db : Db8 W p cap A l.length c
  rs : Db8 W r 0 none 0 0
  ls : Ls W w.heap.size (.slice A l.length c) l
  bel : Below w.heap.size w W
  old : w.heap.size ≤ p ∧ p < r
section
variable {w W W' : World} {p r c : Nat} {cap : Int} {A : Option Addr} {l : List Msg}
theorem Tw8.below (h : Tw8 w p r cap A c l W) (hb : Below W.heap.size W W') : Tw8 w p r cap A c l W' :=
  ⟨h.db.up hb, h.rs.up hb, h.ls.below (hb.mono h.bel.size), h.bel.trans (hb.mono h.bel.size), h.old⟩
theorem Tw8.alloc (h : Tw8 w p r cap A c l W) (o : Obj) : Tw8 w p r cap A c l (W.alloc o) := h.below ((Below.refl _ _).alloc (Nat.le_refl _) o)
theorem Tw8.drew (h : Tw8 w p r cap A c l W) : Tw8 w p r cap A c l W.drew := ⟨h.db.drew, h.rs.drew, h.ls.drew, h.bel.drew, h.old⟩
theorem Tw8.here (h : Tw8 w p r cap A c l W) : Ls W W.heap.size (.slice A l.length c) l := h.ls.more h.bel.size
theorem Tw8.start (t u : TypeId) (cap : Int) (hv : Ls w w.heap.size (.slice A l.length c) l) : Tw8 w w.heap.size (w.heap.size + 1) cap A c l ((w.alloc (.cells #[.int .i64 cap, .slice A l.length c] t)).alloc (.cells #[.int .i64 0, .slice none 0 0] u)) := by
  have h2 := Db8.fresh (w.alloc (.cells #[.int .i64 cap, .slice A l.length c] t)) 0 none 0 0 u
  have e : (w.alloc (.cells #[.int .i64 cap, .slice A l.length c] t)).heap.size = w.heap.size + 1 := by simp
  rw [e] at h2
  exact ⟨(Db8.fresh w cap A l.length c t).alloc _, h2, (hv.alloc (Nat.le_refl _) _).alloc (by simp) _, ((Below.refl _ _).alloc (Nat.le_refl _) _).alloc (by simp) _, Nat.le_refl _, by omega⟩
/-- A result is stored: the zero store. -/
theorem Tw8.zero (h : Tw8 w p r cap A c l W) : Below w.heap.size w ((W.setCell ⟨r, 0, none⟩ (.int .i64 0)).setCell ⟨r, 1, none⟩ (.slice none 0 0)) :=
  (h.bel.setCell (p := ⟨r, 0, none⟩) (show w.heap.size ≤ r by have := h.old; omega) _).setCell (p := ⟨r, 1, none⟩) (show w.heap.size ≤ r by have := h.old; omega) _
theorem Tw8.out (h : Tw8 w p r cap A c l W) (e : Int) : D8 w 0 [] e (.returned (.tuple #[.agg #[.int .i64 0, .slice none 0 0], .int .i64 e])) ((W.setCell ⟨r, 0, none⟩ (.int .i64 0)).setCell ⟨r, 1, none⟩ (.slice none 0 0)) :=
  ⟨none, 0, rfl, nw_none, Ls.nil, h.zero⟩
end
/-- Put's state behind the joining of the lists. -/
structure Pu8 (w : World) (p r : Nat) (cap : Int) (A : Option Addr) (c : Nat) (l : List Msg) (W : World) : Prop where
  db : Db8 W p cap A l.length c
  rs : Db8 W r 0 none 0 0
  ls : Ls W W.heap.size (.slice A l.length c) l
  nw : Nw (r + 1) A
  bel : Below w.heap.size w W
  old : w.heap.size ≤ p ∧ p < r
section
variable {w W W' : World} {p r c : Nat} {cap : Int} {A : Option Addr} {l : List Msg}
theorem Pu8.below (h : Pu8 w p r cap A c l W) (hb : Below W.heap.size W W') : Pu8 w p r cap A c l W' :=
  ⟨h.db.up hb, h.rs.up hb, (h.ls.below hb).more hb.size, h.nw, h.bel.trans (hb.mono h.bel.size), h.old⟩
theorem Pu8.zero (h : Pu8 w p r cap A c l W) : Below w.heap.size w ((W.setCell ⟨r, 0, none⟩ (.int .i64 0)).setCell ⟨r, 1, none⟩ (.slice none 0 0)) :=
  (h.bel.setCell (p := ⟨r, 0, none⟩) (show w.heap.size ≤ r by have := h.old; omega) _).setCell (p := ⟨r, 1, none⟩) (show w.heap.size ≤ r by have := h.old; omega) _
theorem Pu8.out (h : Pu8 w p r cap A c l W) : D8 w cap l 0 (.returned (.tuple #[.agg #[.int .i64 cap, .slice A l.length c], .int .i64 0])) ((W.setCell ⟨r, 0, none⟩ (.int .i64 cap)).setCell ⟨r, 1, none⟩ (.slice A l.length c)) := by
  have ho : Ob r l.length A := ob_nw h.nw (Nat.lt_succ_self r)
  refine ⟨A, c, rfl, nw_low h.nw (by have := h.old; omega), ?_, (h.bel.setCell (p := ⟨r, 0, none⟩) (show w.heap.size ≤ r by have := h.old; omega) _).setCell (p := ⟨r, 1, none⟩) (show w.heap.size ≤ r by have := h.old; omega) _⟩
  have := (h.ls.offo (p := ⟨r, 0, none⟩) ho (.int .i64 cap)).offo (p := ⟨r, 1, none⟩) ho (.slice A l.length c)
  simpa using this
end
end Go.Proofs.Ytommkhjgockpfaa
namespace Go.Proofs.Ytommkhjgockpfaa
open Go.RowKit
set_option linter.unusedVariables false

theorem eqm_fuel (M : Msg) (f : Nat) (W : World) : (Op.equalIn (f + 2) 126 M.v M.v).run Try.prog W = .ok true W := by
  have u3 := Try.underlying3
  have u9 := Try.underlying9
  have hS : Try.prog.underlying 126 = some (.struct (Try.prog.fieldsOf 126)) := by kernel_rfl
  have hp : Try.prog.stoodInHeld 126 = false := by kernel_rfl
  rw [show f + 2 = (f + 1) + 1 from rfl, run_equalIn_agg W (f + 1) 126 _ _ hS hp]
  simp only [Program.fieldsOf, Try.underlying126]
  go_simp
theorem eql_in (x : Le) (W : World) : (Op.equalIn 10000 129 x.v x.v).run Try.prog W = .ok true W := by
  have u3 := Try.underlying3
  have hS : Try.prog.underlying 129 = some (.struct (Try.prog.fieldsOf 129)) := by kernel_rfl
  have hp : Try.prog.stoodInHeld 129 = false := by kernel_rfl
  have hM := fun W => eqm_fuel x.m 9997 W
  rw [show (10000 : Nat) = 9999 + 1 from rfl, run_equalIn_agg W 9999 129 _ _ hS hp]
  simp only [Program.fieldsOf, Try.underlying129]
  go_simp
theorem eql (x : Le) : ∀ W, (binOp .eql 129 x.v x.v).run Try.prog W = .ok (.bool true) W := fun W => by
  rw [run_eql_struct, eql_in]; rfl
end Go.Proofs.Ytommkhjgockpfaa
