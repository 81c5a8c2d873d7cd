/- What is proved here: shardqueueref07.span and Validate by contracts; shard.Free, ref07.New by contracts; ref10.Owner, Span, Home, Same by contracts; (plain) nothing old is turned by draws. -/
import Derived.Test.YtfkpkmcpepeaeaaGreatJ30
import Derived.Test.YtfkpkmcpepeaeaaGreatJ23
import Derived.Test.YtfkpkmcpepeaeaaGreatJ05
import Derived.Test.YtfkpkmcpepeaeaaGreatJ03
import Derived.Test.YtfkpkmcpepeaeaaGreatRows
import Derived.Test.YtfkpkmcpepeaeaaGreatJ01
import Derived.WalkKit
import Derived.Outline
import Derived.IntWalk
import Derived.Deep.QuietTactic
import Derived.BigQuiet
import Derived.Test.YtfkpkmcpepeaeaaGreatJ11
import Derived.Test.YtfkpkmcpepeaeaaGreatJ24
import Derived.Test.YtfkpkmcpepeaeaaGreatJ15
import Derived.Deep.RegionHeld3
import Derived.Deep.DrawnRows
import Derived.Laws.StructEq
import Derived.KernelRfl
import Derived.Below
namespace Go.Proofs.YtfkpkmcpepeaeaaGreat
open Go.RowKit
set_option linter.unusedVariables false

/-- The box and the list of all messages. -/
structure VaAt (w : World) (p : Nat) (S : Sh) (D : Sx) (v : Value) (L : List Msg) (W : World) : Prop where
  sa : SAt w p S D W
  ls : Ls W W.heap.size v L
theorem VaAt.below {w W W' : World} {p : Nat} {S : Sh} {D : Sx} {v : Value} {L : List Msg} (h : VaAt w p S D v L W) (hb : Below W.heap.size W W') : VaAt w p S D v L W' := ⟨h.sa.below hb, h.ls.upz hb⟩
end Go.Proofs.YtfkpkmcpepeaeaaGreat
namespace Go.Proofs.YtfkpkmcpepeaeaaGreat
open Go.RowKit
set_option linter.unusedVariables false

set_option maxHeartbeats 4000000 in
set_option maxRecDepth 20000 in
theorem sfree_any (k : Nat) (w : World) (h1 : 1 ≤ k) (h2 : k ≤ 12) :
    Calls Tryz.prog 38 #[.int .i64 (k : Int)] w (SE w (frS k) 0) := by
  have R0 := Lib.hid (SB8.zero w 54)
  have B0 := Lib.hid ((Below.refl w.heap.size w).alloc (Nat.le_refl _) (.cells #[.bool false, .int .i64 0, .int .i64 0, .slice none 0 0, .int .i64 0, .int .i64 0, .slice none 0 0, .slice none 0 0] 54))
  have HN := Lib.hid (fun W => gnew_any (k : Int) W)
  have hnl : (nwC (k : Int)).length = k := by rw [(nwC_fil h1 h2 0 (by omega)).1, fil_len]
  rw [(nwC_fil h1 h2 0 (by omega)).2] at HN
  obtain ⟨S, hS⟩ : ∃ S, S = frS k := ⟨_, rfl⟩
  have HS := Lib.hid (show S = ⟨false, 0, 0, nwC k, 0, 0, [], []⟩ from hS)
  rw [← hS]
  clear hS
  generalize nwC (k : Int) = cs at *
  go_enter Tryz.func38, Tryz.ntmps38
  go_wp2_with fail
  obtain ⟨r, hr⟩ : ∃ r, r = w.heap.size := ⟨_, rfl⟩
  have HRW := Lib.hid (show w.heap.size ≤ r by omega)
  rw [← hr]
  rw [← hr] at R0
  clear hr
  generalize (w.alloc (.cells #[.bool false, .int .i64 0, .int .i64 0, .slice none 0 0, .int .i64 0, .int .i64 0, .slice none 0 0, .slice none 0 0] 54)) = w1 at *
  refine (HN.out _).mono ?_
  rintro e w2 ⟨A, c, rfl, hnw, hl, hb⟩
  have B2 := Lib.hid (btr B0.out hb)
  have R2 := Lib.hid (R0.out.up hb)
  have L2 := Lib.hid hl
  have N2 := Lib.hid (nw_low hnw (show r + 1 ≤ _ from R0.out.lt))
  clear hb hl hnw
  rw [hnl] at L2 ⊢
  have HF := Lib.hid (show SE w S 0 (.returned (.tuple #[.agg #[.bool false, .int .i64 0, .int .i64 0, .slice A k c, .int .i64 0, .int .i64 0, .slice none 0 0, .slice none 0 0], .int .i64 0])) ((((((((((w2.setCell ⟨r, 0, none⟩ (.bool false)).setCell ⟨r, 1, none⟩ (.int .i64 0)).setCell ⟨r, 2, none⟩ (.int .i64 0)).setCell ⟨r, 3, none⟩ (.slice A k c)).setCell ⟨r, 4, none⟩ (.int .i64 0)).setCell ⟨r, 5, none⟩ (.int .i64 0)).setCell ⟨r, 6, none⟩ (.slice none 0 0)).setCell ⟨r, 7, none⟩ (.slice none 0 0)).alloc (.cells #[.slice A k c, .int .i64 0, .int .i64 0] 48))) from by
    rw [HS.out]
    subst hnl
    exact ⟨⟨A, c, none, 0, none, 0⟩, rfl, ⟨nw_low N2.out (by have := HRW.out; omega), nw_none, nw_none⟩, (SR.sets (S := ⟨false, 0, 0, cs, 0, 0, [], []⟩) (D := ⟨A, c, none, 0, none, 0⟩) ⟨offb_nw N2.out (Nat.lt_succ_self r), offb_none, offb_none⟩ (Sh.l8 ⟨false, 0, 0, cs, 0, 0, [], []⟩ ⟨A, c, none, 0, none, 0⟩) 0 w2 ⟨L2.out, El.nil, Dl.nil⟩).up ((Below.refl _ _).alloc (Nat.le_refl _) _), bal (set8s_below HRW.out B2.out ⟨false, 0, 0, cs, 0, 0, [], []⟩ ⟨A, c, none, 0, none, 0⟩) _⟩)
  obtain ⟨⟨r0, r1, r2, r3, r4, r5, r6, r7, rl⟩, ⟨g0, g1, g2, g3, g4, g5, g6, g7⟩⟩ := R2.out.all
  clear hnl
  go_wp2
  exact bodyPost_ret (v := .tuple #[.agg #[.bool false, .int .i64 0, .int .i64 0, .slice A k c, .int .i64 0, .int .i64 0, .slice none 0 0, .slice none 0 0], .int .i64 0]) (by simp only [results, Tryz.results38]; go_simp <;> rfl) rfl HF.out
end Go.Proofs.YtfkpkmcpepeaeaaGreat
namespace Go.Proofs.YtfkpkmcpepeaeaaGreat
open Go.RowKit
set_option linter.unusedVariables false

/-- A result box of a span behind a directory's box. -/
structure DSX (w : World) (p q : Nat) (d : Dd) (X : Dx) (W : World) : Prop where
  da : DAt w p d X W
  c0 : W.cell? ⟨q, 0, none⟩ = some (.int .i64 0)
  c1 : W.cell? ⟨q, 1, none⟩ = some (.int .i64 0)
  c2 : W.cell? ⟨q, 2, none⟩ = some (.int .i64 0)
  fr : ∀ o, W.frozen? ⟨q, o, none⟩ = false
  lt : q < W.heap.size
  old : w.heap.size ≤ q
theorem DSX.below {w W W' : World} {p q : Nat} {d : Dd} {X : Dx} (h : DSX w p q d X W) (hb : Below W.heap.size W W') : DSX w p q d X W' :=
  ⟨h.da.below hb, (hb.cell (p := ⟨q, 0, none⟩) h.lt).trans h.c0, (hb.cell (p := ⟨q, 1, none⟩) h.lt).trans h.c1, (hb.cell (p := ⟨q, 2, none⟩) h.lt).trans h.c2, fun o => (hb.frozen (p := ⟨q, o, none⟩) h.lt).trans (h.fr o), Nat.lt_of_lt_of_le h.lt hb.size, h.old⟩
theorem DSX.all {w W : World} {p q : Nat} {d : Dd} {X : Dx} (h : DSX w p q d X W) : (W.cell? ⟨q, 0, none⟩ = some (.int .i64 0) ∧ W.cell? ⟨q, 1, none⟩ = some (.int .i64 0) ∧ W.cell? ⟨q, 2, none⟩ = some (.int .i64 0) ∧ q < W.heap.size) ∧ W.frozen? ⟨q, 0, none⟩ = false ∧ W.frozen? ⟨q, 1, none⟩ = false ∧ W.frozen? ⟨q, 2, none⟩ = false := ⟨⟨h.c0, h.c1, h.c2, h.lt⟩, h.fr 0, h.fr 1, h.fr 2⟩
theorem DSX.out {w W : World} {p q : Nat} {d : Dd} {X : Dx} (h : DSX w p q d X W) (a b c : Value) : Below w.heap.size w (((W.setCell ⟨q, 0, none⟩ a).setCell ⟨q, 1, none⟩ b).setCell ⟨q, 2, none⟩ c) :=
  ((h.da.bel.setCell (p := ⟨q, 0, none⟩) h.old _).setCell (p := ⟨q, 1, none⟩) h.old _).setCell (p := ⟨q, 2, none⟩) h.old _
theorem DSX.start {w : World} {d : Dd} {X : Dx} (t u : TypeId) (h : DR w w.heap.size d X) : DSX w w.heap.size (w.heap.size + 1) d X ((w.alloc (.cells #[.int .i64 d.vn, .slice X.A d.l.length X.c, .slice X.A2 d.F.length X.c2] t)).alloc (.cells #[.int .i64 0, .int .i64 0, .int .i64 0] u)) := by
  refine ⟨(DAt.start t h).alloc _, by simp [go_sem], by simp [go_sem], by simp [go_sem], fun o => by simp [go_sem], by simp, by omega⟩
end Go.Proofs.YtfkpkmcpepeaeaaGreat
namespace Go.Proofs.YtfkpkmcpepeaeaaGreat
open Go.RowKit
theorem bel_drewN {B : Nat} {a w : World} (h : Below B a w) (n : Nat) : Below B a (w.drewN n) := ⟨h.os, h.tape, h.output, h.size, h.block⟩
end Go.Proofs.YtfkpkmcpepeaeaaGreat
