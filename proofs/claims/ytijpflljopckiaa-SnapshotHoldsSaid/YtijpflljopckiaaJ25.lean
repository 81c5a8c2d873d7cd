/- What is proved here: shard.Free, ref07.New by contracts; ref10.Owner, Span, Home, Same by contracts; (plain) nothing old is turned by draws; ref10.Same of two directories of one content is true; agrees of shardqueuelaw10 says yes to every directory of few spans and every change. -/
import Derived.Test.YtijpflljopckiaaJ20
import Derived.Test.YtijpflljopckiaaJ24
import Derived.Test.YtijpflljopckiaaJ12
import Derived.Test.YtijpflljopckiaaRows
import Derived.Test.YtijpflljopckiaaJ02
import Derived.WalkKit
import Derived.Outline
import Derived.IntWalk
import Derived.Deep.RegionHeld3
import Derived.Deep.DrawnRows
import Derived.Laws.StructEq
import Derived.KernelRfl
import Derived.Deep.QuietTactic
import Derived.BigQuiet
import Derived.Below
import Derived.Test.YtijpflljopckiaaJ16
import Derived.Test.YtijpflljopckiaaJ17
namespace Go.Proofs.Ytijpflljopckiaa
open Go.RowKit
set_option linter.unusedVariables false

set_option maxHeartbeats 4000000 in
set_option maxRecDepth 20000 in
theorem sfree_any (k : Nat) (w : World) (h1 : 1 ≤ k) (h2 : k ≤ 12) :
    Calls Try.prog 68 #[.int .i64 (k : Int)] w (SE w (frS k) 0) := by
  have R0 := Lib.hid (SB8.zero w 85)
  have B0 := Lib.hid ((Below.refl w.heap.size w).alloc (Nat.le_refl _) (.cells #[.bool false, .int .i64 0, .int .i64 0, .slice none 0 0, .int .i64 0, .int .i64 0, .slice none 0 0, .slice none 0 0] 85))
  have HN := Lib.hid (fun W => gnew_any (k : Int) W)
  have hnl : (nwC (k : Int)).length = k := by rw [(nwC_fil h1 h2 0 (by omega)).1, fil_len]
  rw [(nwC_fil h1 h2 0 (by omega)).2] at HN
  obtain ⟨S, hS⟩ : ∃ S, S = frS k := ⟨_, rfl⟩
  have HS := Lib.hid (show S = ⟨false, 0, 0, nwC k, 0, 0, [], []⟩ from hS)
  rw [← hS]
  clear hS
  generalize nwC (k : Int) = cs at *
  go_enter Try.func68, Try.ntmps68
  go_wp2_with fail
  obtain ⟨r, hr⟩ : ∃ r, r = w.heap.size := ⟨_, rfl⟩
  have HRW := Lib.hid (show w.heap.size ≤ r by omega)
  rw [← hr]
  rw [← hr] at R0
  clear hr
  generalize (w.alloc (.cells #[.bool false, .int .i64 0, .int .i64 0, .slice none 0 0, .int .i64 0, .int .i64 0, .slice none 0 0, .slice none 0 0] 85)) = w1 at *
  refine (HN.out _).mono ?_
  rintro e w2 ⟨A, c, rfl, hnw, hl, hb⟩
  have B2 := Lib.hid (btr B0.out hb)
  have R2 := Lib.hid (R0.out.up hb)
  have L2 := Lib.hid hl
  have N2 := Lib.hid (nw_low hnw (show r + 1 ≤ _ from R0.out.lt))
  clear hb hl hnw
  rw [hnl] at L2 ⊢
  have HF := Lib.hid (show SE w S 0 (.returned (.tuple #[.agg #[.bool false, .int .i64 0, .int .i64 0, .slice A k c, .int .i64 0, .int .i64 0, .slice none 0 0, .slice none 0 0], .int .i64 0])) ((((((((((w2.setCell ⟨r, 0, none⟩ (.bool false)).setCell ⟨r, 1, none⟩ (.int .i64 0)).setCell ⟨r, 2, none⟩ (.int .i64 0)).setCell ⟨r, 3, none⟩ (.slice A k c)).setCell ⟨r, 4, none⟩ (.int .i64 0)).setCell ⟨r, 5, none⟩ (.int .i64 0)).setCell ⟨r, 6, none⟩ (.slice none 0 0)).setCell ⟨r, 7, none⟩ (.slice none 0 0)).alloc (.cells #[.slice A k c, .int .i64 0, .int .i64 0] 79))) from by
    rw [HS.out]
    subst hnl
    exact ⟨⟨A, c, none, 0, none, 0⟩, rfl, ⟨nw_low N2.out (by have := HRW.out; omega), nw_none, nw_none⟩, (SR.sets (S := ⟨false, 0, 0, cs, 0, 0, [], []⟩) (D := ⟨A, c, none, 0, none, 0⟩) ⟨offb_nw N2.out (Nat.lt_succ_self r), offb_none, offb_none⟩ (Sh.l8 ⟨false, 0, 0, cs, 0, 0, [], []⟩ ⟨A, c, none, 0, none, 0⟩) 0 w2 ⟨L2.out, El.nil, Dl.nil⟩).up ((Below.refl _ _).alloc (Nat.le_refl _) _), bal (set8s_below HRW.out B2.out ⟨false, 0, 0, cs, 0, 0, [], []⟩ ⟨A, c, none, 0, none, 0⟩) _⟩)
  obtain ⟨⟨r0, r1, r2, r3, r4, r5, r6, r7, rl⟩, ⟨g0, g1, g2, g3, g4, g5, g6, g7⟩⟩ := R2.out.all
  clear hnl
  go_wp2
  exact bodyPost_ret (v := .tuple #[.agg #[.bool false, .int .i64 0, .int .i64 0, .slice A k c, .int .i64 0, .int .i64 0, .slice none 0 0, .slice none 0 0], .int .i64 0]) (by simp only [results, Try.results68]; go_simp <;> rfl) rfl HF.out
end Go.Proofs.Ytijpflljopckiaa
namespace Go.Proofs.Ytijpflljopckiaa
open Go.RowKit
set_option linter.unusedVariables false

/-- A result box of a span behind a directory's box. -/
structure DSX (w : World) (p q : Nat) (d : Dd) (X : Dx) (W : World) : Prop where
  da : DAt w p d X W
  c0 : W.cell? ⟨q, 0, none⟩ = some (.int .i64 0)
  c1 : W.cell? ⟨q, 1, none⟩ = some (.int .i64 0)
  c2 : W.cell? ⟨q, 2, none⟩ = some (.int .i64 0)
  fr : ∀ o, W.frozen? ⟨q, o, none⟩ = false
  lt : q < W.heap.size
  old : w.heap.size ≤ q
theorem DSX.below {w W W' : World} {p q : Nat} {d : Dd} {X : Dx} (h : DSX w p q d X W) (hb : Below W.heap.size W W') : DSX w p q d X W' :=
  ⟨h.da.below hb, (hb.cell (p := ⟨q, 0, none⟩) h.lt).trans h.c0, (hb.cell (p := ⟨q, 1, none⟩) h.lt).trans h.c1, (hb.cell (p := ⟨q, 2, none⟩) h.lt).trans h.c2, fun o => (hb.frozen (p := ⟨q, o, none⟩) h.lt).trans (h.fr o), Nat.lt_of_lt_of_le h.lt hb.size, h.old⟩
theorem DSX.all {w W : World} {p q : Nat} {d : Dd} {X : Dx} (h : DSX w p q d X W) : (W.cell? ⟨q, 0, none⟩ = some (.int .i64 0) ∧ W.cell? ⟨q, 1, none⟩ = some (.int .i64 0) ∧ W.cell? ⟨q, 2, none⟩ = some (.int .i64 0) ∧ q < W.heap.size) ∧ W.frozen? ⟨q, 0, none⟩ = false ∧ W.frozen? ⟨q, 1, none⟩ = false ∧ W.frozen? ⟨q, 2, none⟩ = false := ⟨⟨h.c0, h.c1, h.c2, h.lt⟩, h.fr 0, h.fr 1, h.fr 2⟩
theorem DSX.out {w W : World} {p q : Nat} {d : Dd} {X : Dx} (h : DSX w p q d X W) (a b c : Value) : Below w.heap.size w (((W.setCell ⟨q, 0, none⟩ a).setCell ⟨q, 1, none⟩ b).setCell ⟨q, 2, none⟩ c) :=
  ((h.da.bel.setCell (p := ⟨q, 0, none⟩) h.old _).setCell (p := ⟨q, 1, none⟩) h.old _).setCell (p := ⟨q, 2, none⟩) h.old _
theorem DSX.start {w : World} {d : Dd} {X : Dx} (t u : TypeId) (h : DR w w.heap.size d X) : DSX w w.heap.size (w.heap.size + 1) d X ((w.alloc (.cells #[.int .i64 d.vn, .slice X.A d.l.length X.c, .slice X.A2 d.F.length X.c2] t)).alloc (.cells #[.int .i64 0, .int .i64 0, .int .i64 0] u)) := by
  refine ⟨(DAt.start t h).alloc _, by simp [go_sem], by simp [go_sem], by simp [go_sem], fun o => by simp [go_sem], by simp, by omega⟩
end Go.Proofs.Ytijpflljopckiaa
namespace Go.Proofs.Ytijpflljopckiaa
open Go.RowKit
theorem bel_drewN {B : Nat} {a w : World} (h : Below B a w) (n : Nat) : Below B a (w.drewN n) := ⟨h.os, h.tape, h.output, h.size, h.block⟩
end Go.Proofs.Ytijpflljopckiaa
namespace Go.Proofs.Ytijpflljopckiaa
open Go.RowKit
set_option linter.unusedVariables false

/-- Two boxes of one directory, read only. -/
structure TwD (w : World) (p q : Nat) (d : Dd) (X Y : Dx) (W : World) : Prop where
  a : Db10 W p d X
  b : Db10 W q d Y
  ra : DR W W.heap.size d X
  rb : DR W W.heap.size d Y
  bel : Below w.heap.size w W
section
variable {w W W' : World} {p q : Nat} {d : Dd} {X Y : Dx}
theorem TwD.up (h : TwD w p q d X Y W) (hb : Below W.heap.size W W') : TwD w p q d X Y W' := ⟨h.a.up hb, h.b.up hb, h.ra.up hb, h.rb.up hb, h.bel.trans (hb.mono h.bel.size)⟩
theorem TwD.drewN (h : TwD w p q d X Y W) (k : Nat) : TwD w p q d X Y (W.drewN k) := h.up (bel_drewN (Below.refl _ _) k)
theorem TwD.start (w : World) (d : Dd) (X Y : Dx) (hx : DR w w.heap.size d X) (hy : DR w w.heap.size d Y) (t : TypeId) : TwD w w.heap.size (w.heap.size + 1) d X Y ((w.alloc (.cells #[.int .i64 d.vn, .slice X.A d.l.length X.c, .slice X.A2 d.F.length X.c2] t)).alloc (.cells #[.int .i64 d.vn, .slice Y.A d.l.length Y.c, .slice Y.A2 d.F.length Y.c2] t)) := by
  have hs : (w.alloc (.cells #[.int .i64 d.vn, .slice X.A d.l.length X.c, .slice X.A2 d.F.length X.c2] t)).heap.size = w.heap.size + 1 := by simp
  have h1 := Db10.start (w.alloc (.cells #[.int .i64 d.vn, .slice X.A d.l.length X.c, .slice X.A2 d.F.length X.c2] t)) d Y t
  rw [hs] at h1
  exact ⟨(Db10.start w d X t).alloc _, h1, (hx.alloc _).alloc _, (hy.alloc _).alloc _, ((Below.refl _ _).alloc (Nat.le_refl _) _).alloc (by simp) _⟩
end

end Go.Proofs.Ytijpflljopckiaa
namespace Go.Proofs.Ytijpflljopckiaa
open Go.RowKit
set_option linter.unusedVariables false

/-- Block r holds a span. -/
def SpB10 (W : World) (r : Nat) (s : Sp) : Prop := (W.cell? ⟨r, 0, none⟩ = some (.int .i64 s.lo) ∧ W.cell? ⟨r, 1, none⟩ = some (.int .i64 s.hi) ∧ W.cell? ⟨r, 2, none⟩ = some (.int .i64 s.sh)) ∧ r < W.heap.size
theorem SpB10.up {W W' : World} {r : Nat} {s : Sp} (h : SpB10 W r s) (hb : Below W.heap.size W W') : SpB10 W' r s :=
  ⟨⟨(hb.cell (p := ⟨r, 0, none⟩) h.2).trans h.1.1, (hb.cell (p := ⟨r, 1, none⟩) h.2).trans h.1.2.1, (hb.cell (p := ⟨r, 2, none⟩) h.2).trans h.1.2.2⟩, Nat.lt_of_lt_of_le h.2 hb.size⟩
theorem SpB10.start (w : World) (s : Sp) (t : TypeId) : SpB10 (w.alloc (.cells #[.int .i64 s.lo, .int .i64 s.hi, .int .i64 s.sh] t)) w.heap.size s :=
  ⟨⟨by simp [go_sem], by simp [go_sem], by simp [go_sem]⟩, by simp⟩
/-- Block p holds a directory, whose lists lie there. -/
structure Dh10 (W : World) (p : Nat) (d : Dd) (X : Dx) : Prop where
  db : Db10 W p d X
  dr : DR W W.heap.size d X
theorem Dh10.up {W W' : World} {p : Nat} {d : Dd} {X : Dx} (h : Dh10 W p d X) (hb : Below W.heap.size W W') : Dh10 W' p d X := ⟨h.db.up hb, h.dr.up hb⟩
theorem Dh10.start {W : World} {d : Dd} {X : Dx} (h : DR W W.heap.size d X) (t : TypeId) : Dh10 (W.alloc (.cells #[.int .i64 d.vn, .slice X.A d.l.length X.c, .slice X.A2 d.F.length X.c2] t)) W.heap.size d X := ⟨Db10.start W d X t, h.alloc _⟩
/-- A directory and a change in boxes. -/
structure Ah10 (w : World) (p q : Nat) (d : Dd) (X : Dx) (e : Ed) (W : World) : Prop where
  da : DAt w p d X W
  eb : EB W q e
section
variable {w W W' : World} {p q : Nat} {d : Dd} {X : Dx} {e : Ed}
theorem Ah10.below (h : Ah10 w p q d X e W) (hb : Below W.heap.size W W') : Ah10 w p q d X e W' := ⟨h.da.below hb, h.eb.up hb⟩
end
/-- .. and the results of both sides. -/
structure Ai10 (w : World) (p q r1 r2 r3 r4 : Nat) (d : Dd) (X : Dx) (e : Ed) (D : Dd) (Y Z : Dx) (S : Sp) (W : World) : Prop where
  ah : Ah10 w p q d X e W
  a : Dh10 W r1 D Y
  b : Dh10 W r2 D Z
  s : SpB10 W r3 S
  t : SpB10 W r4 S
/-- The cells that the law's last row loads. -/
abbrev C10 (p r1 r2 r3 r4 : Nat) (d : Dd) (X : Dx) (D : Dd) (Y Z : Dx) (S : Sp) (W : World) : Prop :=
  (W.cell? ⟨p, 0, none⟩ = some (.int .i64 d.vn) ∧ W.cell? ⟨p, 1, none⟩ = some (.slice X.A d.l.length X.c) ∧ W.cell? ⟨p, 2, none⟩ = some (.slice X.A2 d.F.length X.c2)) ∧
  (W.cell? ⟨r1, 0, none⟩ = some (.int .i64 D.vn) ∧ W.cell? ⟨r1, 1, none⟩ = some (.slice Y.A D.l.length Y.c) ∧ W.cell? ⟨r1, 2, none⟩ = some (.slice Y.A2 D.F.length Y.c2)) ∧
  (W.cell? ⟨r2, 0, none⟩ = some (.int .i64 D.vn) ∧ W.cell? ⟨r2, 1, none⟩ = some (.slice Z.A D.l.length Z.c) ∧ W.cell? ⟨r2, 2, none⟩ = some (.slice Z.A2 D.F.length Z.c2)) ∧
  (W.cell? ⟨r3, 0, none⟩ = some (.int .i64 S.lo) ∧ W.cell? ⟨r3, 1, none⟩ = some (.int .i64 S.hi) ∧ W.cell? ⟨r3, 2, none⟩ = some (.int .i64 S.sh)) ∧
  (W.cell? ⟨r4, 0, none⟩ = some (.int .i64 S.lo) ∧ W.cell? ⟨r4, 1, none⟩ = some (.int .i64 S.hi) ∧ W.cell? ⟨r4, 2, none⟩ = some (.int .i64 S.sh))
section
variable {w W W' : World} {p q r1 r2 r3 r4 : Nat} {d D : Dd} {X Y Z : Dx} {e : Ed} {S : Sp}
theorem Ai10.below (h : Ai10 w p q r1 r2 r3 r4 d X e D Y Z S W) (hb : Below W.heap.size W W') : Ai10 w p q r1 r2 r3 r4 d X e D Y Z S W' := ⟨h.ah.below hb, h.a.up hb, h.b.up hb, h.s.up hb, h.t.up hb⟩
theorem Ai10.drew (h : Ai10 w p q r1 r2 r3 r4 d X e D Y Z S W) : Ai10 w p q r1 r2 r3 r4 d X e D Y Z S W.drew := h.below (Below.refl _ _).drew
theorem Ai10.c (h : Ai10 w p q r1 r2 r3 r4 d X e D Y Z S W) : C10 p r1 r2 r3 r4 d X D Y Z S W := ⟨⟨h.ah.da.db.c0, h.ah.da.db.c1, h.ah.da.db.c2⟩, ⟨h.a.db.c0, h.a.db.c1, h.a.db.c2⟩, ⟨h.b.db.c0, h.b.db.c1, h.b.db.c2⟩, h.s.1, h.t.1⟩
end
end Go.Proofs.Ytijpflljopckiaa
