/- What is proved here: '==' and '!=' of two spans; ref10.Owner, Span, Home, Same by contracts; (plain) nothing old is turned by draws; ref10.Same of two directories of one content is true; agrees of shardqueuelaw10 says yes to every directory of few spans and every change. -/
import Derived.Test.YtijpflljopckiaaRows
import Derived.Test.YtijpflljopckiaaJ02
import Derived.WalkKit
import Derived.Outline
import Derived.IntWalk
import Derived.Test.YtijpflljopckiaaJ13
import Derived.Laws.StructEq
import Derived.KernelRfl
import Derived.Deep.RegionHeld3
import Derived.Deep.DrawnRows
import Derived.Deep.QuietTactic
import Derived.BigQuiet
import Derived.Below
import Derived.Test.YtijpflljopckiaaJ16
import Derived.Test.YtijpflljopckiaaJ17
namespace Go.Proofs.Ytijpflljopckiaa
open Go.RowKit
set_option linter.unusedVariables false

theorem eqsp_in (a b : Sp) (W : World) : (Op.equalIn 10000 115 a.v b.v).run Try.prog W = .ok (decide (a = b)) W := by
  have u3 := Try.underlying3
  have hS : Try.prog.underlying 115 = some (.struct (Try.prog.fieldsOf 115)) := by kernel_rfl
  have hp : Try.prog.stoodInHeld 115 = false := by kernel_rfl
  rw [show (10000 : Nat) = 9999 + 1 from rfl, run_equalIn_agg W 9999 115 _ _ hS hp]
  simp only [Program.fieldsOf, Try.underlying115]
  by_cases h0 : a.lo = b.lo
  · have h0' : (a.lo == b.lo) = true := by simpa using h0
    by_cases h1 : a.hi = b.hi
    · have h1' : (a.hi == b.hi) = true := by simpa using h1
      by_cases h2 : a.sh = b.sh
      · have e : decide (a = b) = true := decide_eq_true (by cases a; cases b; simp_all)
        have h2' : (a.sh == b.sh) = true := by simpa using h2
        rw [e]
        clear e h0 h1 h2
        go_simp
      · have e : decide (a = b) = false := decide_eq_false (fun e => h2 (by rw [e]))
        have h2' : (a.sh == b.sh) = false := by simpa using h2
        rw [e]
        clear e h0 h1 h2
        go_simp
    · have e : decide (a = b) = false := decide_eq_false (fun e => h1 (by rw [e]))
      have h1' : (a.hi == b.hi) = false := by simpa using h1
      rw [e]
      clear e h0 h1
      go_simp
  · have e : decide (a = b) = false := decide_eq_false (fun e => h0 (by rw [e]))
    have h0' : (a.lo == b.lo) = false := by simpa using h0
    rw [e]
    clear e h0
    go_simp
theorem neqsp (a b : Sp) : ∀ W, (binOp .neq 115 a.v b.v).run Try.prog W = .ok (.bool (!decide (a = b))) W := fun W => by
  rw [run_neq_struct, eqsp_in]; rfl
end Go.Proofs.Ytijpflljopckiaa
namespace Go.Proofs.Ytijpflljopckiaa
open Go.RowKit
set_option linter.unusedVariables false

/-- A result box of a span behind a directory's box. -/
structure DSX (w : World) (p q : Nat) (d : Dd) (X : Dx) (W : World) : Prop where
  da : DAt w p d X W
  c0 : W.cell? ⟨q, 0, none⟩ = some (.int .i64 0)
  c1 : W.cell? ⟨q, 1, none⟩ = some (.int .i64 0)
  c2 : W.cell? ⟨q, 2, none⟩ = some (.int .i64 0)
  fr : ∀ o, W.frozen? ⟨q, o, none⟩ = false
  lt : q < W.heap.size
  old : w.heap.size ≤ q
theorem DSX.below {w W W' : World} {p q : Nat} {d : Dd} {X : Dx} (h : DSX w p q d X W) (hb : Below W.heap.size W W') : DSX w p q d X W' :=
  ⟨h.da.below hb, (hb.cell (p := ⟨q, 0, none⟩) h.lt).trans h.c0, (hb.cell (p := ⟨q, 1, none⟩) h.lt).trans h.c1, (hb.cell (p := ⟨q, 2, none⟩) h.lt).trans h.c2, fun o => (hb.frozen (p := ⟨q, o, none⟩) h.lt).trans (h.fr o), Nat.lt_of_lt_of_le h.lt hb.size, h.old⟩
theorem DSX.all {w W : World} {p q : Nat} {d : Dd} {X : Dx} (h : DSX w p q d X W) : (W.cell? ⟨q, 0, none⟩ = some (.int .i64 0) ∧ W.cell? ⟨q, 1, none⟩ = some (.int .i64 0) ∧ W.cell? ⟨q, 2, none⟩ = some (.int .i64 0) ∧ q < W.heap.size) ∧ W.frozen? ⟨q, 0, none⟩ = false ∧ W.frozen? ⟨q, 1, none⟩ = false ∧ W.frozen? ⟨q, 2, none⟩ = false := ⟨⟨h.c0, h.c1, h.c2, h.lt⟩, h.fr 0, h.fr 1, h.fr 2⟩
theorem DSX.out {w W : World} {p q : Nat} {d : Dd} {X : Dx} (h : DSX w p q d X W) (a b c : Value) : Below w.heap.size w (((W.setCell ⟨q, 0, none⟩ a).setCell ⟨q, 1, none⟩ b).setCell ⟨q, 2, none⟩ c) :=
  ((h.da.bel.setCell (p := ⟨q, 0, none⟩) h.old _).setCell (p := ⟨q, 1, none⟩) h.old _).setCell (p := ⟨q, 2, none⟩) h.old _
theorem DSX.start {w : World} {d : Dd} {X : Dx} (t u : TypeId) (h : DR w w.heap.size d X) : DSX w w.heap.size (w.heap.size + 1) d X ((w.alloc (.cells #[.int .i64 d.vn, .slice X.A d.l.length X.c, .slice X.A2 d.F.length X.c2] t)).alloc (.cells #[.int .i64 0, .int .i64 0, .int .i64 0] u)) := by
  refine ⟨(DAt.start t h).alloc _, by simp [go_sem], by simp [go_sem], by simp [go_sem], fun o => by simp [go_sem], by simp, by omega⟩
end Go.Proofs.Ytijpflljopckiaa
namespace Go.Proofs.Ytijpflljopckiaa
open Go.RowKit
theorem bel_drewN {B : Nat} {a w : World} (h : Below B a w) (n : Nat) : Below B a (w.drewN n) := ⟨h.os, h.tape, h.output, h.size, h.block⟩
end Go.Proofs.Ytijpflljopckiaa
namespace Go.Proofs.Ytijpflljopckiaa
open Go.RowKit
set_option linter.unusedVariables false

/-- Two boxes of one directory, read only. -/
structure TwD (w : World) (p q : Nat) (d : Dd) (X Y : Dx) (W : World) : Prop where
  a : Db10 W p d X
  b : Db10 W q d Y
  ra : DR W W.heap.size d X
  rb : DR W W.heap.size d Y
  bel : Below w.heap.size w W
section
variable {w W W' : World} {p q : Nat} {d : Dd} {X Y : Dx}
theorem TwD.up (h : TwD w p q d X Y W) (hb : Below W.heap.size W W') : TwD w p q d X Y W' := ⟨h.a.up hb, h.b.up hb, h.ra.up hb, h.rb.up hb, h.bel.trans (hb.mono h.bel.size)⟩
theorem TwD.drewN (h : TwD w p q d X Y W) (k : Nat) : TwD w p q d X Y (W.drewN k) := h.up (bel_drewN (Below.refl _ _) k)
theorem TwD.start (w : World) (d : Dd) (X Y : Dx) (hx : DR w w.heap.size d X) (hy : DR w w.heap.size d Y) (t : TypeId) : TwD w w.heap.size (w.heap.size + 1) d X Y ((w.alloc (.cells #[.int .i64 d.vn, .slice X.A d.l.length X.c, .slice X.A2 d.F.length X.c2] t)).alloc (.cells #[.int .i64 d.vn, .slice Y.A d.l.length Y.c, .slice Y.A2 d.F.length Y.c2] t)) := by
  have hs : (w.alloc (.cells #[.int .i64 d.vn, .slice X.A d.l.length X.c, .slice X.A2 d.F.length X.c2] t)).heap.size = w.heap.size + 1 := by simp
  have h1 := Db10.start (w.alloc (.cells #[.int .i64 d.vn, .slice X.A d.l.length X.c, .slice X.A2 d.F.length X.c2] t)) d Y t
  rw [hs] at h1
  exact ⟨(Db10.start w d X t).alloc _, h1, (hx.alloc _).alloc _, (hy.alloc _).alloc _, ((Below.refl _ _).alloc (Nat.le_refl _) _).alloc (by simp) _⟩
end

set_option maxHeartbeats 4000000 in
set_option maxRecDepth 20000 in
theorem rsame10_yes (d : Dd) (X Y : Dx) (w : World) (hx : DR w w.heap.size d X) (hy : DR w w.heap.size d Y) :
    Calls Try.prog 55 #[dv d X, dv d Y] w fun e w' => e = .returned (.bool true) ∧ Below w.heap.size w w' := by
  have H0 := Lib.hid (TwD.start w d X Y hx hy 34)
  have hL : d.l.length ≤ 9223372036854775807 := by have h2 := hx.pl.len.2.2; have h1 := hx.pl.len.2.1; unfold maxLen at h2; omega
  have hF : d.F.length ≤ 9223372036854775807 := by have h2 := hx.fl.len.2.2; have h1 := hx.fl.len.2.1; unfold maxLen at h2; omega
  clear hx hy
  go_enter Try.func55, Try.ntmps55
  go_wp2
  obtain ⟨q, hq⟩ : ∃ q, q = w.heap.size + 1 := ⟨_, rfl⟩
  obtain ⟨p, hp⟩ : ∃ p, p = w.heap.size := ⟨_, rfl⟩
  rw [← hq, ← hp] at H0
  rw [← hq, ← hp]
  clear hq hp
  generalize (w.alloc (.cells #[.int .i64 d.vn, .slice X.A d.l.length X.c, .slice X.A2 d.F.length X.c2] 34)).alloc (.cells #[.int .i64 d.vn, .slice Y.A d.l.length Y.c, .slice Y.A2 d.F.length Y.c2] 34) = w2 at *
  go_loopw [5] (fun i wr => ∃ k : Nat, k ≤ d.l.length ∧ i = .int .i64 k ∧ Hid (TwD w p q d X Y wr)) (fun i _ => d.l.length - (intOf i).toNat)
  case atStart => exact ⟨0, by omega, rfl, H0⟩
  case round =>
    clear H0
    obtain ⟨k, hk, rfl, H1⟩ := hrel
    by_cases hlt : k < d.l.length
    · have hlt' : (k : Int) < (d.l.length : Int) := by omega
      have hw2 : IntKind.i64.wrap ((k : Int) + 1) = (k : Int) + 1 := IntWalk.i64_in _ (by omega)
      obtain ⟨b, o, hA, hbl, c0, c1, c2⟩ := H1.out.ra.pl.atg hlt
      obtain ⟨b', o', hA', hbl', d0, d1, d2⟩ := H1.out.rb.pl.atg hlt
      obtain ⟨⟨x0, x1, x2, xl⟩, -⟩ := H1.out.a.all
      obtain ⟨⟨y0, y1, y2, yl⟩, -⟩ := H1.out.b.all
      rw [hA] at x1
      rw [hA'] at y1
      have hne : ∀ W, (binOp .neq 115 (sg d.l k).v (sg d.l k).v).run Try.prog W = .ok (.bool false) W := fun W => by rw [neqsp]; simp
      clear hA hA' x0 x2 y0 y2
      generalize sg d.l k = M at *
      go_wp2
      go_quiet (fail)
      go_wp2
      go_roundw
      case rel => exact ⟨k + 1, by omega, by go_num, Lib.hid (H1.out.drewN _)⟩
      case measure => simp [intOf]; omega
    · have hke : k = d.l.length := by omega
      subst hke
      clear hlt hk
      obtain ⟨⟨x0, x1, x2, xl⟩, -⟩ := H1.out.a.all
      go_wp2
      generalize wr = w5 at *
      clear x0 x1 x2 xl
      go_loopw [6] (fun i wr => ∃ k : Nat, k ≤ d.F.length ∧ i = .int .i64 k ∧ Hid (TwD w p q d X Y wr)) (fun i _ => d.F.length - (intOf i).toNat)
      case atStart => exact ⟨0, by omega, rfl, H1⟩
      case round =>
        clear H1
        obtain ⟨k, hk, rfl, H2⟩ := hrel
        by_cases hlt : k < d.F.length
        · have hlt' : (k : Int) < (d.F.length : Int) := by omega
          have hw2 : IntKind.i64.wrap ((k : Int) + 1) = (k : Int) + 1 := IntWalk.i64_in _ (by omega)
          obtain ⟨b, o, hA, hbl, c0⟩ := H2.out.ra.fl.atg hlt
          obtain ⟨b', o', hA', hbl', d0⟩ := H2.out.rb.fl.atg hlt
          obtain ⟨⟨x0, x1, x2, xl⟩, -⟩ := H2.out.a.all
          obtain ⟨⟨y0, y1, y2, yl⟩, -⟩ := H2.out.b.all
          rw [hA] at x2
          rw [hA'] at y2
          clear hA hA' x0 x1 y0 y1
          generalize ig d.F k = M at *
          go_wp2
          go_quiet (fail)
          go_wp2
          go_roundw
          case rel => exact ⟨k + 1, by omega, by go_num, Lib.hid (H2.out.drewN _)⟩
          case measure => simp [intOf]; omega
        · obtain ⟨⟨x0, x1, x2, xl⟩, -⟩ := H2.out.a.all
          have hlt' : ¬ (k : Int) < (d.F.length : Int) := by omega
          have HB := Lib.hid H2.out.bel
          go_wp2
          go_ret
          exact ⟨rfl, HB.out⟩
end Go.Proofs.Ytijpflljopckiaa
namespace Go.Proofs.Ytijpflljopckiaa
open Go.RowKit
set_option linter.unusedVariables false

/-- Block r holds a span. -/
def SpB10 (W : World) (r : Nat) (s : Sp) : Prop := (W.cell? ⟨r, 0, none⟩ = some (.int .i64 s.lo) ∧ W.cell? ⟨r, 1, none⟩ = some (.int .i64 s.hi) ∧ W.cell? ⟨r, 2, none⟩ = some (.int .i64 s.sh)) ∧ r < W.heap.size
theorem SpB10.up {W W' : World} {r : Nat} {s : Sp} (h : SpB10 W r s) (hb : Below W.heap.size W W') : SpB10 W' r s :=
  ⟨⟨(hb.cell (p := ⟨r, 0, none⟩) h.2).trans h.1.1, (hb.cell (p := ⟨r, 1, none⟩) h.2).trans h.1.2.1, (hb.cell (p := ⟨r, 2, none⟩) h.2).trans h.1.2.2⟩, Nat.lt_of_lt_of_le h.2 hb.size⟩
theorem SpB10.start (w : World) (s : Sp) (t : TypeId) : SpB10 (w.alloc (.cells #[.int .i64 s.lo, .int .i64 s.hi, .int .i64 s.sh] t)) w.heap.size s :=
  ⟨⟨by simp [go_sem], by simp [go_sem], by simp [go_sem]⟩, by simp⟩
/-- Block p holds a directory, whose lists lie there. -/
structure Dh10 (W : World) (p : Nat) (d : Dd) (X : Dx) : Prop where
  db : Db10 W p d X
  dr : DR W W.heap.size d X
theorem Dh10.up {W W' : World} {p : Nat} {d : Dd} {X : Dx} (h : Dh10 W p d X) (hb : Below W.heap.size W W') : Dh10 W' p d X := ⟨h.db.up hb, h.dr.up hb⟩
theorem Dh10.start {W : World} {d : Dd} {X : Dx} (h : DR W W.heap.size d X) (t : TypeId) : Dh10 (W.alloc (.cells #[.int .i64 d.vn, .slice X.A d.l.length X.c, .slice X.A2 d.F.length X.c2] t)) W.heap.size d X := ⟨Db10.start W d X t, h.alloc _⟩
/-- A directory and a change in boxes. -/
structure Ah10 (w : World) (p q : Nat) (d : Dd) (X : Dx) (e : Ed) (W : World) : Prop where
  da : DAt w p d X W
  eb : EB W q e
section
variable {w W W' : World} {p q : Nat} {d : Dd} {X : Dx} {e : Ed}
theorem Ah10.below (h : Ah10 w p q d X e W) (hb : Below W.heap.size W W') : Ah10 w p q d X e W' := ⟨h.da.below hb, h.eb.up hb⟩
end
/-- .. and the results of both sides. -/
structure Ai10 (w : World) (p q r1 r2 r3 r4 : Nat) (d : Dd) (X : Dx) (e : Ed) (D : Dd) (Y Z : Dx) (S : Sp) (W : World) : Prop where
  ah : Ah10 w p q d X e W
  a : Dh10 W r1 D Y
  b : Dh10 W r2 D Z
  s : SpB10 W r3 S
  t : SpB10 W r4 S
/-- The cells that the law's last row loads. -/
abbrev C10 (p r1 r2 r3 r4 : Nat) (d : Dd) (X : Dx) (D : Dd) (Y Z : Dx) (S : Sp) (W : World) : Prop :=
  (W.cell? ⟨p, 0, none⟩ = some (.int .i64 d.vn) ∧ W.cell? ⟨p, 1, none⟩ = some (.slice X.A d.l.length X.c) ∧ W.cell? ⟨p, 2, none⟩ = some (.slice X.A2 d.F.length X.c2)) ∧
  (W.cell? ⟨r1, 0, none⟩ = some (.int .i64 D.vn) ∧ W.cell? ⟨r1, 1, none⟩ = some (.slice Y.A D.l.length Y.c) ∧ W.cell? ⟨r1, 2, none⟩ = some (.slice Y.A2 D.F.length Y.c2)) ∧
  (W.cell? ⟨r2, 0, none⟩ = some (.int .i64 D.vn) ∧ W.cell? ⟨r2, 1, none⟩ = some (.slice Z.A D.l.length Z.c) ∧ W.cell? ⟨r2, 2, none⟩ = some (.slice Z.A2 D.F.length Z.c2)) ∧
  (W.cell? ⟨r3, 0, none⟩ = some (.int .i64 S.lo) ∧ W.cell? ⟨r3, 1, none⟩ = some (.int .i64 S.hi) ∧ W.cell? ⟨r3, 2, none⟩ = some (.int .i64 S.sh)) ∧
  (W.cell? ⟨r4, 0, none⟩ = some (.int .i64 S.lo) ∧ W.cell? ⟨r4, 1, none⟩ = some (.int .i64 S.hi) ∧ W.cell? ⟨r4, 2, none⟩ = some (.int .i64 S.sh))
section
variable {w W W' : World} {p q r1 r2 r3 r4 : Nat} {d D : Dd} {X Y Z : Dx} {e : Ed} {S : Sp}
theorem Ai10.below (h : Ai10 w p q r1 r2 r3 r4 d X e D Y Z S W) (hb : Below W.heap.size W W') : Ai10 w p q r1 r2 r3 r4 d X e D Y Z S W' := ⟨h.ah.below hb, h.a.up hb, h.b.up hb, h.s.up hb, h.t.up hb⟩
theorem Ai10.drew (h : Ai10 w p q r1 r2 r3 r4 d X e D Y Z S W) : Ai10 w p q r1 r2 r3 r4 d X e D Y Z S W.drew := h.below (Below.refl _ _).drew
theorem Ai10.c (h : Ai10 w p q r1 r2 r3 r4 d X e D Y Z S W) : C10 p r1 r2 r3 r4 d X D Y Z S W := ⟨⟨h.ah.da.db.c0, h.ah.da.db.c1, h.ah.da.db.c2⟩, ⟨h.a.db.c0, h.a.db.c1, h.a.db.c2⟩, ⟨h.b.db.c0, h.b.db.c1, h.b.db.c2⟩, h.s.1, h.t.1⟩
end
end Go.Proofs.Ytijpflljopckiaa
