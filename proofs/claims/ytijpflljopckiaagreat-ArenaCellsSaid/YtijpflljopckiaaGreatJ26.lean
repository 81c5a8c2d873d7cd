/- What is proved here: ref10.Owner, Span, Home, Same by contracts; (plain) nothing old is turned by draws; ref10.Same of two directories of one content is true; agrees of shardqueuelaw10 says yes to every directory of few spans and every change; arena.firstShard by a contract. -/
import Derived.Test.YtijpflljopckiaaGreatJ13
import Derived.Test.YtijpflljopckiaaGreatRows
import Derived.Test.YtijpflljopckiaaGreatJ02
import Derived.WalkKit
import Derived.Outline
import Derived.IntWalk
import Derived.Deep.RegionHeld3
import Derived.Deep.DrawnRows
import Derived.Laws.StructEq
import Derived.KernelRfl
import Derived.Deep.QuietTactic
import Derived.BigQuiet
import Derived.Below
import Derived.Test.YtijpflljopckiaaGreatJ16
import Derived.Test.YtijpflljopckiaaGreatJ17
import Derived.Test.YtijpflljopckiaaGreatJ25
import Derived.Deep.DeepCutAuto
namespace Go.Proofs.YtijpflljopckiaaGreat
open Go.RowKit
set_option linter.unusedVariables false

/-- A result box of a span behind a directory's box. -/
structure DSX (w : World) (p q : Nat) (d : Dd) (X : Dx) (W : World) : Prop where
  da : DAt w p d X W
  c0 : W.cell? ⟨q, 0, none⟩ = some (.int .i64 0)
  c1 : W.cell? ⟨q, 1, none⟩ = some (.int .i64 0)
  c2 : W.cell? ⟨q, 2, none⟩ = some (.int .i64 0)
  fr : ∀ o, W.frozen? ⟨q, o, none⟩ = false
  lt : q < W.heap.size
  old : w.heap.size ≤ q
theorem DSX.below {w W W' : World} {p q : Nat} {d : Dd} {X : Dx} (h : DSX w p q d X W) (hb : Below W.heap.size W W') : DSX w p q d X W' :=
  ⟨h.da.below hb, (hb.cell (p := ⟨q, 0, none⟩) h.lt).trans h.c0, (hb.cell (p := ⟨q, 1, none⟩) h.lt).trans h.c1, (hb.cell (p := ⟨q, 2, none⟩) h.lt).trans h.c2, fun o => (hb.frozen (p := ⟨q, o, none⟩) h.lt).trans (h.fr o), Nat.lt_of_lt_of_le h.lt hb.size, h.old⟩
theorem DSX.all {w W : World} {p q : Nat} {d : Dd} {X : Dx} (h : DSX w p q d X W) : (W.cell? ⟨q, 0, none⟩ = some (.int .i64 0) ∧ W.cell? ⟨q, 1, none⟩ = some (.int .i64 0) ∧ W.cell? ⟨q, 2, none⟩ = some (.int .i64 0) ∧ q < W.heap.size) ∧ W.frozen? ⟨q, 0, none⟩ = false ∧ W.frozen? ⟨q, 1, none⟩ = false ∧ W.frozen? ⟨q, 2, none⟩ = false := ⟨⟨h.c0, h.c1, h.c2, h.lt⟩, h.fr 0, h.fr 1, h.fr 2⟩
theorem DSX.out {w W : World} {p q : Nat} {d : Dd} {X : Dx} (h : DSX w p q d X W) (a b c : Value) : Below w.heap.size w (((W.setCell ⟨q, 0, none⟩ a).setCell ⟨q, 1, none⟩ b).setCell ⟨q, 2, none⟩ c) :=
  ((h.da.bel.setCell (p := ⟨q, 0, none⟩) h.old _).setCell (p := ⟨q, 1, none⟩) h.old _).setCell (p := ⟨q, 2, none⟩) h.old _
theorem DSX.start {w : World} {d : Dd} {X : Dx} (t u : TypeId) (h : DR w w.heap.size d X) : DSX w w.heap.size (w.heap.size + 1) d X ((w.alloc (.cells #[.int .i64 d.vn, .slice X.A d.l.length X.c, .slice X.A2 d.F.length X.c2] t)).alloc (.cells #[.int .i64 0, .int .i64 0, .int .i64 0] u)) := by
  refine ⟨(DAt.start t h).alloc _, by simp [go_sem], by simp [go_sem], by simp [go_sem], fun o => by simp [go_sem], by simp, by omega⟩
end Go.Proofs.YtijpflljopckiaaGreat
namespace Go.Proofs.YtijpflljopckiaaGreat
open Go.RowKit
theorem bel_drewN {B : Nat} {a w : World} (h : Below B a w) (n : Nat) : Below B a (w.drewN n) := ⟨h.os, h.tape, h.output, h.size, h.block⟩
end Go.Proofs.YtijpflljopckiaaGreat
namespace Go.Proofs.YtijpflljopckiaaGreat
open Go.RowKit
set_option linter.unusedVariables false

/-- Two boxes of one directory, read only. -/
structure TwD (w : World) (p q : Nat) (d : Dd) (X Y : Dx) (W : World) : Prop where
  a : Db10 W p d X
  b : Db10 W q d Y
  ra : DR W W.heap.size d X
  rb : DR W W.heap.size d Y
  bel : Below w.heap.size w W
section
variable {w W W' : World} {p q : Nat} {d : Dd} {X Y : Dx}
theorem TwD.up (h : TwD w p q d X Y W) (hb : Below W.heap.size W W') : TwD w p q d X Y W' := ⟨h.a.up hb, h.b.up hb, h.ra.up hb, h.rb.up hb, h.bel.trans (hb.mono h.bel.size)⟩
theorem TwD.drewN (h : TwD w p q d X Y W) (k : Nat) : TwD w p q d X Y (W.drewN k) := h.up (bel_drewN (Below.refl _ _) k)
theorem TwD.start (w : World) (d : Dd) (X Y : Dx) (hx : DR w w.heap.size d X) (hy : DR w w.heap.size d Y) (t : TypeId) : TwD w w.heap.size (w.heap.size + 1) d X Y ((w.alloc (.cells #[.int .i64 d.vn, .slice X.A d.l.length X.c, .slice X.A2 d.F.length X.c2] t)).alloc (.cells #[.int .i64 d.vn, .slice Y.A d.l.length Y.c, .slice Y.A2 d.F.length Y.c2] t)) := by
  have hs : (w.alloc (.cells #[.int .i64 d.vn, .slice X.A d.l.length X.c, .slice X.A2 d.F.length X.c2] t)).heap.size = w.heap.size + 1 := by simp
  have h1 := Db10.start (w.alloc (.cells #[.int .i64 d.vn, .slice X.A d.l.length X.c, .slice X.A2 d.F.length X.c2] t)) d Y t
  rw [hs] at h1
  exact ⟨(Db10.start w d X t).alloc _, h1, (hx.alloc _).alloc _, (hy.alloc _).alloc _, ((Below.refl _ _).alloc (Nat.le_refl _) _).alloc (by simp) _⟩
end

end Go.Proofs.YtijpflljopckiaaGreat
namespace Go.Proofs.YtijpflljopckiaaGreat
open Go.RowKit
set_option linter.unusedVariables false

/-- Block r holds a span. -/
def SpB10 (W : World) (r : Nat) (s : Sp) : Prop := (W.cell? ⟨r, 0, none⟩ = some (.int .i64 s.lo) ∧ W.cell? ⟨r, 1, none⟩ = some (.int .i64 s.hi) ∧ W.cell? ⟨r, 2, none⟩ = some (.int .i64 s.sh)) ∧ r < W.heap.size
theorem SpB10.up {W W' : World} {r : Nat} {s : Sp} (h : SpB10 W r s) (hb : Below W.heap.size W W') : SpB10 W' r s :=
  ⟨⟨(hb.cell (p := ⟨r, 0, none⟩) h.2).trans h.1.1, (hb.cell (p := ⟨r, 1, none⟩) h.2).trans h.1.2.1, (hb.cell (p := ⟨r, 2, none⟩) h.2).trans h.1.2.2⟩, Nat.lt_of_lt_of_le h.2 hb.size⟩
theorem SpB10.start (w : World) (s : Sp) (t : TypeId) : SpB10 (w.alloc (.cells #[.int .i64 s.lo, .int .i64 s.hi, .int .i64 s.sh] t)) w.heap.size s :=
  ⟨⟨by simp [go_sem], by simp [go_sem], by simp [go_sem]⟩, by simp⟩
/-- Block p holds a directory, whose lists lie there. -/
structure Dh10 (W : World) (p : Nat) (d : Dd) (X : Dx) : Prop where
  db : Db10 W p d X
  dr : DR W W.heap.size d X
theorem Dh10.up {W W' : World} {p : Nat} {d : Dd} {X : Dx} (h : Dh10 W p d X) (hb : Below W.heap.size W W') : Dh10 W' p d X := ⟨h.db.up hb, h.dr.up hb⟩
theorem Dh10.start {W : World} {d : Dd} {X : Dx} (h : DR W W.heap.size d X) (t : TypeId) : Dh10 (W.alloc (.cells #[.int .i64 d.vn, .slice X.A d.l.length X.c, .slice X.A2 d.F.length X.c2] t)) W.heap.size d X := ⟨Db10.start W d X t, h.alloc _⟩
/-- A directory and a change in boxes. -/
structure Ah10 (w : World) (p q : Nat) (d : Dd) (X : Dx) (e : Ed) (W : World) : Prop where
  da : DAt w p d X W
  eb : EB W q e
section
variable {w W W' : World} {p q : Nat} {d : Dd} {X : Dx} {e : Ed}
theorem Ah10.below (h : Ah10 w p q d X e W) (hb : Below W.heap.size W W') : Ah10 w p q d X e W' := ⟨h.da.below hb, h.eb.up hb⟩
end
/-- .. and the results of both sides. -/
structure Ai10 (w : World) (p q r1 r2 r3 r4 : Nat) (d : Dd) (X : Dx) (e : Ed) (D : Dd) (Y Z : Dx) (S : Sp) (W : World) : Prop where
  ah : Ah10 w p q d X e W
  a : Dh10 W r1 D Y
  b : Dh10 W r2 D Z
  s : SpB10 W r3 S
  t : SpB10 W r4 S
/-- The cells that the law's last row loads. -/
abbrev C10 (p r1 r2 r3 r4 : Nat) (d : Dd) (X : Dx) (D : Dd) (Y Z : Dx) (S : Sp) (W : World) : Prop :=
  (W.cell? ⟨p, 0, none⟩ = some (.int .i64 d.vn) ∧ W.cell? ⟨p, 1, none⟩ = some (.slice X.A d.l.length X.c) ∧ W.cell? ⟨p, 2, none⟩ = some (.slice X.A2 d.F.length X.c2)) ∧
  (W.cell? ⟨r1, 0, none⟩ = some (.int .i64 D.vn) ∧ W.cell? ⟨r1, 1, none⟩ = some (.slice Y.A D.l.length Y.c) ∧ W.cell? ⟨r1, 2, none⟩ = some (.slice Y.A2 D.F.length Y.c2)) ∧
  (W.cell? ⟨r2, 0, none⟩ = some (.int .i64 D.vn) ∧ W.cell? ⟨r2, 1, none⟩ = some (.slice Z.A D.l.length Z.c) ∧ W.cell? ⟨r2, 2, none⟩ = some (.slice Z.A2 D.F.length Z.c2)) ∧
  (W.cell? ⟨r3, 0, none⟩ = some (.int .i64 S.lo) ∧ W.cell? ⟨r3, 1, none⟩ = some (.int .i64 S.hi) ∧ W.cell? ⟨r3, 2, none⟩ = some (.int .i64 S.sh)) ∧
  (W.cell? ⟨r4, 0, none⟩ = some (.int .i64 S.lo) ∧ W.cell? ⟨r4, 1, none⟩ = some (.int .i64 S.hi) ∧ W.cell? ⟨r4, 2, none⟩ = some (.int .i64 S.sh))
section
variable {w W W' : World} {p q r1 r2 r3 r4 : Nat} {d D : Dd} {X Y Z : Dx} {e : Ed} {S : Sp}
theorem Ai10.below (h : Ai10 w p q r1 r2 r3 r4 d X e D Y Z S W) (hb : Below W.heap.size W W') : Ai10 w p q r1 r2 r3 r4 d X e D Y Z S W' := ⟨h.ah.below hb, h.a.up hb, h.b.up hb, h.s.up hb, h.t.up hb⟩
theorem Ai10.drew (h : Ai10 w p q r1 r2 r3 r4 d X e D Y Z S W) : Ai10 w p q r1 r2 r3 r4 d X e D Y Z S W.drew := h.below (Below.refl _ _).drew
theorem Ai10.c (h : Ai10 w p q r1 r2 r3 r4 d X e D Y Z S W) : C10 p r1 r2 r3 r4 d X D Y Z S W := ⟨⟨h.ah.da.db.c0, h.ah.da.db.c1, h.ah.da.db.c2⟩, ⟨h.a.db.c0, h.a.db.c1, h.a.db.c2⟩, ⟨h.b.db.c0, h.b.db.c1, h.b.db.c2⟩, h.s.1, h.t.1⟩
end
end Go.Proofs.YtijpflljopckiaaGreat
namespace Go.Proofs.YtijpflljopckiaaGreat
open Go.RowKit
set_option linter.unusedVariables false

/-- The first shard of a slot. -/
noncomputable def ffS (d : Dd) (j : Int) (k : Nat) : Sh := if spnB d j = true then neS (k : Int) (spnD d j).lo (spnD d j).hi else frS k
/-- A directory's box, a result box of a shard. -/
structure Fs12 (w : World) (p r : Nat) (d : Dd) (X : Dx) (W : World) : Prop where
  da : DAt w p d X W
  rb : SB8 W r zS zX
  rn : w.heap.size ≤ r
section
variable {w W W' : World} {p r : Nat} {d : Dd} {X : Dx}
theorem Fs12.below (h : Fs12 w p r d X W) (hb : Below W.heap.size W W') : Fs12 w p r d X W' := ⟨h.da.below hb, h.rb.up hb, h.rn⟩
theorem Fs12.start (hd : DR w w.heap.size d X) : Fs12 w w.heap.size (w.heap.size + 1) d X ((w.alloc (.cells #[.int .i64 d.vn, .slice X.A d.l.length X.c, .slice X.A2 d.F.length X.c2] 34)).alloc (.cells #[.bool false, .int .i64 0, .int .i64 0, .slice none 0 0, .int .i64 0, .int .i64 0, .slice none 0 0, .slice none 0 0] 54)) := by
  have h1 := SB8.zero (w.alloc (.cells #[.int .i64 d.vn, .slice X.A d.l.length X.c, .slice X.A2 d.F.length X.c2] 34)) 54
  rw [show (w.alloc (.cells #[.int .i64 d.vn, .slice X.A d.l.length X.c, .slice X.A2 d.F.length X.c2] 34)).heap.size = w.heap.size + 1 by simp] at h1
  exact ⟨(DAt.start _ hd).below ((Below.refl _ _).alloc (Nat.le_refl _) _), h1, by omega⟩
/-- A shard stored as the result. -/
theorem sv_out {w W : World} {r : Nat} {S : Sh} {D : Sx} (hr : w.heap.size ≤ r) (hb : Below w.heap.size w W) (hn : D.nw (r + 1)) (hs : SR W W.heap.size S D) : SV w S (.returned (sv S D)) (set8s W r S D) :=
  ⟨D, rfl, hn.low (by omega), SR.sets (hn.off (Nat.lt_succ_self r)) (S.l8 D) 0 W hs, set8s_below hr hb S D⟩
end
set_option maxHeartbeats 8000000 in
set_option maxRecDepth 20000 in
theorem fshard_any (d : Dd) (X : Dx) (j : Int) (k : Nat) (w : World) (hd : DR w w.heap.size d X) (h1 : 1 ≤ k) (h2 : k ≤ 12) :
    Calls Tryz.prog 19 #[dv d X, .int .i64 j, .int .i64 (k : Int)] w (SV w (ffS d j k)) := by
  have H0 := Lib.hid (Fs12.start hd)
  have HSP := Lib.hid (fun p r W (k : Fs12 w p r d X W) => dspan_any d X j W k.da.dr)
  have HFR := Lib.hid (fun W => sfree_any k W h1 h2)
  obtain ⟨FF, hFF⟩ : ∃ FF, FF = ffS d j k := ⟨_, rfl⟩
  have HFF := Lib.hid (show FF = if spnB d j = true then neS (k : Int) (spnD d j).lo (spnD d j).hi else frS k from hFF)
  obtain ⟨S, hS⟩ : ∃ S, S = spnD d j := ⟨_, rfl⟩
  obtain ⟨b, hb0⟩ : ∃ b, b = spnB d j := ⟨_, rfl⟩
  have HNE := Lib.hid (fun W => snew_any (k : Int) S.lo S.hi W)
  rw [← hS, ← hb0] at HFF
  rw [← hFF]
  rw [← hS, ← hb0] at HSP
  obtain ⟨p, hp⟩ : ∃ p, p = w.heap.size := ⟨_, rfl⟩
  obtain ⟨r, hr⟩ : ∃ r, r = w.heap.size + 1 := ⟨_, rfl⟩
  have HPP := Lib.hid (And.intro hp hr)
  clear hFF hS hb0 hp hr hd h1 h2
  go_enter Tryz.func19, Tryz.ntmps19
  obtain ⟨⟨x0, x1, x2, xl⟩, -⟩ := H0.out.da.db.all
  go_wp2_with fail
  clear x0 x1 x2 xl
  rw [← HPP.out.2, ← HPP.out.1] at H0
  generalize (w.alloc (.cells #[.int .i64 d.vn, .slice X.A d.l.length X.c, .slice X.A2 d.F.length X.c2] 34)).alloc (.cells #[.bool false, .int .i64 0, .int .i64 0, .slice none 0 0, .int .i64 0, .int .i64 0, .slice none 0 0, .slice none 0 0] 54) = w2 at *
  rw [← HPP.out.2, ← HPP.out.1]
  refine (HSP.out _ _ _ H0.out).mono ?_
  rintro e w3 ⟨rfl, hb⟩
  have H1 := Lib.hid ((H0.out.below hb).below ((Below.refl _ _).alloc (Nat.le_refl _) (.cells #[.int .i64 S.lo, .int .i64 S.hi, .int .i64 S.sh] 91)))
  have HS1 := Lib.hid (SpB10.start w3 S 91)
  clear hb H0
  go_upto_region 2 with (fail)
  obtain ⟨s, hs⟩ : ∃ p, p = w3.heap.size := ⟨_, rfl⟩
  rw [← hs] at HS1 ⊢
  clear hs
  generalize w3.alloc (.cells #[.int .i64 S.lo, .int .i64 S.hi, .int .i64 S.sh] 91) = w4 at *
  cases b with
  | false =>
    have HFF2 := Lib.hid (HFF.out.trans (if_neg (by decide)))
    go_wp2_with fail
    skip
    refine (HFR.out _).mono ?_
    rintro e w5 ⟨D, rfl, hn, hr, hb⟩
    rw [← HFF2.out] at hr ⊢
    have HN := Lib.hid (hn.low (show r + 1 ≤ _ from H1.out.rb.lt))
    have HRZ := Lib.hid (show r < w5.heap.size from Nat.lt_of_lt_of_le H1.out.rb.lt hb.size)
    have HA := (Below.refl w5.heap.size w5).alloc (Nat.le_refl _) (.cells #[.bool FF.lv, .int .i64 FF.lo, .int .i64 FF.hi, .slice D.A FF.cs.length D.c, .int .i64 FF.hd, .int .i64 FF.sz, .slice D.A2 FF.l.length D.c2, .slice D.A3 FF.h.length D.c3] 54)
    have H2 := Lib.hid ((H1.out.below hb).below HA)
    have HB2 := Lib.hid (SB8.start w5 FF D 54)
    have HR2 := Lib.hid (hr.up HA)
    clear hn hr hb HA H1 HS1 HFF HFF2
    go_upto_region 4 with (fail)
    obtain ⟨z, hz⟩ : ∃ p, p = w5.heap.size := ⟨_, rfl⟩
    rw [← hz] at HB2 HRZ ⊢
    clear hz
    generalize w5.alloc (.cells #[.bool FF.lv, .int .i64 FF.lo, .int .i64 FF.hi, .slice D.A FF.cs.length D.c, .int .i64 FF.hd, .int .i64 FF.sz, .slice D.A2 FF.l.length D.c2, .slice D.A3 FF.h.length D.c3] 54) = w6 at *
    obtain ⟨c0, c1, c2, c3, c4, c5, c6, c7, cl⟩ := HB2.out.facts
    obtain ⟨r0, r1, r2, r3, r4, r5, r6, r7, rl⟩ := H2.out.rb.facts
    obtain ⟨f0, f1, f2, f3, f4, f5, f6, f7⟩ := H2.out.rb.free
    have n1 : ¬ z = r := by have := HRZ.out; omega
    have n2 : ¬ r = z := by have := HRZ.out; omega
    have HF := Lib.hid (sv_out H2.out.rn H2.out.da.bel HN.out HR2.out)
    go_wp2
    exact bodyPost_ret (v := sv FF D) (by simp only [results, Tryz.results19]; go_simp <;> rfl) rfl HF.out
  | true =>
    have HFF2 := Lib.hid (HFF.out.trans (if_pos rfl))
    obtain ⟨⟨c0, c1, c2⟩, cl⟩ := HS1.out
    go_wp2_with fail
    clear c0 c1 c2 cl
    refine (HNE.out _).mono ?_
    rintro e w5 ⟨D, rfl, hn, hr, hb⟩
    rw [← HFF2.out] at hr ⊢
    have HN := Lib.hid (hn.low (show r + 1 ≤ _ from H1.out.rb.lt))
    have HRZ := Lib.hid (show r < w5.heap.size from Nat.lt_of_lt_of_le H1.out.rb.lt hb.size)
    have HA := (Below.refl w5.heap.size w5).alloc (Nat.le_refl _) (.cells #[.bool FF.lv, .int .i64 FF.lo, .int .i64 FF.hi, .slice D.A FF.cs.length D.c, .int .i64 FF.hd, .int .i64 FF.sz, .slice D.A2 FF.l.length D.c2, .slice D.A3 FF.h.length D.c3] 54)
    have H2 := Lib.hid ((H1.out.below hb).below HA)
    have HB2 := Lib.hid (SB8.start w5 FF D 54)
    have HR2 := Lib.hid (hr.up HA)
    clear hn hr hb HA H1 HS1 HFF HFF2
    go_upto_region 6 with (fail)
    obtain ⟨z, hz⟩ : ∃ p, p = w5.heap.size := ⟨_, rfl⟩
    rw [← hz] at HB2 HRZ ⊢
    clear hz
    generalize w5.alloc (.cells #[.bool FF.lv, .int .i64 FF.lo, .int .i64 FF.hi, .slice D.A FF.cs.length D.c, .int .i64 FF.hd, .int .i64 FF.sz, .slice D.A2 FF.l.length D.c2, .slice D.A3 FF.h.length D.c3] 54) = w6 at *
    obtain ⟨c0, c1, c2, c3, c4, c5, c6, c7, cl⟩ := HB2.out.facts
    obtain ⟨r0, r1, r2, r3, r4, r5, r6, r7, rl⟩ := H2.out.rb.facts
    obtain ⟨f0, f1, f2, f3, f4, f5, f6, f7⟩ := H2.out.rb.free
    have n1 : ¬ z = r := by have := HRZ.out; omega
    have n2 : ¬ r = z := by have := HRZ.out; omega
    have HF := Lib.hid (sv_out H2.out.rn H2.out.da.bel HN.out HR2.out)
    go_wp2
    exact bodyPost_ret (v := sv FF D) (by simp only [results, Tryz.results19]; go_simp <;> rfl) rfl HF.out
end Go.Proofs.YtijpflljopckiaaGreat
