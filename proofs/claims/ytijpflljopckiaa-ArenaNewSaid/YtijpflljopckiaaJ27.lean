/- What is proved here: (plain) nothing old is turned by draws; ref10.Same of two directories of one content is true; agrees of shardqueuelaw10 says yes to every directory of few spans and every change; arena.firstShard by a contract; setups in memory; Setup of the statements' base makes a valid setup. -/
import Derived.Below
import Derived.WalkKit
import Derived.Deep.QuietTactic
import Derived.Test.YtijpflljopckiaaJ13
import Derived.Test.YtijpflljopckiaaRows
import Derived.Test.YtijpflljopckiaaJ02
import Derived.Outline
import Derived.IntWalk
import Derived.Deep.RegionHeld3
import Derived.Deep.DrawnRows
import Derived.Test.YtijpflljopckiaaJ26
import Derived.BigQuiet
import Derived.Test.YtijpflljopckiaaJ16
import Derived.Test.YtijpflljopckiaaJ17
import Derived.Deep.DeepCutAuto
namespace Go.Proofs.Ytijpflljopckiaa
open Go.RowKit
theorem bel_drewN {B : Nat} {a w : World} (h : Below B a w) (n : Nat) : Below B a (w.drewN n) := ⟨h.os, h.tape, h.output, h.size, h.block⟩
end Go.Proofs.Ytijpflljopckiaa
namespace Go.Proofs.Ytijpflljopckiaa
open Go.RowKit
set_option linter.unusedVariables false

/-- Two boxes of one directory, read only. -/
structure TwD (w : World) (p q : Nat) (d : Dd) (X Y : Dx) (W : World) : Prop where
  a : Db10 W p d X
  b : Db10 W q d Y
  ra : DR W W.heap.size d X
  rb : DR W W.heap.size d Y
  bel : Below w.heap.size w W
section
variable {w W W' : World} {p q : Nat} {d : Dd} {X Y : Dx}
theorem TwD.up (h : TwD w p q d X Y W) (hb : Below W.heap.size W W') : TwD w p q d X Y W' := ⟨h.a.up hb, h.b.up hb, h.ra.up hb, h.rb.up hb, h.bel.trans (hb.mono h.bel.size)⟩
theorem TwD.drewN (h : TwD w p q d X Y W) (k : Nat) : TwD w p q d X Y (W.drewN k) := h.up (bel_drewN (Below.refl _ _) k)
theorem TwD.start (w : World) (d : Dd) (X Y : Dx) (hx : DR w w.heap.size d X) (hy : DR w w.heap.size d Y) (t : TypeId) : TwD w w.heap.size (w.heap.size + 1) d X Y ((w.alloc (.cells #[.int .i64 d.vn, .slice X.A d.l.length X.c, .slice X.A2 d.F.length X.c2] t)).alloc (.cells #[.int .i64 d.vn, .slice Y.A d.l.length Y.c, .slice Y.A2 d.F.length Y.c2] t)) := by
  have hs : (w.alloc (.cells #[.int .i64 d.vn, .slice X.A d.l.length X.c, .slice X.A2 d.F.length X.c2] t)).heap.size = w.heap.size + 1 := by simp
  have h1 := Db10.start (w.alloc (.cells #[.int .i64 d.vn, .slice X.A d.l.length X.c, .slice X.A2 d.F.length X.c2] t)) d Y t
  rw [hs] at h1
  exact ⟨(Db10.start w d X t).alloc _, h1, (hx.alloc _).alloc _, (hy.alloc _).alloc _, ((Below.refl _ _).alloc (Nat.le_refl _) _).alloc (by simp) _⟩
end

set_option maxHeartbeats 4000000 in
set_option maxRecDepth 20000 in
theorem rsame10_yes (d : Dd) (X Y : Dx) (w : World) (hx : DR w w.heap.size d X) (hy : DR w w.heap.size d Y) :
    Calls Try.prog 55 #[dv d X, dv d Y] w fun e w' => e = .returned (.bool true) ∧ Below w.heap.size w w' := by
  have H0 := Lib.hid (TwD.start w d X Y hx hy 34)
  have hL : d.l.length ≤ 9223372036854775807 := by have h2 := hx.pl.len.2.2; have h1 := hx.pl.len.2.1; unfold maxLen at h2; omega
  have hF : d.F.length ≤ 9223372036854775807 := by have h2 := hx.fl.len.2.2; have h1 := hx.fl.len.2.1; unfold maxLen at h2; omega
  clear hx hy
  go_enter Try.func55, Try.ntmps55
  go_wp2
  obtain ⟨q, hq⟩ : ∃ q, q = w.heap.size + 1 := ⟨_, rfl⟩
  obtain ⟨p, hp⟩ : ∃ p, p = w.heap.size := ⟨_, rfl⟩
  rw [← hq, ← hp] at H0
  rw [← hq, ← hp]
  clear hq hp
  generalize (w.alloc (.cells #[.int .i64 d.vn, .slice X.A d.l.length X.c, .slice X.A2 d.F.length X.c2] 34)).alloc (.cells #[.int .i64 d.vn, .slice Y.A d.l.length Y.c, .slice Y.A2 d.F.length Y.c2] 34) = w2 at *
  go_loopw [5] (fun i wr => ∃ k : Nat, k ≤ d.l.length ∧ i = .int .i64 k ∧ Hid (TwD w p q d X Y wr)) (fun i _ => d.l.length - (intOf i).toNat)
  case atStart => exact ⟨0, by omega, rfl, H0⟩
  case round =>
    clear H0
    obtain ⟨k, hk, rfl, H1⟩ := hrel
    by_cases hlt : k < d.l.length
    · have hlt' : (k : Int) < (d.l.length : Int) := by omega
      have hw2 : IntKind.i64.wrap ((k : Int) + 1) = (k : Int) + 1 := IntWalk.i64_in _ (by omega)
      obtain ⟨b, o, hA, hbl, c0, c1, c2⟩ := H1.out.ra.pl.atg hlt
      obtain ⟨b', o', hA', hbl', d0, d1, d2⟩ := H1.out.rb.pl.atg hlt
      obtain ⟨⟨x0, x1, x2, xl⟩, -⟩ := H1.out.a.all
      obtain ⟨⟨y0, y1, y2, yl⟩, -⟩ := H1.out.b.all
      rw [hA] at x1
      rw [hA'] at y1
      have hne : ∀ W, (binOp .neq 115 (sg d.l k).v (sg d.l k).v).run Try.prog W = .ok (.bool false) W := fun W => by rw [neqsp]; simp
      clear hA hA' x0 x2 y0 y2
      generalize sg d.l k = M at *
      go_wp2
      go_quiet (fail)
      go_wp2
      go_roundw
      case rel => exact ⟨k + 1, by omega, by go_num, Lib.hid (H1.out.drewN _)⟩
      case measure => simp [intOf]; omega
    · have hke : k = d.l.length := by omega
      subst hke
      clear hlt hk
      obtain ⟨⟨x0, x1, x2, xl⟩, -⟩ := H1.out.a.all
      go_wp2
      generalize wr = w5 at *
      clear x0 x1 x2 xl
      go_loopw [6] (fun i wr => ∃ k : Nat, k ≤ d.F.length ∧ i = .int .i64 k ∧ Hid (TwD w p q d X Y wr)) (fun i _ => d.F.length - (intOf i).toNat)
      case atStart => exact ⟨0, by omega, rfl, H1⟩
      case round =>
        clear H1
        obtain ⟨k, hk, rfl, H2⟩ := hrel
        by_cases hlt : k < d.F.length
        · have hlt' : (k : Int) < (d.F.length : Int) := by omega
          have hw2 : IntKind.i64.wrap ((k : Int) + 1) = (k : Int) + 1 := IntWalk.i64_in _ (by omega)
          obtain ⟨b, o, hA, hbl, c0⟩ := H2.out.ra.fl.atg hlt
          obtain ⟨b', o', hA', hbl', d0⟩ := H2.out.rb.fl.atg hlt
          obtain ⟨⟨x0, x1, x2, xl⟩, -⟩ := H2.out.a.all
          obtain ⟨⟨y0, y1, y2, yl⟩, -⟩ := H2.out.b.all
          rw [hA] at x2
          rw [hA'] at y2
          clear hA hA' x0 x1 y0 y1
          generalize ig d.F k = M at *
          go_wp2
          go_quiet (fail)
          go_wp2
          go_roundw
          case rel => exact ⟨k + 1, by omega, by go_num, Lib.hid (H2.out.drewN _)⟩
          case measure => simp [intOf]; omega
        · obtain ⟨⟨x0, x1, x2, xl⟩, -⟩ := H2.out.a.all
          have hlt' : ¬ (k : Int) < (d.F.length : Int) := by omega
          have HB := Lib.hid H2.out.bel
          go_wp2
          go_ret
          exact ⟨rfl, HB.out⟩
end Go.Proofs.Ytijpflljopckiaa
namespace Go.Proofs.Ytijpflljopckiaa
open Go.RowKit
set_option linter.unusedVariables false

/-- Block r holds a span. -/
def SpB10 (W : World) (r : Nat) (s : Sp) : Prop := (W.cell? ⟨r, 0, none⟩ = some (.int .i64 s.lo) ∧ W.cell? ⟨r, 1, none⟩ = some (.int .i64 s.hi) ∧ W.cell? ⟨r, 2, none⟩ = some (.int .i64 s.sh)) ∧ r < W.heap.size
theorem SpB10.up {W W' : World} {r : Nat} {s : Sp} (h : SpB10 W r s) (hb : Below W.heap.size W W') : SpB10 W' r s :=
  ⟨⟨(hb.cell (p := ⟨r, 0, none⟩) h.2).trans h.1.1, (hb.cell (p := ⟨r, 1, none⟩) h.2).trans h.1.2.1, (hb.cell (p := ⟨r, 2, none⟩) h.2).trans h.1.2.2⟩, Nat.lt_of_lt_of_le h.2 hb.size⟩
theorem SpB10.start (w : World) (s : Sp) (t : TypeId) : SpB10 (w.alloc (.cells #[.int .i64 s.lo, .int .i64 s.hi, .int .i64 s.sh] t)) w.heap.size s :=
  ⟨⟨by simp [go_sem], by simp [go_sem], by simp [go_sem]⟩, by simp⟩
/-- Block p holds a directory, whose lists lie there. -/
structure Dh10 (W : World) (p : Nat) (d : Dd) (X : Dx) : Prop where
  db : Db10 W p d X
  dr : DR W W.heap.size d X
theorem Dh10.up {W W' : World} {p : Nat} {d : Dd} {X : Dx} (h : Dh10 W p d X) (hb : Below W.heap.size W W') : Dh10 W' p d X := ⟨h.db.up hb, h.dr.up hb⟩
theorem Dh10.start {W : World} {d : Dd} {X : Dx} (h : DR W W.heap.size d X) (t : TypeId) : Dh10 (W.alloc (.cells #[.int .i64 d.vn, .slice X.A d.l.length X.c, .slice X.A2 d.F.length X.c2] t)) W.heap.size d X := ⟨Db10.start W d X t, h.alloc _⟩
/-- A directory and a change in boxes. -/
structure Ah10 (w : World) (p q : Nat) (d : Dd) (X : Dx) (e : Ed) (W : World) : Prop where
  da : DAt w p d X W
  eb : EB W q e
section
variable {w W W' : World} {p q : Nat} {d : Dd} {X : Dx} {e : Ed}
theorem Ah10.below (h : Ah10 w p q d X e W) (hb : Below W.heap.size W W') : Ah10 w p q d X e W' := ⟨h.da.below hb, h.eb.up hb⟩
end
/-- .. and the results of both sides. -/
structure Ai10 (w : World) (p q r1 r2 r3 r4 : Nat) (d : Dd) (X : Dx) (e : Ed) (D : Dd) (Y Z : Dx) (S : Sp) (W : World) : Prop where
  ah : Ah10 w p q d X e W
  a : Dh10 W r1 D Y
  b : Dh10 W r2 D Z
  s : SpB10 W r3 S
  t : SpB10 W r4 S
/-- The cells that the law's last row loads. -/
abbrev C10 (p r1 r2 r3 r4 : Nat) (d : Dd) (X : Dx) (D : Dd) (Y Z : Dx) (S : Sp) (W : World) : Prop :=
  (W.cell? ⟨p, 0, none⟩ = some (.int .i64 d.vn) ∧ W.cell? ⟨p, 1, none⟩ = some (.slice X.A d.l.length X.c) ∧ W.cell? ⟨p, 2, none⟩ = some (.slice X.A2 d.F.length X.c2)) ∧
  (W.cell? ⟨r1, 0, none⟩ = some (.int .i64 D.vn) ∧ W.cell? ⟨r1, 1, none⟩ = some (.slice Y.A D.l.length Y.c) ∧ W.cell? ⟨r1, 2, none⟩ = some (.slice Y.A2 D.F.length Y.c2)) ∧
  (W.cell? ⟨r2, 0, none⟩ = some (.int .i64 D.vn) ∧ W.cell? ⟨r2, 1, none⟩ = some (.slice Z.A D.l.length Z.c) ∧ W.cell? ⟨r2, 2, none⟩ = some (.slice Z.A2 D.F.length Z.c2)) ∧
  (W.cell? ⟨r3, 0, none⟩ = some (.int .i64 S.lo) ∧ W.cell? ⟨r3, 1, none⟩ = some (.int .i64 S.hi) ∧ W.cell? ⟨r3, 2, none⟩ = some (.int .i64 S.sh)) ∧
  (W.cell? ⟨r4, 0, none⟩ = some (.int .i64 S.lo) ∧ W.cell? ⟨r4, 1, none⟩ = some (.int .i64 S.hi) ∧ W.cell? ⟨r4, 2, none⟩ = some (.int .i64 S.sh))
section
variable {w W W' : World} {p q r1 r2 r3 r4 : Nat} {d D : Dd} {X Y Z : Dx} {e : Ed} {S : Sp}
theorem Ai10.below (h : Ai10 w p q r1 r2 r3 r4 d X e D Y Z S W) (hb : Below W.heap.size W W') : Ai10 w p q r1 r2 r3 r4 d X e D Y Z S W' := ⟨h.ah.below hb, h.a.up hb, h.b.up hb, h.s.up hb, h.t.up hb⟩
theorem Ai10.drew (h : Ai10 w p q r1 r2 r3 r4 d X e D Y Z S W) : Ai10 w p q r1 r2 r3 r4 d X e D Y Z S W.drew := h.below (Below.refl _ _).drew
theorem Ai10.c (h : Ai10 w p q r1 r2 r3 r4 d X e D Y Z S W) : C10 p r1 r2 r3 r4 d X D Y Z S W := ⟨⟨h.ah.da.db.c0, h.ah.da.db.c1, h.ah.da.db.c2⟩, ⟨h.a.db.c0, h.a.db.c1, h.a.db.c2⟩, ⟨h.b.db.c0, h.b.db.c1, h.b.db.c2⟩, h.s.1, h.t.1⟩
end
end Go.Proofs.Ytijpflljopckiaa
namespace Go.Proofs.Ytijpflljopckiaa
open Go.RowKit
set_option linter.unusedVariables false

/-- The first shard of a slot. -/
noncomputable def ffS (d : Dd) (j : Int) (k : Nat) : Sh := if spnB d j = true then neS (k : Int) (spnD d j).lo (spnD d j).hi else frS k
/-- A directory's box, a result box of a shard. -/
structure Fs12 (w : World) (p r : Nat) (d : Dd) (X : Dx) (W : World) : Prop where
  da : DAt w p d X W
  rb : SB8 W r zS zX
  rn : w.heap.size ≤ r
section
variable {w W W' : World} {p r : Nat} {d : Dd} {X : Dx}
theorem Fs12.below (h : Fs12 w p r d X W) (hb : Below W.heap.size W W') : Fs12 w p r d X W' := ⟨h.da.below hb, h.rb.up hb, h.rn⟩
theorem Fs12.start (hd : DR w w.heap.size d X) : Fs12 w w.heap.size (w.heap.size + 1) d X ((w.alloc (.cells #[.int .i64 d.vn, .slice X.A d.l.length X.c, .slice X.A2 d.F.length X.c2] 34)).alloc (.cells #[.bool false, .int .i64 0, .int .i64 0, .slice none 0 0, .int .i64 0, .int .i64 0, .slice none 0 0, .slice none 0 0] 85)) := by
  have h1 := SB8.zero (w.alloc (.cells #[.int .i64 d.vn, .slice X.A d.l.length X.c, .slice X.A2 d.F.length X.c2] 34)) 85
  rw [show (w.alloc (.cells #[.int .i64 d.vn, .slice X.A d.l.length X.c, .slice X.A2 d.F.length X.c2] 34)).heap.size = w.heap.size + 1 by simp] at h1
  exact ⟨(DAt.start _ hd).below ((Below.refl _ _).alloc (Nat.le_refl _) _), h1, by omega⟩
/-- A shard stored as the result. -/
theorem sv_out {w W : World} {r : Nat} {S : Sh} {D : Sx} (hr : w.heap.size ≤ r) (hb : Below w.heap.size w W) (hn : D.nw (r + 1)) (hs : SR W W.heap.size S D) : SV w S (.returned (sv S D)) (set8s W r S D) :=
  ⟨D, rfl, hn.low (by omega), SR.sets (hn.off (Nat.lt_succ_self r)) (S.l8 D) 0 W hs, set8s_below hr hb S D⟩
end
set_option maxHeartbeats 8000000 in
set_option maxRecDepth 20000 in
theorem fshard_any (d : Dd) (X : Dx) (j : Int) (k : Nat) (w : World) (hd : DR w w.heap.size d X) (h1 : 1 ≤ k) (h2 : k ≤ 12) :
    Calls Try.prog 35 #[dv d X, .int .i64 j, .int .i64 (k : Int)] w (SV w (ffS d j k)) := by
  have H0 := Lib.hid (Fs12.start hd)
  have HSP := Lib.hid (fun p r W (k : Fs12 w p r d X W) => dspan_any d X j W k.da.dr)
  have HFR := Lib.hid (fun W => sfree_any k W h1 h2)
  obtain ⟨FF, hFF⟩ : ∃ FF, FF = ffS d j k := ⟨_, rfl⟩
  have HFF := Lib.hid (show FF = if spnB d j = true then neS (k : Int) (spnD d j).lo (spnD d j).hi else frS k from hFF)
  obtain ⟨S, hS⟩ : ∃ S, S = spnD d j := ⟨_, rfl⟩
  obtain ⟨b, hb0⟩ : ∃ b, b = spnB d j := ⟨_, rfl⟩
  have HNE := Lib.hid (fun W => snew_any (k : Int) S.lo S.hi W)
  rw [← hS, ← hb0] at HFF
  rw [← hFF]
  rw [← hS, ← hb0] at HSP
  obtain ⟨p, hp⟩ : ∃ p, p = w.heap.size := ⟨_, rfl⟩
  obtain ⟨r, hr⟩ : ∃ r, r = w.heap.size + 1 := ⟨_, rfl⟩
  have HPP := Lib.hid (And.intro hp hr)
  clear hFF hS hb0 hp hr hd h1 h2
  go_enter Try.func35, Try.ntmps35
  obtain ⟨⟨x0, x1, x2, xl⟩, -⟩ := H0.out.da.db.all
  go_wp2_with fail
  clear x0 x1 x2 xl
  rw [← HPP.out.2, ← HPP.out.1] at H0
  generalize (w.alloc (.cells #[.int .i64 d.vn, .slice X.A d.l.length X.c, .slice X.A2 d.F.length X.c2] 34)).alloc (.cells #[.bool false, .int .i64 0, .int .i64 0, .slice none 0 0, .int .i64 0, .int .i64 0, .slice none 0 0, .slice none 0 0] 85) = w2 at *
  rw [← HPP.out.2, ← HPP.out.1]
  refine (HSP.out _ _ _ H0.out).mono ?_
  rintro e w3 ⟨rfl, hb⟩
  have H1 := Lib.hid ((H0.out.below hb).below ((Below.refl _ _).alloc (Nat.le_refl _) (.cells #[.int .i64 S.lo, .int .i64 S.hi, .int .i64 S.sh] 115)))
  have HS1 := Lib.hid (SpB10.start w3 S 115)
  clear hb H0
  go_upto_region 2 with (fail)
  obtain ⟨s, hs⟩ : ∃ p, p = w3.heap.size := ⟨_, rfl⟩
  rw [← hs] at HS1 ⊢
  clear hs
  generalize w3.alloc (.cells #[.int .i64 S.lo, .int .i64 S.hi, .int .i64 S.sh] 115) = w4 at *
  cases b with
  | false =>
    have HFF2 := Lib.hid (HFF.out.trans (if_neg (by decide)))
    go_wp2_with fail
    skip
    refine (HFR.out _).mono ?_
    rintro e w5 ⟨D, rfl, hn, hr, hb⟩
    rw [← HFF2.out] at hr ⊢
    have HN := Lib.hid (hn.low (show r + 1 ≤ _ from H1.out.rb.lt))
    have HRZ := Lib.hid (show r < w5.heap.size from Nat.lt_of_lt_of_le H1.out.rb.lt hb.size)
    have HA := (Below.refl w5.heap.size w5).alloc (Nat.le_refl _) (.cells #[.bool FF.lv, .int .i64 FF.lo, .int .i64 FF.hi, .slice D.A FF.cs.length D.c, .int .i64 FF.hd, .int .i64 FF.sz, .slice D.A2 FF.l.length D.c2, .slice D.A3 FF.h.length D.c3] 85)
    have H2 := Lib.hid ((H1.out.below hb).below HA)
    have HB2 := Lib.hid (SB8.start w5 FF D 85)
    have HR2 := Lib.hid (hr.up HA)
    clear hn hr hb HA H1 HS1 HFF HFF2
    go_upto_region 4 with (fail)
    obtain ⟨z, hz⟩ : ∃ p, p = w5.heap.size := ⟨_, rfl⟩
    rw [← hz] at HB2 HRZ ⊢
    clear hz
    generalize w5.alloc (.cells #[.bool FF.lv, .int .i64 FF.lo, .int .i64 FF.hi, .slice D.A FF.cs.length D.c, .int .i64 FF.hd, .int .i64 FF.sz, .slice D.A2 FF.l.length D.c2, .slice D.A3 FF.h.length D.c3] 85) = w6 at *
    obtain ⟨c0, c1, c2, c3, c4, c5, c6, c7, cl⟩ := HB2.out.facts
    obtain ⟨r0, r1, r2, r3, r4, r5, r6, r7, rl⟩ := H2.out.rb.facts
    obtain ⟨f0, f1, f2, f3, f4, f5, f6, f7⟩ := H2.out.rb.free
    have n1 : ¬ z = r := by have := HRZ.out; omega
    have n2 : ¬ r = z := by have := HRZ.out; omega
    have HF := Lib.hid (sv_out H2.out.rn H2.out.da.bel HN.out HR2.out)
    go_wp2
    exact bodyPost_ret (v := sv FF D) (by simp only [results, Try.results35]; go_simp <;> rfl) rfl HF.out
  | true =>
    have HFF2 := Lib.hid (HFF.out.trans (if_pos rfl))
    obtain ⟨⟨c0, c1, c2⟩, cl⟩ := HS1.out
    go_wp2_with fail
    clear c0 c1 c2 cl
    refine (HNE.out _).mono ?_
    rintro e w5 ⟨D, rfl, hn, hr, hb⟩
    rw [← HFF2.out] at hr ⊢
    have HN := Lib.hid (hn.low (show r + 1 ≤ _ from H1.out.rb.lt))
    have HRZ := Lib.hid (show r < w5.heap.size from Nat.lt_of_lt_of_le H1.out.rb.lt hb.size)
    have HA := (Below.refl w5.heap.size w5).alloc (Nat.le_refl _) (.cells #[.bool FF.lv, .int .i64 FF.lo, .int .i64 FF.hi, .slice D.A FF.cs.length D.c, .int .i64 FF.hd, .int .i64 FF.sz, .slice D.A2 FF.l.length D.c2, .slice D.A3 FF.h.length D.c3] 85)
    have H2 := Lib.hid ((H1.out.below hb).below HA)
    have HB2 := Lib.hid (SB8.start w5 FF D 85)
    have HR2 := Lib.hid (hr.up HA)
    clear hn hr hb HA H1 HS1 HFF HFF2
    go_upto_region 6 with (fail)
    obtain ⟨z, hz⟩ : ∃ p, p = w5.heap.size := ⟨_, rfl⟩
    rw [← hz] at HB2 HRZ ⊢
    clear hz
    generalize w5.alloc (.cells #[.bool FF.lv, .int .i64 FF.lo, .int .i64 FF.hi, .slice D.A FF.cs.length D.c, .int .i64 FF.hd, .int .i64 FF.sz, .slice D.A2 FF.l.length D.c2, .slice D.A3 FF.h.length D.c3] 85) = w6 at *
    obtain ⟨c0, c1, c2, c3, c4, c5, c6, c7, cl⟩ := HB2.out.facts
    obtain ⟨r0, r1, r2, r3, r4, r5, r6, r7, rl⟩ := H2.out.rb.facts
    obtain ⟨f0, f1, f2, f3, f4, f5, f6, f7⟩ := H2.out.rb.free
    have n1 : ¬ z = r := by have := HRZ.out; omega
    have n2 : ¬ r = z := by have := HRZ.out; omega
    have HF := Lib.hid (sv_out H2.out.rn H2.out.da.bel HN.out HR2.out)
    go_wp2
    exact bodyPost_ret (v := sv FF D) (by simp only [results, Try.results35]; go_simp <;> rfl) rfl HF.out
end Go.Proofs.Ytijpflljopckiaa
namespace Go.Proofs.Ytijpflljopckiaa
open Go.RowKit
set_option linter.unusedVariables false

/-- A setup. -/
structure Su where
  sl : Int
  lv : Int
  cp : Int
  dd : Int
  lm : Int
  ck : Int
  ni : Int
  ep : Int
def zSu : Su := ⟨0, 0, 0, 0, 0, 0, 0, 0⟩
abbrev Su.v (s : Su) : Value := .agg #[.int .i64 s.sl, .int .i64 s.lv, .int .i64 s.cp, .int .i64 s.dd, .int .i64 s.lm, .int .i64 s.ck, .int .i64 s.ni, .int .i64 s.ep]
/-- Its numbers are in their ranges. -/
def Su.Ok (s : Su) : Prop := (1 ≤ s.sl ∧ s.sl ≤ 6) ∧ (1 ≤ s.lv ∧ s.lv ≤ s.sl) ∧ (1 ≤ s.cp ∧ s.cp ≤ 12) ∧ (1 ≤ s.dd ∧ s.dd ≤ 24) ∧ (1 ≤ s.lm ∧ s.lm ≤ 8) ∧ (0 ≤ s.ck ∧ s.ck ≤ 1073741824) ∧ (1 ≤ s.ni ∧ s.ni ≤ 1073741824) ∧ (0 ≤ s.ep ∧ s.ep ≤ 65536)
instance (s : Su) : Decidable s.Ok := by unfold Su.Ok; infer_instance
/-- Block p holds a setup, and may be written. -/
abbrev KSu (p : Nat) (s : Su) (W : World) : Prop := W.cell? ⟨p, 0, none⟩ = some (.int .i64 s.sl) ∧ W.cell? ⟨p, 1, none⟩ = some (.int .i64 s.lv) ∧ W.cell? ⟨p, 2, none⟩ = some (.int .i64 s.cp) ∧ W.cell? ⟨p, 3, none⟩ = some (.int .i64 s.dd) ∧ W.cell? ⟨p, 4, none⟩ = some (.int .i64 s.lm) ∧ W.cell? ⟨p, 5, none⟩ = some (.int .i64 s.ck) ∧ W.cell? ⟨p, 6, none⟩ = some (.int .i64 s.ni) ∧ W.cell? ⟨p, 7, none⟩ = some (.int .i64 s.ep)
structure SuB (W : World) (p : Nat) (s : Su) : Prop where
  k : KSu p s W
  fr : ∀ o, W.frozen? ⟨p, o, none⟩ = false
  lt : p < W.heap.size
section
variable {W W' : World} {p g : Nat} {s : Su}
theorem SuB.keep (h : SuB W p s) (hc : ∀ o, W'.cell? ⟨p, o, none⟩ = W.cell? ⟨p, o, none⟩) (hf : ∀ o, W'.frozen? ⟨p, o, none⟩ = W.frozen? ⟨p, o, none⟩) (hs : W.heap.size ≤ W'.heap.size) : SuB W' p s := by
  obtain ⟨⟨k0, k1, k2, k3, k4, k5, k6, k7⟩, fr, lt⟩ := h
  exact ⟨⟨(hc 0).trans k0, (hc 1).trans k1, (hc 2).trans k2, (hc 3).trans k3, (hc 4).trans k4, (hc 5).trans k5, (hc 6).trans k6, (hc 7).trans k7⟩, fun o => (hf o).trans (fr o), Nat.lt_of_lt_of_le lt hs⟩
theorem SuB.up (h : SuB W p s) (hb : Below W.heap.size W W') : SuB W' p s := h.keep (fun o => hb.cell (p := ⟨p, o, none⟩) h.lt) (fun o => hb.frozen (p := ⟨p, o, none⟩) h.lt) hb.size
theorem SuB.alloc (h : SuB W p s) (o : Obj) : SuB (W.alloc o) p s := h.up ((Below.refl _ _).alloc (Nat.le_refl _) o)
theorem SuB.other (h : SuB W p s) {x : Addr} (hne : x.block ≠ p) (v : Value) : SuB (W.setCell x v) p s :=
  h.keep (fun o => World.cell?_setCell_other W x ⟨p, o, none⟩ v (fun e => hne (by rw [e]))) (fun o => by simp [go_sem]) (by simp)
theorem SuB.grown (h : SuB W p s) (hg : W.grownBy W' (some g)) (hne : p ≠ g) : SuB W' p s := h.keep (fun o => hg.cell_far ⟨p, o, none⟩ h.lt (fun e => by injection e with e; exact hne e)) (fun o => hg.frozen_far ⟨p, o, none⟩ h.lt (fun e => by injection e with e; exact hne e)) hg.size
theorem SuB.start (w : World) (s : Su) (t : TypeId) : SuB (w.alloc (.cells #[.int .i64 s.sl, .int .i64 s.lv, .int .i64 s.cp, .int .i64 s.dd, .int .i64 s.lm, .int .i64 s.ck, .int .i64 s.ni, .int .i64 s.ep] t)) w.heap.size s :=
  ⟨⟨by simp [go_sem], by simp [go_sem], by simp [go_sem], by simp [go_sem], by simp [go_sem], by simp [go_sem], by simp [go_sem], by simp [go_sem]⟩, fun o => by simp [go_sem], by simp⟩
theorem SuB.free (h : SuB W p s) : W.frozen? ⟨p, 0, none⟩ = false ∧ W.frozen? ⟨p, 1, none⟩ = false ∧ W.frozen? ⟨p, 2, none⟩ = false ∧ W.frozen? ⟨p, 3, none⟩ = false ∧ W.frozen? ⟨p, 4, none⟩ = false ∧ W.frozen? ⟨p, 5, none⟩ = false ∧ W.frozen? ⟨p, 6, none⟩ = false ∧ W.frozen? ⟨p, 7, none⟩ = false := ⟨h.fr 0, h.fr 1, h.fr 2, h.fr 3, h.fr 4, h.fr 5, h.fr 6, h.fr 7⟩
end
/-- The eight stores. -/
abbrev setS8 (W : World) (r : Nat) (s : Su) : World := (((((((W.setCell ⟨r, 0, none⟩ (.int .i64 s.sl)).setCell ⟨r, 1, none⟩ (.int .i64 s.lv)).setCell ⟨r, 2, none⟩ (.int .i64 s.cp)).setCell ⟨r, 3, none⟩ (.int .i64 s.dd)).setCell ⟨r, 4, none⟩ (.int .i64 s.lm)).setCell ⟨r, 5, none⟩ (.int .i64 s.ck)).setCell ⟨r, 6, none⟩ (.int .i64 s.ni)).setCell ⟨r, 7, none⟩ (.int .i64 s.ep)
/-- A source turned and a valid setup as a result: few slots, small capacities. -/
def SrSetup (B g : Nat) (w : World) (e : Ending) (w' : World) : Prop := ∃ s : Su, e = .returned s.v ∧ s.Ok ∧ SrcAt w' B g ∧ w.grownBy w' (some g)
/-- A source, the result's box, the setup's box. -/
structure SuAt (w : World) (B g r k : Nat) (s : Su) (W : World) : Prop where
  src : SrcAt W B g
  rb : SuB W r zSu
  kb : SuB W k s
  gr : w.grownBy W (some g)
  ne : g < w.heap.size ∧ w.heap.size ≤ r ∧ r < k
section
variable {w W W' : World} {B g r k : Nat} {s : Su}
theorem SuAt.turn (h : SuAt w B g r k s W) (hs : SrcAt W' B g) (hg : W.grownBy W' (some g)) : SuAt w B g r k s W' :=
  ⟨hs, h.rb.grown hg (by have := h.ne; omega), h.kb.grown hg (by have := h.ne; omega), h.gr.trans hg, h.ne⟩
theorem SuAt.put (h : SuAt w B g r k s W) {j : Nat} {x : Int} {s' : Su} (hk : SuB (W.setCell ⟨k, j, none⟩ (.int .i64 x)) k s') : SuAt w B g r k s' (W.setCell ⟨k, j, none⟩ (.int .i64 x)) := by
  have hn := h.ne
  have hB := h.src.1
  exact ⟨h.src.other (p := ⟨k, j, none⟩) (show k ≠ g by omega) (show B ≤ k by omega) _, h.rb.other (x := ⟨k, j, none⟩) (show k ≠ r by omega) _, hk, only_set h.gr (p := ⟨k, j, none⟩) (.inr (show w.heap.size ≤ k by omega)) _, h.ne⟩
theorem SuB.p1 (h : SuB W k s) (x : Int) : SuB (W.setCell ⟨k, 1, none⟩ (.int .i64 x)) k ⟨s.sl, x, s.cp, s.dd, s.lm, s.ck, s.ni, s.ep⟩ := by
  obtain ⟨⟨k0, k1, k2, k3, k4, k5, k6, k7⟩, fr, lt⟩ := h
  exact ⟨⟨by simp [go_sem, k0], by simp [go_sem, k1], by simp [go_sem, k2], by simp [go_sem, k3], by simp [go_sem, k4], by simp [go_sem, k5], by simp [go_sem, k6], by simp [go_sem, k7]⟩, fun o => by simp [go_sem, fr o], by simp [lt]⟩
theorem SuB.p5 (h : SuB W k s) (x : Int) : SuB (W.setCell ⟨k, 5, none⟩ (.int .i64 x)) k ⟨s.sl, s.lv, s.cp, s.dd, s.lm, x, s.ni, s.ep⟩ := by
  obtain ⟨⟨k0, k1, k2, k3, k4, k5, k6, k7⟩, fr, lt⟩ := h
  exact ⟨⟨by simp [go_sem, k0], by simp [go_sem, k1], by simp [go_sem, k2], by simp [go_sem, k3], by simp [go_sem, k4], by simp [go_sem, k5], by simp [go_sem, k6], by simp [go_sem, k7]⟩, fun o => by simp [go_sem, fr o], by simp [lt]⟩
theorem SuB.p6 (h : SuB W k s) (x : Int) : SuB (W.setCell ⟨k, 6, none⟩ (.int .i64 x)) k ⟨s.sl, s.lv, s.cp, s.dd, s.lm, s.ck, x, s.ep⟩ := by
  obtain ⟨⟨k0, k1, k2, k3, k4, k5, k6, k7⟩, fr, lt⟩ := h
  exact ⟨⟨by simp [go_sem, k0], by simp [go_sem, k1], by simp [go_sem, k2], by simp [go_sem, k3], by simp [go_sem, k4], by simp [go_sem, k5], by simp [go_sem, k6], by simp [go_sem, k7]⟩, fun o => by simp [go_sem, fr o], by simp [lt]⟩
theorem SuB.p7 (h : SuB W k s) (x : Int) : SuB (W.setCell ⟨k, 7, none⟩ (.int .i64 x)) k ⟨s.sl, s.lv, s.cp, s.dd, s.lm, s.ck, s.ni, x⟩ := by
  obtain ⟨⟨k0, k1, k2, k3, k4, k5, k6, k7⟩, fr, lt⟩ := h
  exact ⟨⟨by simp [go_sem, k0], by simp [go_sem, k1], by simp [go_sem, k2], by simp [go_sem, k3], by simp [go_sem, k4], by simp [go_sem, k5], by simp [go_sem, k6], by simp [go_sem, k7]⟩, fun o => by simp [go_sem, fr o], by simp [lt]⟩
theorem SuAt.out (h : SuAt w B g r k s W) (ho : s.Ok) : SrSetup B g w (.returned s.v) (setS8 W r s) := by
  have hn := h.ne
  have hB : B ≤ r := by have := h.src.1; omega
  have hg : r ≠ g := by omega
  exact ⟨s, rfl, ho, (((((((h.src.other (p := ⟨r, 0, none⟩) hg hB _).other (p := ⟨r, 1, none⟩) hg hB _).other (p := ⟨r, 2, none⟩) hg hB _).other (p := ⟨r, 3, none⟩) hg hB _).other (p := ⟨r, 4, none⟩) hg hB _).other (p := ⟨r, 5, none⟩) hg hB _).other (p := ⟨r, 6, none⟩) hg hB _).other (p := ⟨r, 7, none⟩) hg hB _,
    only_set (only_set (only_set (only_set (only_set (only_set (only_set (only_set h.gr (p := ⟨r, 0, none⟩) (.inr hn.2.1) _) (p := ⟨r, 1, none⟩) (.inr hn.2.1) _) (p := ⟨r, 2, none⟩) (.inr hn.2.1) _) (p := ⟨r, 3, none⟩) (.inr hn.2.1) _) (p := ⟨r, 4, none⟩) (.inr hn.2.1) _) (p := ⟨r, 5, none⟩) (.inr hn.2.1) _) (p := ⟨r, 6, none⟩) (.inr hn.2.1) _) (p := ⟨r, 7, none⟩) (.inr hn.2.1) _⟩
end
set_option maxHeartbeats 8000000 in
set_option maxRecDepth 20000 in
theorem setup_any (B g : Nat) (w : World) (h : SrcAt w B g) : Calls Try.prog 16 #[.pointer (some ⟨g, 0, none⟩)] w (SrSetup B g w) := by
  have HGW := Lib.hid (show g < w.heap.size from h.2.1)
  have HR0 := Lib.hid (SuB.start w zSu 41)
  have HS0 := Lib.hid (h.alloc (.cells #[.int .i64 0, .int .i64 0, .int .i64 0, .int .i64 0, .int .i64 0, .int .i64 0, .int .i64 0, .int .i64 0] 41))
  have HG0 := Lib.hid (only_alloc (World.grownBy.refl w (some g)) (.cells #[.int .i64 0, .int .i64 0, .int .i64 0, .int .i64 0, .int .i64 0, .int .i64 0, .int .i64 0, .int .i64 0] 41))
  obtain ⟨r, hr⟩ : ∃ r, r = w.heap.size := ⟨_, rfl⟩
  have HRG := Lib.hid (show w.heap.size ≤ r ∧ r ≠ g by have := h.2.1; omega)
  have HR0 := Lib.hid (show SuB (w.alloc (.cells #[.int .i64 0, .int .i64 0, .int .i64 0, .int .i64 0, .int .i64 0, .int .i64 0, .int .i64 0, .int .i64 0] 41)) r zSu by rw [hr]; exact HR0.out)
  clear h
  go_enter Try.func16, Try.ntmps16
  go_wp2_with fail
  rw [← hr]
  generalize w.alloc (.cells #[.int .i64 0, .int .i64 0, .int .i64 0, .int .i64 0, .int .i64 0, .int .i64 0, .int .i64 0, .int .i64 0] 41) = w1 at *
  clear hr
  refine (range_any B g _ HS0.out 1 4 (by omega) (by omega) (by omega)).mono ?_
  rintro e w2 ⟨a, rfl, a1, a2, hs, hg⟩
  have HA := Lib.hid (And.intro a1 a2)
  have HS2 := Lib.hid hs
  have HG2 := Lib.hid (HG0.out.trans hg)
  have HR2 := Lib.hid (HR0.out.grown hg HRG.out.2)
  clear hs hg a1 a2 HS0 HG0 HR0
  go_wp2_with fail
  refine (range_any B g _ HS2.out 1 5 (by omega) (by omega) (by omega)).mono ?_
  rintro e w3 ⟨b, rfl, b1, b2, hs, hg⟩
  have HB := Lib.hid (And.intro b1 b2)
  have HS3 := Lib.hid hs
  have HG3 := Lib.hid (HG2.out.trans hg)
  have HR3 := Lib.hid (HR2.out.grown hg HRG.out.2)
  clear hs hg b1 b2 HS2 HG2 HR2
  go_wp2_with fail
  refine (range_any B g _ HS3.out 1 4 (by omega) (by omega) (by omega)).mono ?_
  rintro e w4 ⟨c, rfl, c1, c2, hs, hg⟩
  have HC := Lib.hid (And.intro c1 c2)
  have HS4 := Lib.hid hs
  have HG4 := Lib.hid (HG3.out.trans hg)
  have HR4 := Lib.hid (HR3.out.grown hg HRG.out.2)
  clear hs hg c1 c2 HS3 HG3 HR3
  go_wp2_with fail
  refine (range_any B g _ HS4.out 1 3 (by omega) (by omega) (by omega)).mono ?_
  rintro e w5 ⟨d, rfl, d1, d2, hs, hg⟩
  have HT0 := Lib.hid (show SuAt w B g r w5.heap.size ⟨a, 0, b, c, d, 0, 1, 0⟩ (w5.alloc (.cells #[.int .i64 a, .int .i64 0, .int .i64 b, .int .i64 c, .int .i64 d, .int .i64 0, .int .i64 1, .int .i64 0] 41)) from
    ⟨hs.alloc _, (HR4.out.grown hg HRG.out.2).alloc _, SuB.start w5 ⟨a, 0, b, c, d, 0, 1, 0⟩ _, only_alloc (HG4.out.trans hg) _, HGW.out, HRG.out.1, (HR4.out.grown hg HRG.out.2).lt⟩)
  have HOK := Lib.hid (show (1 ≤ a ∧ a ≤ 4) ∧ (1 ≤ b ∧ b ≤ 5) ∧ (1 ≤ c ∧ c ≤ 4) ∧ (1 ≤ d ∧ d ≤ 3) from ⟨HA.out, HB.out, HC.out, d1, d2⟩)
  clear hs hg d1 d2 HS4 HG4 HR4 HA HB HC
  go_upto_region 2 with (fail)
  obtain ⟨k, hk⟩ : ∃ k, k = w5.heap.size := ⟨_, rfl⟩
  rw [← hk] at HT0 ⊢
  clear hk
  generalize w5.alloc (.cells #[.int .i64 a, .int .i64 0, .int .i64 b, .int .i64 c, .int .i64 d, .int .i64 0, .int .i64 1, .int .i64 0] 41) = w6 at *
  obtain ⟨k0, k1, k2, k3, k4, k5, k6, k7⟩ := HT0.out.kb.k
  have kl := HT0.out.kb.lt
  go_wp2_with fail
  clear k0 k1 k2 k3 k4 k5 k6 k7 kl
  refine (range_any B g _ HT0.out.src 1 a (by omega) HOK.out.1.1 (by have := HOK.out; omega)).mono ?_
  rintro e w7 ⟨m, rfl, m1, m2, hs, hg⟩
  have HM := Lib.hid (And.intro m1 m2)
  have HT1 := Lib.hid (HT0.out.turn hs hg)
  clear hs hg m1 m2 HT0
  have HT2 := Lib.hid (HT1.out.put (HT1.out.kb.p1 m))
  obtain ⟨k0, k1, k2, k3, k4, k5, k6, k7⟩ := HT1.out.kb.k
  obtain ⟨f0, f1, f2, f3, f4, f5, f6, f7⟩ := HT1.out.kb.free
  have kl := HT1.out.kb.lt
  go_upto_region 3 with (fail)
  clear k0 k1 k2 k3 k4 k5 k6 k7 kl f0 f1 f2 f3 f4 f5 f6 f7 HT1
  generalize w7.setCell ⟨k, 1, none⟩ (.int .i64 m) = w8 at *
  go_wp2_with fail
  refine (n_any B g _ HT2.out.src 12 (by omega) (by omega)).mono ?_
  rintro e w9 ⟨v, rfl, v0, v1, hs, hg⟩
  have HT := Lib.hid (HT2.out.turn hs hg)
  clear hs hg HT2
  have hrk := HT.out.ne
  by_cases h9 : v = 9
  · subst h9
    go_wp2_with fail
    refine (n_any B g _ HT.out.src 200 (by omega) (by omega)).mono ?_
    rintro e w10 ⟨x, rfl, x0, x1, hs, hg⟩
    have HX := Lib.hid (And.intro x0 x1)
    have HT3 := Lib.hid (HT.out.turn hs hg)
    have hwx : IntKind.i64.wrap (1073741824 - x) = 1073741824 - x := IntWalk.i64_in _ (by omega)
    have HT4 := Lib.hid (HT3.out.put (HT3.out.kb.p5 (1073741824 - x)))
    clear hs hg x0 x1 HT
    obtain ⟨k0, k1, k2, k3, k4, k5, k6, k7⟩ := HT3.out.kb.k
    obtain ⟨f0, f1, f2, f3, f4, f5, f6, f7⟩ := HT3.out.kb.free
    have kl := HT3.out.kb.lt
    go_upto_region 10 with (fail)
    clear k0 k1 k2 k3 k4 k5 k6 k7 kl f0 f1 f2 f3 f4 f5 f6 f7 HT3 hwx
    generalize w10.setCell ⟨k, 5, none⟩ (.int .i64 (1073741824 - x)) = w11 at *
    have HF := Lib.hid (HT4.out.out (by have h1 := HOK.out; have h2 := HM.out; unfold Su.Ok; dsimp only; have h3 := HX.out; omega))
    obtain ⟨k0, k1, k2, k3, k4, k5, k6, k7⟩ := HT4.out.kb.k
    obtain ⟨r0, r1, r2, r3, r4, r5, r6, r7⟩ := HT4.out.rb.k
    obtain ⟨f0, f1, f2, f3, f4, f5, f6, f7⟩ := HT4.out.rb.free
    have kl := HT4.out.kb.lt
    have rl := HT4.out.rb.lt
    have hkr : ¬ k = r := by omega
    have hrk2 : ¬ r = k := by omega
    dsimp only at k0 k1 k2 k3 k4 k5 k6 k7
    clear hrk
    go_wp2
    exact bodyPost_ret (v := (⟨a, m, b, c, d, 1073741824 - x, 1, 0⟩ : Su).v) (by simp only [results, Try.results16]; go_simp <;> rfl) rfl HF.out
  · by_cases h10 : v = 10
    · subst h10
      go_wp2_with fail
      refine (n_any B g _ HT.out.src 4 (by omega) (by omega)).mono ?_
      rintro e w10 ⟨x, rfl, x0, x1, hs, hg⟩
      have HX := Lib.hid (And.intro x0 x1)
      have HT3 := Lib.hid (HT.out.turn hs hg)
      have hwx : IntKind.i64.wrap (1073741824 - x) = 1073741824 - x := IntWalk.i64_in _ (by omega)
      have HT4 := Lib.hid (HT3.out.put (HT3.out.kb.p6 (1073741824 - x)))
      clear hs hg x0 x1 HT
      obtain ⟨k0, k1, k2, k3, k4, k5, k6, k7⟩ := HT3.out.kb.k
      obtain ⟨f0, f1, f2, f3, f4, f5, f6, f7⟩ := HT3.out.kb.free
      have kl := HT3.out.kb.lt
      go_upto_region 10 with (fail)
      clear k0 k1 k2 k3 k4 k5 k6 k7 kl f0 f1 f2 f3 f4 f5 f6 f7 HT3 hwx
      generalize w10.setCell ⟨k, 6, none⟩ (.int .i64 (1073741824 - x)) = w11 at *
      have HF := Lib.hid (HT4.out.out (by have h1 := HOK.out; have h2 := HM.out; unfold Su.Ok; dsimp only; have h3 := HX.out; omega))
      obtain ⟨k0, k1, k2, k3, k4, k5, k6, k7⟩ := HT4.out.kb.k
      obtain ⟨r0, r1, r2, r3, r4, r5, r6, r7⟩ := HT4.out.rb.k
      obtain ⟨f0, f1, f2, f3, f4, f5, f6, f7⟩ := HT4.out.rb.free
      have kl := HT4.out.kb.lt
      have rl := HT4.out.rb.lt
      have hkr : ¬ k = r := by omega
      have hrk2 : ¬ r = k := by omega
      dsimp only at k0 k1 k2 k3 k4 k5 k6 k7
      clear hrk
      go_wp2
      exact bodyPost_ret (v := (⟨a, m, b, c, d, 0, 1073741824 - x, 0⟩ : Su).v) (by simp only [results, Try.results16]; go_simp <;> rfl) rfl HF.out
    · by_cases h11 : v = 11
      · subst h11
        go_wp2_with fail
        refine (n_any B g _ HT.out.src 3 (by omega) (by omega)).mono ?_
        rintro e w10 ⟨x, rfl, x0, x1, hs, hg⟩
        have HX := Lib.hid (And.intro x0 x1)
        have HT3 := Lib.hid (HT.out.turn hs hg)
        have hwx : IntKind.i64.wrap (65536 - x) = 65536 - x := IntWalk.i64_in _ (by omega)
        have HT4 := Lib.hid (HT3.out.put (HT3.out.kb.p7 (65536 - x)))
        clear hs hg x0 x1 HT
        obtain ⟨k0, k1, k2, k3, k4, k5, k6, k7⟩ := HT3.out.kb.k
        obtain ⟨f0, f1, f2, f3, f4, f5, f6, f7⟩ := HT3.out.kb.free
        have kl := HT3.out.kb.lt
        go_upto_region 10 with (fail)
        clear k0 k1 k2 k3 k4 k5 k6 k7 kl f0 f1 f2 f3 f4 f5 f6 f7 HT3 hwx
        generalize w10.setCell ⟨k, 7, none⟩ (.int .i64 (65536 - x)) = w11 at *
        have HF := Lib.hid (HT4.out.out (by have h1 := HOK.out; have h2 := HM.out; unfold Su.Ok; dsimp only; have h3 := HX.out; omega))
        obtain ⟨k0, k1, k2, k3, k4, k5, k6, k7⟩ := HT4.out.kb.k
        obtain ⟨r0, r1, r2, r3, r4, r5, r6, r7⟩ := HT4.out.rb.k
        obtain ⟨f0, f1, f2, f3, f4, f5, f6, f7⟩ := HT4.out.rb.free
        have kl := HT4.out.kb.lt
        have rl := HT4.out.rb.lt
        have hkr : ¬ k = r := by omega
        have hrk2 : ¬ r = k := by omega
        dsimp only at k0 k1 k2 k3 k4 k5 k6 k7
        clear hrk
        go_wp2
        exact bodyPost_ret (v := (⟨a, m, b, c, d, 0, 1, 65536 - x⟩ : Su).v) (by simp only [results, Try.results16]; go_simp <;> rfl) rfl HF.out
      · have HF := Lib.hid (HT.out.out (by have h1 := HOK.out; have h2 := HM.out; unfold Su.Ok; dsimp only;  omega))
        obtain ⟨k0, k1, k2, k3, k4, k5, k6, k7⟩ := HT.out.kb.k
        obtain ⟨r0, r1, r2, r3, r4, r5, r6, r7⟩ := HT.out.rb.k
        obtain ⟨f0, f1, f2, f3, f4, f5, f6, f7⟩ := HT.out.rb.free
        have kl := HT.out.kb.lt
        have rl := HT.out.rb.lt
        have hkr : ¬ k = r := by omega
        have hrk2 : ¬ r = k := by omega
        dsimp only at k0 k1 k2 k3 k4 k5 k6 k7
        clear hrk
        go_wp2
        exact bodyPost_ret (v := (⟨a, m, b, c, d, 0, 1, 0⟩ : Su).v) (by simp only [results, Try.results16]; go_simp <;> rfl) rfl HF.out
end Go.Proofs.Ytijpflljopckiaa
