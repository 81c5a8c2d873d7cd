/- What is proved here: ref10.Same of two directories of one content is true; agrees of shardqueuelaw10 says yes to every directory of few spans and every change; directory.New by a contract. -/
import Derived.Test.YtfkpkmcpepeaeaaJ08
import Derived.Test.YtfkpkmcpepeaeaaJ10
import Derived.Deep.QuietTactic
import Derived.BigQuiet
import Derived.Test.YtfkpkmcpepeaeaaJ04
import Derived.Test.YtfkpkmcpepeaeaaJ07
import Derived.Test.YtfkpkmcpepeaeaaJ12
import Derived.Deep.RegionHeld3
import Derived.Test.YtfkpkmcpepeaeaaJ09
import Derived.Test.YtfkpkmcpepeaeaaJ03
import Derived.Deep.AppendLies
namespace Go.Proofs.Ytfkpkmcpepeaeaa
open Go.RowKit
set_option linter.unusedVariables false

/-- Two boxes of one directory, read only. -/
structure TwD (w : World) (p q : Nat) (d : Dd) (X Y : Dx) (W : World) : Prop where
  a : Db10 W p d X
  b : Db10 W q d Y
  ra : DR W W.heap.size d X
  rb : DR W W.heap.size d Y
  bel : Below w.heap.size w W
section
variable {w W W' : World} {p q : Nat} {d : Dd} {X Y : Dx}
theorem TwD.up (h : TwD w p q d X Y W) (hb : Below W.heap.size W W') : TwD w p q d X Y W' := ⟨h.a.up hb, h.b.up hb, h.ra.up hb, h.rb.up hb, h.bel.trans (hb.mono h.bel.size)⟩
theorem TwD.drewN (h : TwD w p q d X Y W) (k : Nat) : TwD w p q d X Y (W.drewN k) := h.up (bel_drewN (Below.refl _ _) k)
theorem TwD.start (w : World) (d : Dd) (X Y : Dx) (hx : DR w w.heap.size d X) (hy : DR w w.heap.size d Y) (t : TypeId) : TwD w w.heap.size (w.heap.size + 1) d X Y ((w.alloc (.cells #[.int .i64 d.vn, .slice X.A d.l.length X.c, .slice X.A2 d.F.length X.c2] t)).alloc (.cells #[.int .i64 d.vn, .slice Y.A d.l.length Y.c, .slice Y.A2 d.F.length Y.c2] t)) := by
  have hs : (w.alloc (.cells #[.int .i64 d.vn, .slice X.A d.l.length X.c, .slice X.A2 d.F.length X.c2] t)).heap.size = w.heap.size + 1 := by simp
  have h1 := Db10.start (w.alloc (.cells #[.int .i64 d.vn, .slice X.A d.l.length X.c, .slice X.A2 d.F.length X.c2] t)) d Y t
  rw [hs] at h1
  exact ⟨(Db10.start w d X t).alloc _, h1, (hx.alloc _).alloc _, (hy.alloc _).alloc _, ((Below.refl _ _).alloc (Nat.le_refl _) _).alloc (by simp) _⟩
end

set_option maxHeartbeats 4000000 in
set_option maxRecDepth 20000 in
theorem rsame10_yes (d : Dd) (X Y : Dx) (w : World) (hx : DR w w.heap.size d X) (hy : DR w w.heap.size d Y) :
    Calls Try.prog 9 #[dv d X, dv d Y] w fun e w' => e = .returned (.bool true) ∧ Below w.heap.size w w' := by
  have H0 := Lib.hid (TwD.start w d X Y hx hy 25)
  have hL : d.l.length ≤ 9223372036854775807 := by have h2 := hx.pl.len.2.2; have h1 := hx.pl.len.2.1; unfold maxLen at h2; omega
  have hF : d.F.length ≤ 9223372036854775807 := by have h2 := hx.fl.len.2.2; have h1 := hx.fl.len.2.1; unfold maxLen at h2; omega
  clear hx hy
  go_enter Try.func9, Try.ntmps9
  go_wp2
  obtain ⟨q, hq⟩ : ∃ q, q = w.heap.size + 1 := ⟨_, rfl⟩
  obtain ⟨p, hp⟩ : ∃ p, p = w.heap.size := ⟨_, rfl⟩
  rw [← hq, ← hp] at H0
  rw [← hq, ← hp]
  clear hq hp
  generalize (w.alloc (.cells #[.int .i64 d.vn, .slice X.A d.l.length X.c, .slice X.A2 d.F.length X.c2] 25)).alloc (.cells #[.int .i64 d.vn, .slice Y.A d.l.length Y.c, .slice Y.A2 d.F.length Y.c2] 25) = w2 at *
  go_loopw [5] (fun i wr => ∃ k : Nat, k ≤ d.l.length ∧ i = .int .i64 k ∧ Hid (TwD w p q d X Y wr)) (fun i _ => d.l.length - (intOf i).toNat)
  case atStart => exact ⟨0, by omega, rfl, H0⟩
  case round =>
    clear H0
    obtain ⟨k, hk, rfl, H1⟩ := hrel
    by_cases hlt : k < d.l.length
    · have hlt' : (k : Int) < (d.l.length : Int) := by omega
      have hw2 : IntKind.i64.wrap ((k : Int) + 1) = (k : Int) + 1 := IntWalk.i64_in _ (by omega)
      obtain ⟨b, o, hA, hbl, c0, c1, c2⟩ := H1.out.ra.pl.atg hlt
      obtain ⟨b', o', hA', hbl', d0, d1, d2⟩ := H1.out.rb.pl.atg hlt
      obtain ⟨⟨x0, x1, x2, xl⟩, -⟩ := H1.out.a.all
      obtain ⟨⟨y0, y1, y2, yl⟩, -⟩ := H1.out.b.all
      rw [hA] at x1
      rw [hA'] at y1
      have hne : ∀ W, (binOp .neq 43 (sg d.l k).v (sg d.l k).v).run Try.prog W = .ok (.bool false) W := fun W => by rw [neqsp]; simp
      clear hA hA' x0 x2 y0 y2
      generalize sg d.l k = M at *
      go_wp2
      go_quiet (fail)
      go_wp2
      go_roundw
      case rel => exact ⟨k + 1, by omega, by go_num, Lib.hid (H1.out.drewN _)⟩
      case measure => simp [intOf]; omega
    · have hke : k = d.l.length := by omega
      subst hke
      clear hlt hk
      obtain ⟨⟨x0, x1, x2, xl⟩, -⟩ := H1.out.a.all
      go_wp2
      generalize wr = w5 at *
      clear x0 x1 x2 xl
      go_loopw [6] (fun i wr => ∃ k : Nat, k ≤ d.F.length ∧ i = .int .i64 k ∧ Hid (TwD w p q d X Y wr)) (fun i _ => d.F.length - (intOf i).toNat)
      case atStart => exact ⟨0, by omega, rfl, H1⟩
      case round =>
        clear H1
        obtain ⟨k, hk, rfl, H2⟩ := hrel
        by_cases hlt : k < d.F.length
        · have hlt' : (k : Int) < (d.F.length : Int) := by omega
          have hw2 : IntKind.i64.wrap ((k : Int) + 1) = (k : Int) + 1 := IntWalk.i64_in _ (by omega)
          obtain ⟨b, o, hA, hbl, c0⟩ := H2.out.ra.fl.atg hlt
          obtain ⟨b', o', hA', hbl', d0⟩ := H2.out.rb.fl.atg hlt
          obtain ⟨⟨x0, x1, x2, xl⟩, -⟩ := H2.out.a.all
          obtain ⟨⟨y0, y1, y2, yl⟩, -⟩ := H2.out.b.all
          rw [hA] at x2
          rw [hA'] at y2
          clear hA hA' x0 x1 y0 y1
          generalize ig d.F k = M at *
          go_wp2
          go_quiet (fail)
          go_wp2
          go_roundw
          case rel => exact ⟨k + 1, by omega, by go_num, Lib.hid (H2.out.drewN _)⟩
          case measure => simp [intOf]; omega
        · obtain ⟨⟨x0, x1, x2, xl⟩, -⟩ := H2.out.a.all
          have hlt' : ¬ (k : Int) < (d.F.length : Int) := by omega
          have HB := Lib.hid H2.out.bel
          go_wp2
          go_ret
          exact ⟨rfl, HB.out⟩
end Go.Proofs.Ytfkpkmcpepeaeaa
namespace Go.Proofs.Ytfkpkmcpepeaeaa
open Go.RowKit
set_option linter.unusedVariables false

/-- Block r holds a span. -/
def SpB10 (W : World) (r : Nat) (s : Sp) : Prop := (W.cell? ⟨r, 0, none⟩ = some (.int .i64 s.lo) ∧ W.cell? ⟨r, 1, none⟩ = some (.int .i64 s.hi) ∧ W.cell? ⟨r, 2, none⟩ = some (.int .i64 s.sh)) ∧ r < W.heap.size
theorem SpB10.up {W W' : World} {r : Nat} {s : Sp} (h : SpB10 W r s) (hb : Below W.heap.size W W') : SpB10 W' r s :=
  ⟨⟨(hb.cell (p := ⟨r, 0, none⟩) h.2).trans h.1.1, (hb.cell (p := ⟨r, 1, none⟩) h.2).trans h.1.2.1, (hb.cell (p := ⟨r, 2, none⟩) h.2).trans h.1.2.2⟩, Nat.lt_of_lt_of_le h.2 hb.size⟩
theorem SpB10.start (w : World) (s : Sp) (t : TypeId) : SpB10 (w.alloc (.cells #[.int .i64 s.lo, .int .i64 s.hi, .int .i64 s.sh] t)) w.heap.size s :=
  ⟨⟨by simp [go_sem], by simp [go_sem], by simp [go_sem]⟩, by simp⟩
/-- Block p holds a directory, whose lists lie there. -/
structure Dh10 (W : World) (p : Nat) (d : Dd) (X : Dx) : Prop where
  db : Db10 W p d X
  dr : DR W W.heap.size d X
theorem Dh10.up {W W' : World} {p : Nat} {d : Dd} {X : Dx} (h : Dh10 W p d X) (hb : Below W.heap.size W W') : Dh10 W' p d X := ⟨h.db.up hb, h.dr.up hb⟩
theorem Dh10.start {W : World} {d : Dd} {X : Dx} (h : DR W W.heap.size d X) (t : TypeId) : Dh10 (W.alloc (.cells #[.int .i64 d.vn, .slice X.A d.l.length X.c, .slice X.A2 d.F.length X.c2] t)) W.heap.size d X := ⟨Db10.start W d X t, h.alloc _⟩
/-- A directory and a change in boxes. -/
structure Ah10 (w : World) (p q : Nat) (d : Dd) (X : Dx) (e : Ed) (W : World) : Prop where
  da : DAt w p d X W
  eb : EB W q e
section
variable {w W W' : World} {p q : Nat} {d : Dd} {X : Dx} {e : Ed}
theorem Ah10.below (h : Ah10 w p q d X e W) (hb : Below W.heap.size W W') : Ah10 w p q d X e W' := ⟨h.da.below hb, h.eb.up hb⟩
theorem Ah10.start (hd : DR w w.heap.size d X) : Ah10 w w.heap.size (w.heap.size + 1) d X e ((w.alloc (.cells #[.int .i64 d.vn, .slice X.A d.l.length X.c, .slice X.A2 d.F.length X.c2] 25)).alloc (.cells #[.int .i64 e.kd, .int .i64 e.fr, .int .i64 e.to, .int .i64 e.md] 27)) := by
  have h1 := EB.start (w.alloc (.cells #[.int .i64 d.vn, .slice X.A d.l.length X.c, .slice X.A2 d.F.length X.c2] 25)) e 27
  rw [show (w.alloc (.cells #[.int .i64 d.vn, .slice X.A d.l.length X.c, .slice X.A2 d.F.length X.c2] 25)).heap.size = w.heap.size + 1 by simp] at h1
  exact ⟨(DAt.start _ hd).alloc _, h1⟩
end
/-- .. and the results of both sides. -/
structure Ai10 (w : World) (p q r1 r2 r3 r4 : Nat) (d : Dd) (X : Dx) (e : Ed) (D : Dd) (Y Z : Dx) (S : Sp) (W : World) : Prop where
  ah : Ah10 w p q d X e W
  a : Dh10 W r1 D Y
  b : Dh10 W r2 D Z
  s : SpB10 W r3 S
  t : SpB10 W r4 S
/-- The cells that the law's last row loads. -/
abbrev C10 (p r1 r2 r3 r4 : Nat) (d : Dd) (X : Dx) (D : Dd) (Y Z : Dx) (S : Sp) (W : World) : Prop :=
  (W.cell? ⟨p, 0, none⟩ = some (.int .i64 d.vn) ∧ W.cell? ⟨p, 1, none⟩ = some (.slice X.A d.l.length X.c) ∧ W.cell? ⟨p, 2, none⟩ = some (.slice X.A2 d.F.length X.c2)) ∧
  (W.cell? ⟨r1, 0, none⟩ = some (.int .i64 D.vn) ∧ W.cell? ⟨r1, 1, none⟩ = some (.slice Y.A D.l.length Y.c) ∧ W.cell? ⟨r1, 2, none⟩ = some (.slice Y.A2 D.F.length Y.c2)) ∧
  (W.cell? ⟨r2, 0, none⟩ = some (.int .i64 D.vn) ∧ W.cell? ⟨r2, 1, none⟩ = some (.slice Z.A D.l.length Z.c) ∧ W.cell? ⟨r2, 2, none⟩ = some (.slice Z.A2 D.F.length Z.c2)) ∧
  (W.cell? ⟨r3, 0, none⟩ = some (.int .i64 S.lo) ∧ W.cell? ⟨r3, 1, none⟩ = some (.int .i64 S.hi) ∧ W.cell? ⟨r3, 2, none⟩ = some (.int .i64 S.sh)) ∧
  (W.cell? ⟨r4, 0, none⟩ = some (.int .i64 S.lo) ∧ W.cell? ⟨r4, 1, none⟩ = some (.int .i64 S.hi) ∧ W.cell? ⟨r4, 2, none⟩ = some (.int .i64 S.sh))
section
variable {w W W' : World} {p q r1 r2 r3 r4 : Nat} {d D : Dd} {X Y Z : Dx} {e : Ed} {S : Sp}
theorem Ai10.below (h : Ai10 w p q r1 r2 r3 r4 d X e D Y Z S W) (hb : Below W.heap.size W W') : Ai10 w p q r1 r2 r3 r4 d X e D Y Z S W' := ⟨h.ah.below hb, h.a.up hb, h.b.up hb, h.s.up hb, h.t.up hb⟩
theorem Ai10.drew (h : Ai10 w p q r1 r2 r3 r4 d X e D Y Z S W) : Ai10 w p q r1 r2 r3 r4 d X e D Y Z S W.drew := h.below (Below.refl _ _).drew
theorem Ai10.c (h : Ai10 w p q r1 r2 r3 r4 d X e D Y Z S W) : C10 p r1 r2 r3 r4 d X D Y Z S W := ⟨⟨h.ah.da.db.c0, h.ah.da.db.c1, h.ah.da.db.c2⟩, ⟨h.a.db.c0, h.a.db.c1, h.a.db.c2⟩, ⟨h.b.db.c0, h.b.db.c1, h.b.db.c2⟩, h.s.1, h.t.1⟩
end
set_option maxHeartbeats 8000000 in
set_option maxRecDepth 20000 in
theorem agrees10_any (d : Dd) (X : Dx) (e : Ed) (ro sl : Int) (w : World) (hd : DR w w.heap.size d X) (hl : d.l.length ≤ 90) (hn : d.F.length ≤ 1000) :
    Calls Try.prog 10 #[dv d X, e.v, .int .i64 ro, .int .i64 sl] w fun r w' => r = .returned (.bool true) ∧ Below w.heap.size w w' := by
  have H0 := Lib.hid (Ah10.start (e := e) hd)
  obtain ⟨D, hD⟩ : ∃ D, D = apD d e := ⟨_, rfl⟩
  obtain ⟨x, hx⟩ : ∃ x, x = apE d e := ⟨_, rfl⟩
  obtain ⟨S, hS⟩ : ∃ S, S = spnD d sl := ⟨_, rfl⟩
  obtain ⟨b, hb0⟩ : ∃ b, b = spnB d sl := ⟨_, rfl⟩
  obtain ⟨V, hV⟩ : ∃ V, V = vaD d := ⟨_, rfl⟩
  obtain ⟨O, hO⟩ : ∃ O, O = ownD d ro := ⟨_, rfl⟩
  obtain ⟨M, hM⟩ : ∃ M, M = homD d sl := ⟨_, rfl⟩
  have HA1 := Lib.hid (fun p q W (k : Ah10 w p q d X e W) => dapply_any d X e W k.da.dr hl)
  have HA2 := Lib.hid (fun p q W (k : Ah10 w p q d X e W) => rapply10_any d X e W k.da.dr hl)
  have HP1 := Lib.hid (fun p q W (k : Ah10 w p q d X e W) => dspan_any d X sl W k.da.dr)
  have HP2 := Lib.hid (fun p q W (k : Ah10 w p q d X e W) => rspan10_any d X sl W k.da.dr)
  have HV1 := Lib.hid (fun p q W (k : Ah10 w p q d X e W) => ddvalid_any d X W k.da.dr)
  have HV2 := Lib.hid (fun p q W (k : Ah10 w p q d X e W) => rvalid10_any d X W k.da.dr)
  have HO1 := Lib.hid (fun p q W (k : Ah10 w p q d X e W) => downer_any d X ro W k.da.dr)
  have HO2 := Lib.hid (fun p q W (k : Ah10 w p q d X e W) => rowner_any d X ro W k.da.dr)
  have HM1 := Lib.hid (fun p q W (k : Ah10 w p q d X e W) => dhome_any d X sl W k.da.dr hn)
  have HM2 := Lib.hid (fun p q W (k : Ah10 w p q d X e W) => rhome10_any d X sl W k.da.dr)
  have HSM := Lib.hid (fun Y Z W (h1 : DR W W.heap.size D Y) (h2 : DR W W.heap.size D Z) => rsame10_yes D Y Z W h1 h2)
  rw [← hD, ← hx] at HA1 HA2
  rw [← hS, ← hb0] at HP1 HP2
  rw [← hV] at HV1 HV2
  rw [← hO] at HO1 HO2
  rw [← hM] at HM1 HM2
  have heq := eqsp S S
  rw [decide_eq_true rfl] at heq
  obtain ⟨p, hp⟩ : ∃ p, p = w.heap.size := ⟨_, rfl⟩
  obtain ⟨q, hq⟩ : ∃ q, q = w.heap.size + 1 := ⟨_, rfl⟩
  have HPP := Lib.hid (And.intro hp hq)
  clear hD hx hS hb0 hV hO hM hp hq hd hl hn
  go_enter Try.func10, Try.ntmps10
  obtain ⟨⟨x0, x1, x2, xl⟩, -⟩ := H0.out.da.db.all
  obtain ⟨y0, y1, y2, y3, yl⟩ := H0.out.eb
  go_wp2_with fail
  clear x0 x1 x2 xl y0 y1 y2 y3 yl
  rw [← HPP.out.2, ← HPP.out.1] at H0
  generalize (w.alloc (.cells #[.int .i64 d.vn, .slice X.A d.l.length X.c, .slice X.A2 d.F.length X.c2] 25)).alloc (.cells #[.int .i64 e.kd, .int .i64 e.fr, .int .i64 e.to, .int .i64 e.md] 27) = w2 at *
  rw [← HPP.out.2, ← HPP.out.1]
  refine (HA1.out _ _ _ H0.out).mono ?_
  rintro r w3 ⟨Y, rfl, -, hdr, hb⟩
  have HA := ((Below.refl w3.heap.size w3).alloc (Nat.le_refl _) (.cells #[.int .i64 D.vn, .slice Y.A D.l.length Y.c, .slice Y.A2 D.F.length Y.c2] 25))
  have H1 := Lib.hid ((H0.out.below hb).below HA)
  have HT1 := Lib.hid (Dh10.start hdr 25)
  clear hb H0 hdr HA
  obtain ⟨⟨x0, x1, x2, xl⟩, -⟩ := H1.out.da.db.all
  obtain ⟨y0, y1, y2, y3, yl⟩ := H1.out.eb
  go_wp2_with fail
  clear x0 x1 x2 xl y0 y1 y2 y3 yl
  obtain ⟨r1, hr1⟩ : ∃ r, r = w3.heap.size := ⟨_, rfl⟩
  rw [← hr1] at HT1 ⊢
  clear hr1
  generalize w3.alloc (.cells #[.int .i64 D.vn, .slice Y.A D.l.length Y.c, .slice Y.A2 D.F.length Y.c2] 25) = w4 at *
  refine (HA2.out _ _ _ H1.out).mono ?_
  rintro r w5 ⟨Z, rfl, -, hdr, hb⟩
  have HA := ((Below.refl w5.heap.size w5).alloc (Nat.le_refl _) (.cells #[.int .i64 D.vn, .slice Z.A D.l.length Z.c, .slice Z.A2 D.F.length Z.c2] 25))
  have H2 := Lib.hid ((H1.out.below hb).below HA)
  have HT1 := Lib.hid ((HT1.out.up hb).up HA)
  have HU1 := Lib.hid (Dh10.start hdr 25)
  clear hb H1 HA hdr
  obtain ⟨⟨x0, x1, x2, xl⟩, -⟩ := H2.out.da.db.all
  go_wp2_with fail
  clear x0 x1 x2 xl
  obtain ⟨r2, hr2⟩ : ∃ r, r = w5.heap.size := ⟨_, rfl⟩
  rw [← hr2] at HU1 ⊢
  clear hr2
  generalize w5.alloc (.cells #[.int .i64 D.vn, .slice Z.A D.l.length Z.c, .slice Z.A2 D.F.length Z.c2] 25) = w6 at *
  refine (HP1.out _ _ _ H2.out).mono ?_
  rintro r w7 ⟨rfl, hb⟩
  have HA := ((Below.refl w7.heap.size w7).alloc (Nat.le_refl _) (.cells #[.int .i64 S.lo, .int .i64 S.hi, .int .i64 S.sh] 43))
  have H3 := Lib.hid ((H2.out.below hb).below HA)
  have HT1 := Lib.hid ((HT1.out.up hb).up HA)
  have HU1 := Lib.hid ((HU1.out.up hb).up HA)
  have HT2 := Lib.hid (SpB10.start w7 S 43)
  clear hb H2 HA
  obtain ⟨⟨x0, x1, x2, xl⟩, -⟩ := H3.out.da.db.all
  go_wp2_with fail
  clear x0 x1 x2 xl
  obtain ⟨r3, hr3⟩ : ∃ r, r = w7.heap.size := ⟨_, rfl⟩
  rw [← hr3] at HT2 ⊢
  clear hr3
  generalize w7.alloc (.cells #[.int .i64 S.lo, .int .i64 S.hi, .int .i64 S.sh] 43) = w8 at *
  refine (HP2.out _ _ _ H3.out).mono ?_
  rintro r w9 ⟨rfl, hb⟩
  have HA := ((Below.refl w9.heap.size w9).alloc (Nat.le_refl _) (.cells #[.int .i64 S.lo, .int .i64 S.hi, .int .i64 S.sh] 43))
  have H4 := Lib.hid ((H3.out.below hb).below HA)
  have HT1 := Lib.hid ((HT1.out.up hb).up HA)
  have HU1 := Lib.hid ((HU1.out.up hb).up HA)
  have HT2 := Lib.hid ((HT2.out.up hb).up HA)
  have HU2 := Lib.hid (SpB10.start w9 S 43)
  clear hb H3 HA
  go_upto_region 5 with (fail)
  obtain ⟨r4, hr4⟩ : ∃ r, r = w9.heap.size := ⟨_, rfl⟩
  rw [← hr4] at HU2 ⊢
  clear hr4
  generalize w9.alloc (.cells #[.int .i64 S.lo, .int .i64 S.hi, .int .i64 S.sh] 43) = w10 at *
  have HM := Lib.hid (show Ai10 w p q r1 r2 r3 r4 d X e D Y Z S w10 from ⟨H4.out, HT1.out, HU1.out, HT2.out, HU2.out⟩).drew
  have HS := Lib.hid HM.out.c
  clear H4 HT1 HU1 HT2 HU2 HA1 HA2 HP1 HP2
  go_wp2
  go_region_held3 (fun W => C10 p r1 r2 r3 r4 d X D Y Z S W)
    (first | with_reducible exact HS.out)
    (first
    | (go_at_call 9; (with_reducible refine (HSM.out Y Z _ HM.out.a.dr HM.out.b.dr).mono ?_); rintro r w11 ⟨rfl, hb⟩; have HM := Lib.hid (HM.out.below hb); have HS := Lib.hid HM.out.c; clear hb)
    | (go_at_call 30; (with_reducible refine (HV1.out _ _ _ HM.out.ah).mono ?_); rintro r w11 ⟨rfl, hb⟩; have HM := Lib.hid (HM.out.below hb); have HS := Lib.hid HM.out.c; clear hb)
    | (go_at_call 31; (with_reducible refine (HV2.out _ _ _ HM.out.ah).mono ?_); rintro r w11 ⟨rfl, hb⟩; have HM := Lib.hid (HM.out.below hb); have HS := Lib.hid HM.out.c; clear hb)
    | (go_at_call 20; (with_reducible refine (HO1.out _ _ _ HM.out.ah).mono ?_); rintro r w11 ⟨rfl, hb⟩; have HM := Lib.hid (HM.out.below hb); have HS := Lib.hid HM.out.c; clear hb)
    | (go_at_call 32; (with_reducible refine (HO2.out _ _ _ HM.out.ah).mono ?_); rintro r w11 ⟨rfl, hb⟩; have HM := Lib.hid (HM.out.below hb); have HS := Lib.hid HM.out.c; clear hb)
    | (go_at_call 33; (with_reducible refine (HM1.out _ _ _ HM.out.ah).mono ?_); rintro r w11 ⟨rfl, hb⟩; have HM := Lib.hid (HM.out.below hb); have HS := Lib.hid HM.out.c; clear hb)
    | (go_at_call 34; (with_reducible refine (HM2.out _ _ _ HM.out.ah).mono ?_); rintro r w11 ⟨rfl, hb⟩; have HM := Lib.hid (HM.out.below hb); have HS := Lib.hid HM.out.c; clear hb))
  all_goals
    have HF := Lib.hid HM.out.ah.da.bel
    clear HS HM
    go_wp2
    go_ret
    exact ⟨rfl, HF.out⟩
end Go.Proofs.Ytfkpkmcpepeaeaa
namespace Go.Proofs.Ytfkpkmcpepeaeaa
open Go.RowKit
set_option linter.unusedVariables false

theorem ints_lit : True := trivial
set_option maxHeartbeats 4000000 in
set_option maxRecDepth 20000 in
theorem dnew_any (s l : Int) (w : World) : Calls Try.prog 7 #[.int .i64 s, .int .i64 l] w (DE w.heap.size w (nwD s l) (nwE10 s l)) := by
  have HWI := Lib.hid (fun n lo hi W => rwithin_any n lo hi W)
  obtain ⟨r, hr⟩ : ∃ r, r = w.heap.size := ⟨_, rfl⟩
  by_cases h : 1 ≤ s ∧ s ≤ 6 ∧ 1 ≤ l ∧ l ≤ s
  · obtain ⟨n, hn⟩ : ∃ n : Nat, s = n := ⟨s.toNat, by omega⟩
    obtain ⟨m, hm⟩ : ∃ m : Nat, l = m := ⟨l.toNat, by omega⟩
    subst hn
    subst hm
    have e1 : nwE10 n m = 0 := by unfold nwE10; rw [if_pos h]
    have e2 : nwD n m = ⟨1, nwL m m, List.replicate n (-1)⟩ := by unfold nwD; rw [e1]; simp
    have HM := Lib.hid (show (1 ≤ n ∧ n ≤ 6) ∧ (1 ≤ m ∧ m ≤ n) by omega)
    have q1 : wiR n 1 6 = true := by simp [wiR]; omega
    have q2 : wiR m 1 n = true := by simp [wiR]; omega
    rw [e1, e2]
    clear e1 e2 h
    obtain ⟨F, hF⟩ : ∃ F, F = List.replicate n (-1 : Int) := ⟨_, rfl⟩
    rw [← hF]
    obtain ⟨i0, hi0, hz0⟩ := Option.map_eq_some_iff.1 info_sp
    simp only [Prod.mk.injEq] at hz0
    have HI := Lib.hid hi0
    have HZ := Lib.hid hz0
    clear hi0 hz0
    have HRP := Lib.hid (fun xb W => repeat_one xb n W HM.out.1.1 HM.out.1.2)
    rw [← hF] at HRP
    clear hF
    have HR0 := Lib.hid hr
    go_enter Try.func7, Try.ntmps7
    go_wp2_with fail
    refine (HWI.out _ _ _ _).mono ?_
    rintro e w1 ⟨rfl, hw1⟩
    rw [q1]
    go_wp2_with fail
    refine (HWI.out _ _ _ _).mono ?_
    rintro e w2 ⟨rfl, hw2⟩
    rw [q2]
    go_wp2_with fail
    subst hw2
    have HW1 := Lib.hid (show Db10 w1 r zD10 zDx ∧ w1.heap.size = r + 1 ∧ Below w.heap.size w w1 from by
      rw [← hw1, hr]
      exact ⟨Db10.zero w _, by simp, (Below.refl _ _).alloc (Nat.le_refl _) _⟩)
    rw [← hr]
    clear hw1 hr
    refine (HRP.out _ _ (by simp [go_sem]) (by simp)).mono ?_
    rintro e w3 ⟨v, rfl, ho, hb⟩
    obtain ⟨A2, c2, rfl⟩ := own_form ho
    have HN := Lib.hid (NA.start (w := w) HR0.out ((HW1.out.2.2.alloc HW1.out.2.2.size (.cells #[.int .i64 (-1)] 3)).trans (hb.mono (by have := HW1.out.2.2.size; simp; omega))) ((HW1.out.1.alloc (.cells #[.int .i64 (-1)] 3)).up hb) (own_low ho (by have := HW1.out.2.1; simp; omega)) 25)
    obtain ⟨y, hy⟩ : ∃ y, y = w3.heap.size := ⟨_, rfl⟩
    clear ho hb HRP HW1
    go_wp2_with fail
    rw [← hy] at HN ⊢
    generalize w3.alloc (.cells #[.int .i64 1, .slice none 0 0, .slice A2 F.length c2] 25) = w4 at *
    clear hy
    go_loopw [23] (fun iv wr => ∃ (k : Nat) (A : Option Addr) (c : Nat), iv = .int .i64 k ∧ k ≤ m ∧ Hid (NA w r y ⟨1, nwL m k, F⟩ ⟨A, c, A2, c2⟩ wr)) (fun iv _ => m - (intOf iv).toNat)
    case atStart => exact ⟨0, none, 0, rfl, Nat.zero_le _, HN⟩
    case round =>
      obtain ⟨k, A, c, rfl, hkm, HA⟩ := hrel
      by_cases hk : k < m
      · obtain ⟨L, hL⟩ : ∃ L, L = nwL m k := ⟨_, rfl⟩
        rw [← hL] at HA
        have HL := Lib.hid (show L.length = k ∧ nwL m (k + 1) = L ++ [⟨(k : Int) * 65536 / m, ((k : Int) + 1) * 65536 / m - 1, k⟩] from ⟨by rw [hL, nwL_len], by rw [hL]; exact nwL_succ m k⟩)
        clear hL
        have hk' : (k : Int) < (m : Int) := by omega
        clear hkm hk
        have h56 : k ≤ 5 ∧ m ≤ 6 := by have := HM.out; omega
        have HL6 := Lib.hid h56
        have hw1 : IntKind.i64.wrap ((k : Int) * 65536) = (k : Int) * 65536 := IntWalk.i64_in _ (by omega)
        have hw2 : IntKind.i64.wrap ((k : Int) + 1) = (k : Int) + 1 := IntWalk.i64_in _ (by omega)
        have hw3 : IntKind.i64.wrap (((k : Int) + 1) * 65536) = ((k : Int) + 1) * 65536 := IntWalk.i64_in _ (by omega)
        obtain ⟨a, ha⟩ : ∃ a, a = ((k : Int) * 65536) / (m : Int) := ⟨_, rfl⟩
        obtain ⟨b, hb⟩ : ∃ b, b = (((k : Int) + 1) * 65536) / (m : Int) := ⟨_, rfl⟩
        have ht1 : ((k : Int) * 65536).tdiv (m : Int) = a := by rw [ha]; exact Int.tdiv_eq_ediv_of_nonneg (by omega)
        have ht2 : (((k : Int) + 1) * 65536).tdiv (m : Int) = b := by rw [hb]; exact Int.tdiv_eq_ediv_of_nonneg (by omega)
        have hra : 0 ≤ a ∧ a ≤ 400000 := by
          rw [ha]
          exact ⟨Int.ediv_nonneg (by omega) (by omega), Int.le_trans (Int.ediv_le_self _ (by omega)) (by omega)⟩
        have hrb : 0 ≤ b ∧ b ≤ 400000 := by
          rw [hb]
          exact ⟨Int.ediv_nonneg (by omega) (by omega), Int.le_trans (Int.ediv_le_self _ (by omega)) (by omega)⟩
        have hw4 : IntKind.i64.wrap a = a := IntWalk.i64_in _ (by omega)
        have hw5 : IntKind.i64.wrap b = b := IntWalk.i64_in _ (by omega)
        have hw6 : IntKind.i64.wrap (b - 1) = b - 1 := IntWalk.i64_in _ (by omega)
        rw [← ha, ← hb] at HL
        have hm0 : ¬ (m : Int) = 0 := by omega
        have hm1 : ((m : Int) == 0) = false := by simpa using hm0
        have hm2 : ¬ m = 0 := by omega
        have hm3 : ((m == 0) : Bool) = false := by simpa using hm2
        clear ha hb h56
        obtain ⟨⟨x0, x1, x2, xl⟩, f0, f1, f2⟩ := HA.out.xb.all
        dsimp only at x0 x1 x2
        clear x0 x2 f0 f2
        go_wp2
        go_region_law (refine step_append_lies _ (by rfl) _ _ _ (by rfl) (r + 1) 43 i0 _ 3 24 Try.underlying22 HI.out HZ.out.1 HZ.out.2.1 HZ.out.2.2 rfl (by omega) (.slice A L.length c) L.length (scs L) (by rfl) (HA.out.drew.alloc _).ol ⟨wr.heap.size, 0, none⟩ 1 1 (Sp.mk a (b - 1) k).l (by rfl) (by rfl) (World.news_of_block (cs := (Sp.mk a (b - 1) k).l.toArray) (t := 43) (fr := (0, 0)) (heap_alloc_new wr.drew _)) (Sp.l_one _) (by omega) (by have := HL.out; have := HL6.out; unfold maxLen; omega) (by have := HL.out; have := HL6.out; omega) (Nat.succ_le_of_lt (HA.out.drew.alloc _).rb.lt) _ rfl ?_; intro g1 cp1 w8 hown1 hgrow1 hat1 hlt1; have HP8 := Lib.hid ((HA.out.drew.alloc _).app (S := Sp.mk a (b - 1) k) hown1 hgrow1 hat1); obtain ⟨z1, f1, xl⟩ := HP8.out.1; clear hown1 hgrow1 hat1 hlt1)
        all_goals
          go_wp2
          exact ⟨⟨k + 1, _, _, by rw [Int.natCast_add]; rfl, by omega, Lib.hid (by rw [HL.out.2]; exact HP8.out.2)⟩, by simp [intOf]; omega⟩
      · have hke : k = m := by omega
        subst hke
        have HO := Lib.hid HA.out.out
        obtain ⟨⟨x0, x1, x2, xl⟩, f0, f1, f2⟩ := HA.out.xb.all
        obtain ⟨⟨r0, r1, r2, rl⟩, g0, g1, g2⟩ := HA.out.rb.all
        have hry : ¬ r = y ∧ ¬ y = r := by have := HA.out.ne; omega
        obtain ⟨hry1, hry2⟩ := hry
        dsimp only at x0 x1 x2
        clear hkm hk
        go_wp2
        exact bodyPost_ret (v := .tuple #[dv ⟨1, nwL k k, F⟩ ⟨A, c, A2, c2⟩, .int .i64 0]) (by simp only [results, Try.results7]; go_simp <;> rfl) rfl HO.out
  · have HEE := Lib.hid (show nwE10 s l = 1 ∧ nwD s l = zD10 from by
      have e1 : nwE10 s l = 1 := by unfold nwE10; rw [if_neg h]
      exact ⟨e1, by unfold nwD; rw [e1]; rfl⟩)
    obtain ⟨E1, hE1⟩ : ∃ E1, E1 = nwE10 s l := ⟨_, rfl⟩
    obtain ⟨D1, hD1⟩ : ∃ D1, D1 = nwD s l := ⟨_, rfl⟩
    rw [← hE1, ← hD1] at HEE
    rw [← hE1, ← hD1]
    clear hE1 hD1
    have HO := Lib.hid (fun W hb => new_out0 (w := w) (W := W) rfl hb 1)
    have hq : wiR s 1 6 = false ∨ (wiR s 1 6 = true ∧ wiR l 1 s = false) := by
      simp only [wiR, decide_eq_false_iff_not, decide_eq_true_eq]; omega
    clear h hr
    rcases hq with q1 | ⟨q1, q2⟩
    · go_enter Try.func7, Try.ntmps7
      go_wp2_with fail
      refine (HWI.out _ _ _ _).mono ?_
      rintro e w1 ⟨rfl, hw1⟩
      rw [q1]
      have HO1 := Lib.hid (HO.out w1 (by rw [← hw1]; exact (Below.refl _ _).alloc (Nat.le_refl _) _))
      have HD := Lib.hid (show Db10 w1 w.heap.size zD10 zDx from by rw [← hw1]; exact Db10.zero w _)
      clear hw1
      obtain ⟨⟨r0, r1, r2, rl⟩, g0, g1, g2⟩ := HD.out.all
      go_wp2
      exact bodyPost_ret (v := .tuple #[.agg #[.int .i64 0, .slice none 0 0, .slice none 0 0], .int .i64 1]) (by simp only [results, Try.results7]; go_simp <;> rfl) rfl (by rw [HEE.out.1, HEE.out.2]; exact HO1.out)
    · go_enter Try.func7, Try.ntmps7
      go_wp2_with fail
      refine (HWI.out _ _ _ _).mono ?_
      rintro e w1 ⟨rfl, hw1⟩
      rw [q1]
      go_wp2_with fail
      refine (HWI.out _ _ _ _).mono ?_
      rintro e w2 ⟨rfl, hw2⟩
      subst hw2
      rw [q2]
      have HO1 := Lib.hid (HO.out w1 (by rw [← hw1]; exact (Below.refl _ _).alloc (Nat.le_refl _) _))
      have HD := Lib.hid (show Db10 w1 w.heap.size zD10 zDx from by rw [← hw1]; exact Db10.zero w _)
      clear hw1
      obtain ⟨⟨r0, r1, r2, rl⟩, g0, g1, g2⟩ := HD.out.all
      go_wp2
      exact bodyPost_ret (v := .tuple #[.agg #[.int .i64 0, .slice none 0 0, .slice none 0 0], .int .i64 1]) (by simp only [results, Try.results7]; go_simp <;> rfl) rfl (by rw [HEE.out.1, HEE.out.2]; exact HO1.out)
end Go.Proofs.Ytfkpkmcpepeaeaa
