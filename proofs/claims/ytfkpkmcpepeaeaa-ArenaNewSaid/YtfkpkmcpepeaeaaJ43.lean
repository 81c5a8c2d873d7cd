/- What is proved here: shardqueueref06.SameLeases, Same of two lists, two tables that read alike are true; ref07.Same of two shards of one content is true; ref12.Same says yes to equal arenas; ref12.New by a contract. -/
import Derived.Test.YtfkpkmcpepeaeaaJ42
import Derived.Test.YtfkpkmcpepeaeaaJ11
import Derived.Test.YtfkpkmcpepeaeaaJ28
import Derived.Test.YtfkpkmcpepeaeaaJ14
import Derived.Test.YtfkpkmcpepeaeaaJ15
import Derived.Test.YtfkpkmcpepeaeaaJ41
import Derived.Test.YtfkpkmcpepeaeaaJ33
import Derived.Deep.RegionHeld3
import Derived.Deep.DeepCutAuto
import Derived.Test.YtfkpkmcpepeaeaaJ39
import Derived.Test.YtfkpkmcpepeaeaaJ21
import Derived.Test.YtfkpkmcpepeaeaaJ20
import Derived.Deep.QuietTactic
import Derived.BigQuiet
import Derived.Test.YtfkpkmcpepeaeaaJ18
namespace Go.Proofs.Ytfkpkmcpepeaeaa
open Go.RowKit
set_option linter.unusedVariables false

set_option maxHeartbeats 2000000 in
theorem rsamel_yes (A A' : Option Addr) (n n' c c' : Nat) (l : List Le) (w : World) (B B' : Nat) (hv : El w B (.slice A n c) l) (hv' : El w B' (.slice A' n' c') l) :
    Calls Try.prog 84 #[.slice A n c, .slice A' n' c'] w fun e w' => e = .returned (.bool true) ∧ Below w.heap.size w w' := by
  obtain ⟨rfl, hm1, hm2⟩ := hv.len
  obtain ⟨rfl, hm1', hm2'⟩ := hv'.len
  have hL : l.length ≤ 9223372036854775807 := by unfold maxLen at hm2; omega
  have HV := Lib.hid hv
  have HV' := Lib.hid hv'
  have HB := Lib.hid (Below.refl w.heap.size w)
  clear hv hm1 hm2 hv' hm1' hm2'
  go_enter Try.func84, Try.ntmps84
  go_wp2
  go_loopw [5] (fun i wr => ∃ k : Nat, k ≤ l.length ∧ i = .int .i64 k ∧ El wr B (.slice A l.length c) l ∧ El wr B' (.slice A' l.length c') l ∧ Below w.heap.size w wr) (fun i _ => l.length - (intOf i).toNat)
  case atStart => exact ⟨0, by omega, rfl, HV.out, HV'.out, HB.out⟩
  case round =>
    obtain ⟨k, hk, rfl, hv, hv', hb⟩ := hrel
    have HV := Lib.hid hv
    have HV' := Lib.hid hv'
    have HB := Lib.hid hb
    clear hv hv' hb
    by_cases hlt : k < l.length
    · obtain ⟨b, o, rfl, _⟩ := HV.out.some_ (by omega)
      obtain ⟨b', o', rfl, _⟩ := HV'.out.some_ (by omega)
      obtain ⟨⟨c0, c1, c2, c3, c4, c5, c6, c7⟩, hb⟩ := HV.out.c8 hlt
      obtain ⟨⟨d0, d1, d2, d3, d4, d5, d6, d7⟩, hb'⟩ := HV'.out.c8 hlt
      generalize l[k] = M at *
      have hne := neql M
      go_wp2
      go_quiet (fail)
      go_wp2
      go_roundw
      case rel => exact ⟨k + 1, by omega, by go_num, HV.out.drewN _, HV'.out.drewN _, bel_drewN HB.out _⟩
      case measure => simp [intOf]; omega
    · go_wp2
      go_ret
      exact ⟨rfl, HB.out⟩

set_option maxHeartbeats 2000000 in
theorem rtsame_yes (A A' : Option Addr) (n n' c c' : Nat) (l : List Le) (A2 A2' : Option Addr) (n2 n2' c2 c2' : Nat) (h : List Du) (w : World)
    (hv : El w w.heap.size (.slice A n c) l) (hv' : El w w.heap.size (.slice A' n' c') l) (hd : Dl w w.heap.size (.slice A2 n2 c2) h) (hd' : Dl w w.heap.size (.slice A2' n2' c2') h) :
    Calls Try.prog 73 #[tv A n c A2 n2 c2, tv A' n' c' A2' n2' c2'] w fun e w' => e = .returned (.bool true) ∧ Below w.heap.size w w' := by
  have HB := Lib.hid (((Below.refl w.heap.size w).alloc (Nat.le_refl _) (.cells #[.slice A n c, .slice A2 n2 c2] 84)).alloc (by simp) (.cells #[.slice A' n' c', .slice A2' n2' c2'] 84))
  have HE := Lib.hid (fun W (hb : Below w.heap.size w W) => rsamel_yes A A' n n' c c' l W _ _ (hv.below hb) (hv'.below hb))
  have HD := Lib.hid (fun W (hb : Below w.heap.size w W) => rsame5_yes A2 A2' n2 n2' c2 c2' h W _ _ (hd.below hb) (hd'.below hb))
  have HT := Lib.hid ((TB.start w A n c A2 n2 c2 84).below ((Below.refl (w.heap.size + 1) _).alloc (by simp) (.cells #[.slice A' n' c', .slice A2' n2' c2'] 84)) (Nat.lt_succ_self _))
  have HT' := Lib.hid (TB.start (w.alloc (.cells #[.slice A n c, .slice A2 n2 c2] 84)) A' n' c' A2' n2' c2' 84)
  rw [show (w.alloc (.cells #[.slice A n c, .slice A2 n2 c2] 84)).heap.size = w.heap.size + 1 by simp] at HT'
  clear hv hv' hd hd'
  go_enter Try.func73, Try.ntmps73
  go_wp2_with fail
  obtain ⟨p, hp⟩ : ∃ p, p = w.heap.size := ⟨_, rfl⟩
  obtain ⟨q, hq⟩ : ∃ q, q = w.heap.size + 1 := ⟨_, rfl⟩
  rw [← hq] at HT'
  rw [← hp] at HT
  rw [← hq, ← hp]
  clear hq hp
  generalize (w.alloc (.cells #[.slice A n c, .slice A2 n2 c2] 84)).alloc (.cells #[.slice A' n' c', .slice A2' n2' c2'] 84) = w2 at *
  refine (HE.out _ HB.out).mono ?_
  rintro e w3 ⟨rfl, hb⟩
  obtain ⟨t0, t1, tl⟩ := HT.out.below hb HT.out.2.2
  obtain ⟨s0, s1, sl⟩ := HT'.out.below hb HT'.out.2.2
  have HB3 := Lib.hid (HB.out.trans (hb.mono HB.out.size))
  clear hb
  go_wp2_with fail
  refine (HD.out _ HB3.out).mono ?_
  rintro e w4 ⟨rfl, hb⟩
  have HB4 := Lib.hid (HB3.out.trans (hb.mono HB3.out.size))
  clear hb
  go_wp2
  go_ret
  exact ⟨rfl, HB4.out⟩
end Go.Proofs.Ytfkpkmcpepeaeaa
namespace Go.Proofs.Ytfkpkmcpepeaeaa
open Go.RowKit
set_option linter.unusedVariables false

/-- Two boxes of shards, read only. -/
structure TwAt7 (w : World) (p q : Nat) (S : Sh) (D E : Sx) (W : World) : Prop where
  a : SAt w p S D W
  b : SAt w q S E W
theorem TwAt7.below {w W W' : World} {p q : Nat} {S : Sh} {D E : Sx} (h : TwAt7 w p q S D E W) (hb : Below W.heap.size W W') : TwAt7 w p q S D E W' := ⟨h.a.below hb, h.b.below hb⟩
theorem SAt.from7 {w w1 : World} {p : Nat} {S : Sh} {D : Sx} {W : World} (h : SAt w1 p S D W) (hw : Below w.heap.size w w1) : SAt w p S D W := ⟨h.s8, h.sr, h.off, hw.trans (h.bel.mono hw.size), Nat.le_trans hw.size h.old⟩
theorem TwAt7.start (w : World) (S : Sh) (D E : Sx) (hs : SR w w.heap.size S D) (ht : SR w w.heap.size S E) : TwAt7 w w.heap.size (w.heap.size + 1) S D E ((w.alloc (.cells #[.bool S.lv, .int .i64 S.lo, .int .i64 S.hi, .slice D.A S.cs.length D.c, .int .i64 S.hd, .int .i64 S.sz, .slice D.A2 S.l.length D.c2, .slice D.A3 S.h.length D.c3] 86)).alloc (.cells #[.bool S.lv, .int .i64 S.lo, .int .i64 S.hi, .slice E.A S.cs.length E.c, .int .i64 S.hd, .int .i64 S.sz, .slice E.A2 S.l.length E.c2, .slice E.A3 S.h.length E.c3] 86)) := by
  have hb := (Below.refl w.heap.size w).alloc (Nat.le_refl _) (.cells #[.bool S.lv, .int .i64 S.lo, .int .i64 S.hi, .slice D.A S.cs.length D.c, .int .i64 S.hd, .int .i64 S.sz, .slice D.A2 S.l.length D.c2, .slice D.A3 S.h.length D.c3] 86)
  have h1 := SAt.from7 (SAt.start 86 (ht.up hb)) hb
  rw [show (w.alloc (.cells #[.bool S.lv, .int .i64 S.lo, .int .i64 S.hi, .slice D.A S.cs.length D.c, .int .i64 S.hd, .int .i64 S.sz, .slice D.A2 S.l.length D.c2, .slice D.A3 S.h.length D.c3] 86)).heap.size = w.heap.size + 1 by simp] at h1
  exact ⟨(SAt.start 86 hs).alloc _, h1⟩
set_option maxHeartbeats 4000000 in
set_option maxRecDepth 20000 in
theorem rsame7_yes (S : Sh) (D E : Sx) (w : World) (hs : SR w w.heap.size S D) (ht : SR w w.heap.size S E) :
    Calls Try.prog 51 #[sv S D, sv S E] w fun e w' => e = .returned (.bool true) ∧ Below w.heap.size w w' := by
  have H0 := Lib.hid (TwAt7.start w S D E hs ht)
  have HG := Lib.hid (fun p q W (h : TwAt7 w p q S D E W) => gsame_yes D.A E.A S.cs.length S.cs.length D.c E.c S.hd S.sz S.cs W W.heap.size W.heap.size (Nat.le_refl _) (Nat.le_refl _) h.a.sr.ls h.b.sr.ls)
  have HT := Lib.hid (fun p q W (h : TwAt7 w p q S D E W) => rtsame_yes D.A2 E.A2 S.l.length S.l.length D.c2 E.c2 S.l D.A3 E.A3 S.h.length S.h.length D.c3 E.c3 S.h W h.a.sr.el h.b.sr.el h.a.sr.dl h.b.sr.dl)
  clear hs ht
  go_enter Try.func51, Try.ntmps51
  go_wp2_with fail
  obtain ⟨p, hp⟩ : ∃ p, p = w.heap.size := ⟨_, rfl⟩
  obtain ⟨q, hq⟩ : ∃ q, q = w.heap.size + 1 := ⟨_, rfl⟩
  rw [← hq, ← hp] at H0
  rw [← hq, ← hp]
  clear hq hp
  generalize (w.alloc (.cells #[.bool S.lv, .int .i64 S.lo, .int .i64 S.hi, .slice D.A S.cs.length D.c, .int .i64 S.hd, .int .i64 S.sz, .slice D.A2 S.l.length D.c2, .slice D.A3 S.h.length D.c3] 86)).alloc (.cells #[.bool S.lv, .int .i64 S.lo, .int .i64 S.hi, .slice E.A S.cs.length E.c, .int .i64 S.hd, .int .i64 S.sz, .slice E.A2 S.l.length E.c2, .slice E.A3 S.h.length E.c3] 86) = w2 at *
  refine (HG.out _ _ _ H0.out).mono ?_
  rintro e w3 ⟨rfl, hb⟩
  have H1 := Lib.hid (H0.out.below hb)
  clear hb
  obtain ⟨t0, t1, t2, t3, t4, t5, t6, t7, tl⟩ := H1.out.a.s8.facts
  obtain ⟨y0, y1, y2, y3, y4, y5, y6, y7, yl⟩ := H1.out.b.s8.facts
  go_wp2_with fail
  clear t0 t1 t2 t3 t4 t5 t6 t7 tl y0 y1 y2 y3 y4 y5 y6 y7 yl
  refine (HT.out _ _ _ H1.out).mono ?_
  rintro e w4 ⟨rfl, hb⟩
  have HB := Lib.hid (H1.out.below hb).a.bel
  clear hb
  go_wp2
  go_ret
  exact ⟨rfl, HB.out⟩
end Go.Proofs.Ytfkpkmcpepeaeaa
namespace Go.Proofs.Ytfkpkmcpepeaeaa
open Go.RowKit
set_option linter.unusedVariables false

/-- The slot at place k. -/
def og (l : List So) (k : Nat) : So := l.getD k ⟨0, zS⟩
theorem og_get {l : List So} {k : Nat} (h : k < l.length) : og l k = l[k] := by simp [og, List.getD, h]
theorem AR.at2 {W : World} {B : Nat} {a : Ar} {Y : Ax} {k : Nat} (h : AR W B a Y) (hk : k < a.sl.length) : ∃ (D : Sx) (b o : Nat), Y.A = some ⟨b, o, none⟩ ∧ b < B ∧ Q9 W b (o + k * 9) ⟨(og a.sl k).ow, (og a.sl k).sh, D⟩ ∧ SR W B (og a.sl k).sh D ∧ Y.q[k]? = some ⟨(og a.sl k).ow, (og a.sl k).sh, D⟩ := by
  obtain ⟨s, b, o, hq, hs, hA, hb, h9, hr⟩ := h.atg hk
  rw [og_get hk]
  obtain ⟨e1, e2⟩ := sl_so hs
  cases s with
  | mk x y z =>
    simp only at e1 e2
    subst e1 e2
    exact ⟨z, b, o, hA, hb, h9, hr, hq⟩
/-- Two equal arenas in boxes. -/
structure Ts12 (w : World) (p q : Nat) (a : Ar) (Y Z : Ax) (W : World) : Prop where
  pb : QB W p a Y
  qb : QB W q a Z
  pr : AR W W.heap.size a Y
  qr : AR W W.heap.size a Z
  bel : Below w.heap.size w W
section
variable {w W W' : World} {p q : Nat} {a : Ar} {Y Z : Ax}
theorem Ts12.below (h : Ts12 w p q a Y Z W) (hb : Below W.heap.size W W') : Ts12 w p q a Y Z W' := ⟨h.pb.up hb, h.qb.up hb, h.pr.up hb, h.qr.up hb, h.bel.trans (hb.mono h.bel.size)⟩
theorem Ts12.drew (h : Ts12 w p q a Y Z W) : Ts12 w p q a Y Z W.drew := h.below (Below.refl _ _).drew
theorem Ts12.start (w : World) (a : Ar) (Y Z : Ax) (hy : AR w w.heap.size a Y) (hz : AR w w.heap.size a Z) : Ts12 w w.heap.size (w.heap.size + 1) a Y Z ((w.alloc (.cells (acl a Y) 60)).alloc (.cells (acl a Z) 60)) := by
  have h1 := QB.start (w.alloc (.cells (acl a Y) 60)) a Z 60
  rw [show (w.alloc (.cells (acl a Y) 60)).heap.size = w.heap.size + 1 by simp] at h1
  exact ⟨(QB.start w a Y _).alloc _, h1, (hy.alloc _).alloc _, (hz.alloc _).alloc _, ((Below.refl _ _).alloc (Nat.le_refl _) _).alloc (by simp) _⟩
end
theorem q9_up {W W' : World} {b o : Nat} {s : Sl} (h : Q9 W b o s) (hl : b < W.heap.size) (hb : Below W.heap.size W W') : Q9 W' b o s := by
  have g : ∀ k, W'.cell? ⟨b, k, none⟩ = W.cell? ⟨b, k, none⟩ := fun k => hb.cell (p := ⟨b, k, none⟩) hl
  obtain ⟨k0, k1, k2, k3, k4, k5, k6, k7, k8⟩ := h
  exact ⟨(g _).trans k0, (g _).trans k1, (g _).trans k2, (g _).trans k3, (g _).trans k4, (g _).trans k5, (g _).trans k6, (g _).trans k7, (g _).trans k8⟩
/-- .. and a slot of each. -/
structure Tv12 (w : World) (p q : Nat) (a : Ar) (Y Z : Ax) (x y b o b' o' : Nat) (s s' : Sl) (W : World) : Prop where
  ts : Ts12 w p q a Y Z W
  ea : Y.A = some ⟨b, o, none⟩
  ez : Z.A = some ⟨b', o', none⟩
  ys : Q9 W b x s
  zs : Q9 W b' y s'
  bl : b < W.heap.size
  bl' : b' < W.heap.size
  sr : SR W W.heap.size s.sh s.sx
  sr' : SR W W.heap.size s'.sh s'.sx
abbrev C20 (p q : Nat) (n c n' c' x y b o b' o' : Nat) (s s' : Sl) (W : World) : Prop := (W.cell? ⟨p, 0, none⟩ = some (.slice (some ⟨b, o, none⟩) n c) ∧ W.cell? ⟨q, 0, none⟩ = some (.slice (some ⟨b', o', none⟩) n' c')) ∧ Q9 W b x s ∧ Q9 W b' y s'
section
variable {w W W' : World} {p q x y b o b' o' : Nat} {a : Ar} {Y Z : Ax} {s s' : Sl}
theorem Tv12.below (h : Tv12 w p q a Y Z x y b o b' o' s s' W) (hb : Below W.heap.size W W') : Tv12 w p q a Y Z x y b o b' o' s s' W' :=
  ⟨h.ts.below hb, h.ea, h.ez, q9_up h.ys h.bl hb, q9_up h.zs h.bl' hb, Nat.lt_of_lt_of_le h.bl hb.size, Nat.lt_of_lt_of_le h.bl' hb.size, h.sr.up hb, h.sr'.up hb⟩
theorem Tv12.drew (h : Tv12 w p q a Y Z x y b o b' o' s s' W) : Tv12 w p q a Y Z x y b o b' o' s s' W.drew := h.below (Below.refl _ _).drew
theorem Tv12.c (h : Tv12 w p q a Y Z x y b o b' o' s s' W) : C20 p q a.sl.length Y.c a.sl.length Z.c x y b o b' o' s s' W :=
  ⟨⟨by rw [← h.ea]; exact h.ts.pb.k.1, by rw [← h.ez]; exact h.ts.qb.k.1⟩, h.ys, h.zs⟩
end
set_option maxHeartbeats 8000000 in
set_option maxRecDepth 20000 in
theorem rsame12_yes (a : Ar) (Y Z : Ax) (w : World) (hy : AR w w.heap.size a Y) (hz : AR w w.heap.size a Z) (h100 : a.sl.length ≤ 1000) :
    Calls Try.prog 24 #[av a Y, av a Z] w fun e w' => e = .returned (.bool true) ∧ Below w.heap.size w w' := by
  have H0 := Lib.hid (Ts12.start w a Y Z hy hz)
  have HS1 := Lib.hid (fun p q W (k : Ts12 w p q a Y Z W) => rsame11_any Y.A2 Z.A2 a.st.length a.st.length Y.c2 Z.c2 a.st a.st W k.pr.tl k.qr.tl)
  have HS2 := Lib.hid (fun p q W (k : Ts12 w p q a Y Z W) => rsame8_yes a.cap Y.A3 Z.A3 a.dl.length a.dl.length Y.c3 Z.c3 a.dl W k.pr.ls k.qr.ls)
  have HS3 := Lib.hid (fun p q W (k : Ts12 w p q a Y Z W) => rsame10_yes a.dir Y.D Z.D W k.pr.dr k.qr.dr)
  rw [sm_self] at HS1
  have HLN := Lib.hid h100
  obtain ⟨p, hp⟩ : ∃ p, p = w.heap.size := ⟨_, rfl⟩
  obtain ⟨q, hq⟩ : ∃ q, q = w.heap.size + 1 := ⟨_, rfl⟩
  have HPP := Lib.hid (And.intro hp hq)
  clear hp hq hy hz h100
  go_enter Try.func24, Try.ntmps24
  go_upto_region 1 with (fail)
  rw [← HPP.out.2, ← HPP.out.1] at H0
  generalize (w.alloc (.cells (acl a Y) 60)).alloc (.cells (acl a Z) 60) = w1 at *
  rw [← HPP.out.2, ← HPP.out.1]
  obtain ⟨y0, y1, y2, y3, y4, y5, y6, y7, y8, y9, y10⟩ := H0.out.pb.k
  obtain ⟨z0, z1, z2, z3, z4, z5, z6, z7, z8, z9, z10⟩ := H0.out.qb.k
  have yl := H0.out.pb.lt
  have zl := H0.out.qb.lt
  go_wp2_with fail
  clear y0 y1 y2 y3 y4 y5 y6 y7 y8 y9 y10 yl z0 z1 z2 z3 z4 z5 z6 z7 z8 z9 z10 zl
  refine (HS1.out _ _ _ H0.out).mono ?_
  rintro e w2 ⟨rfl, hb⟩
  have H1 := Lib.hid (H0.out.below hb)
  clear hb H0
  obtain ⟨y0, y1, y2, y3, y4, y5, y6, y7, y8, y9, y10⟩ := H1.out.pb.k
  obtain ⟨z0, z1, z2, z3, z4, z5, z6, z7, z8, z9, z10⟩ := H1.out.qb.k
  have yl := H1.out.pb.lt
  have zl := H1.out.qb.lt
  go_wp2_with fail
  clear y0 y1 y2 y3 y4 y5 y6 y7 y8 y9 y10 yl z0 z1 z2 z3 z4 z5 z6 z7 z8 z9 z10 zl
  refine (HS2.out _ _ _ H1.out).mono ?_
  rintro e w3 ⟨rfl, hb⟩
  have H2 := Lib.hid (H1.out.below hb)
  clear hb H1
  obtain ⟨y0, y1, y2, y3, y4, y5, y6, y7, y8, y9, y10⟩ := H2.out.pb.k
  obtain ⟨z0, z1, z2, z3, z4, z5, z6, z7, z8, z9, z10⟩ := H2.out.qb.k
  have yl := H2.out.pb.lt
  have zl := H2.out.qb.lt
  go_wp2_with fail
  clear y0 y1 y2 y3 y4 y5 y6 y7 y8 y9 y10 yl z0 z1 z2 z3 z4 z5 z6 z7 z8 z9 z10 zl
  refine (HS3.out _ _ _ H2.out).mono ?_
  rintro e w4 ⟨rfl, hb⟩
  have H3 := Lib.hid (H2.out.below hb)
  clear hb H2 HS1 HS2 HS3
  obtain ⟨y0, y1, y2, y3, y4, y5, y6, y7, y8, y9, y10⟩ := H3.out.pb.k
  obtain ⟨z0, z1, z2, z3, z4, z5, z6, z7, z8, z9, z10⟩ := H3.out.qb.k
  have yl := H3.out.pb.lt
  have zl := H3.out.qb.lt
  go_wp2_with fail
  clear y0 y1 y2 y3 y4 y5 y6 y7 y8 y9 y10 yl z0 z1 z2 z3 z4 z5 z6 z7 z8 z9 z10 zl
  go_loopw [5] (fun iv wr => ∃ i : Nat, iv = .int .i64 i ∧ i ≤ a.sl.length ∧ Hid (Ts12 w p q a Y Z wr)) (fun iv _ => a.sl.length - (intOf iv).toNat)
  case atStart => exact ⟨0, rfl, Nat.zero_le _, H3⟩
  case round =>
    clear H3
    obtain ⟨i, rfl, hi, H⟩ := hrel
    obtain ⟨y0, y1, y2, y3, y4, y5, y6, y7, y8, y9, y10⟩ := H.out.pb.k
    have yl := H.out.pb.lt
    by_cases hlt : i < a.sl.length
    · have hlt' : (i : Int) < (a.sl.length : Int) := by omega
      have hw2 : IntKind.i64.wrap ((i : Int) + 1) = (i : Int) + 1 := IntWalk.i64_in _ (by have := HLN.out; omega)
      have hbb : ∃ (D E : Sx) (b o b' o' : Nat), Tv12 w p q a Y Z (o + i * 9) (o' + i * 9) b o b' o' ⟨(og a.sl i).ow, (og a.sl i).sh, D⟩ ⟨(og a.sl i).ow, (og a.sl i).sh, E⟩ wr := by
        obtain ⟨D, b, o, hA, hb, h9, hr, -⟩ := H.out.pr.at2 hlt
        obtain ⟨E, b', o', hA', hb', h9', hr', -⟩ := H.out.qr.at2 hlt
        exact ⟨D, E, b, o, b', o', H.out, hA, hA', h9, h9', hb, hb', hr, hr'⟩
      obtain ⟨D, E, b, o, b', o', hv⟩ := hbb
      have HM := Lib.hid hv.drew
      have HS := Lib.hid HM.out.c
      have HS7 := Lib.hid (fun W (k : Tv12 w p q a Y Z (o + i * 9) (o' + i * 9) b o b' o' ⟨(og a.sl i).ow, (og a.sl i).sh, D⟩ ⟨(og a.sl i).ow, (og a.sl i).sh, E⟩ W) => rsame7_yes (og a.sl i).sh D E W k.sr k.sr')
      clear hv H
      generalize og a.sl i = T at *
      obtain ⟨t, S⟩ := T
      simp only at HM HS HS7
      go_wp2
      trace_state
      go_region_held3 (fun W => C20 p q a.sl.length Y.c a.sl.length Z.c (o + i * 9) (o' + i * 9) b o b' o' ⟨t, S, D⟩ ⟨t, S, E⟩ W)
        (first | with_reducible exact HS.out)
        (first | (go_at_call 51; (with_reducible refine (HS7.out _ HM.out).mono ?_); rintro e w5 ⟨rfl, hb⟩; have HM := Lib.hid (HM.out.below hb); have HS := Lib.hid HM.out.c; clear hb))
      all_goals
        have HF := Lib.hid HM.out.ts
        clear HS HM HS7
        go_wp2
        go_roundw
        case rel => exact ⟨i + 1, by go_num, by omega, HF⟩
        case measure => simp [intOf]; omega
    · obtain rfl : i = a.sl.length := by omega
      go_wp2
      go_ret
      exact ⟨rfl, H.out.bel⟩
end Go.Proofs.Ytfkpkmcpepeaeaa
namespace Go.Proofs.Ytfkpkmcpepeaeaa
open Go.RowKit
set_option linter.unusedVariables false

theorem sg_nwL {n k i : Nat} (h : i < k) : sg (nwL n k) i = ⟨(i : Int) * 65536 / n, ((i : Int) + 1) * 65536 / n - 1, i⟩ := by
  rw [sg_get (by rw [nwL_len]; exact h)]
  simp [nwL]
theorem nwD_ok {n m : Nat} (h1 : 1 ≤ m) (h2 : m ≤ n) (h3 : n ≤ 6) : nwD n m = ⟨1, nwL m m, List.replicate n (-1)⟩ := by
  have hE : nwE10 n m = 0 := by unfold nwE10; rw [if_pos (by omega)]
  unfold nwD
  rw [if_pos hE]
  simp
theorem ffS_nw {n m : Nat} (h1 : 1 ≤ m) (h2 : m ≤ n) (h3 : n ≤ 6) (i k : Nat) : ffS (nwD n m) i k = if i < m then neS (k : Int) (sg (nwD n m).l i).lo (sg (nwD n m).l i).hi else frS k := by
  have hv := nw_va h1 h2 h3
  have hl : (nwD n m).l = nwL m m := by rw [nwD_ok h1 h2 h3]
  have hll : (nwD n m).l.length = m := by rw [hl, nwL_len]
  unfold ffS spnB spnD
  rcases ixS_cases (nwD n m).l (i : Int) with ⟨e, hno⟩ | ⟨j, e, hj, hs, -⟩
  · have hi : ¬ i < m := fun h => hno i (by omega) (by rw [hl, sg_nwL h])
    rw [if_neg (by rw [e]; simp), if_neg hi]
  · rw [hll] at hj
    have : j = i := by rw [hl, sg_nwL hj] at hs; simp only at hs; omega
    subst this
    rw [if_pos (by rw [e]; simp [hv]), if_pos hj, if_pos ⟨hv, by rw [e]; omega⟩, e]
    simp
theorem Db10.grownN {W W' : World} {g : Option Nat} {z : Nat} {d : Dd} {X : Dx} (h : Db10 W z d X) (hg : W.grownBy W' g) (ho : ∀ x, g = some x → z ≠ x) : Db10 W' z d X := by
  cases g with
  | none => exact h.up ((Below.refl _ _).grown hg (Nat.le_refl _) (fun k e => by cases e))
  | some x => exact h.grown hg (ho x rfl)
/-- An arena that grows, and the directory's box. -/
structure Gr12 (w : World) (p r z y : Nat) (s : Su) (i k : Nat) (A : Option Addr) (c1 : Nat) (q : List Sl) (A2 : Option Addr) (c2 : Nat) (X : Dx) (W : World) : Prop where
  gw : Gw12 w p r y s 0 i k A c1 q A2 c2 X W
  zb : Db10 W z (nwD s.sl s.lv) X
  zy : r < z ∧ z < y
section
variable {w W W' : World} {p r z y : Nat} {s : Su} {i k : Nat} {A A2 : Option Addr} {c1 c2 : Nat} {q : List Sl} {X : Dx}
theorem Gr12.below (h : Gr12 w p r z y s i k A c1 q A2 c2 X W) (hb : Below W.heap.size W W') : Gr12 w p r z y s i k A c1 q A2 c2 X W' := ⟨h.gw.below hb, h.zb.up hb, h.zy⟩
theorem Gr12.alloc (h : Gr12 w p r z y s i k A c1 q A2 c2 X W) (o : Obj) : Gr12 w p r z y s i k A c1 q A2 c2 X (W.alloc o) := h.below ((Below.refl _ _).alloc (Nat.le_refl _) o)
theorem Gr12.drew (h : Gr12 w p r z y s i k A c1 q A2 c2 X W) : Gr12 w p r z y s i k A c1 q A2 c2 X W.drew := h.below (Below.refl _ _).drew
theorem Gr12.slot {W0 : World} (h0 : Gw12 w p r y s 0 i k A c1 q A2 c2 X W0) (h : Gr12 w p r z y s i k A c1 q A2 c2 X W) {T : Sl} (hso : T.so = nwSl s i) (hsr : SR W W.heap.size T.sh T.sx) (hsn : T.sx.nw W0.heap.size)
    {g1 cp1 : Nat} (ho : W'.ownsRow (y + 1) 89 9 (.slice (some ⟨g1, 0, none⟩) (i + 1) cp1) (i + 1) (qcs q ++ T.l)) (hg : W.grownBy W' (Value.slice A i c1).ownBlock) (hat : (Value.slice A i c1).ownBlock = some g1 ∨ g1 = W.heap.size) :
    Gr12 w p r z y s (i + 1) k (some ⟨g1, 0, none⟩) cp1 (q ++ [T]) A2 c2 X (W'.setCell ⟨y, 0, none⟩ (.slice (some ⟨g1, 0, none⟩) (i + 1) cp1)) :=
  ⟨h0.slot h.gw hso hsr hsn ho hg hat, (h.zb.grownN hg (fun x e => by have := (h.gw.o1.lt x e).1; have := h.zy; omega)).other (a := ⟨y, 0, none⟩) (show y ≠ z by have := h.zy; omega) _, h.zy⟩
theorem Gr12.stripe (h : Gr12 w p r z y s i k A c1 q A2 c2 X W)
    {g1 cp1 : Nat} (ho : W'.ownsRow (y + 1) 91 4 (.slice (some ⟨g1, 0, none⟩) (k + 1) cp1) (k + 1) (tcs (List.replicate k (stE s)) ++ (stE s).l)) (hg : W.grownBy W' (Value.slice A2 k c2).ownBlock) (hat : (Value.slice A2 k c2).ownBlock = some g1 ∨ g1 = W.heap.size) :
    Gr12 w p r z y s i (k + 1) A c1 q (some ⟨g1, 0, none⟩) cp1 X (W'.setCell ⟨y, 1, none⟩ (.slice (some ⟨g1, 0, none⟩) (k + 1) cp1)) :=
  ⟨h.gw.stripe ho hg hat, (h.zb.grownN hg (fun x e => by have := (h.gw.o2.lt x e).1; have := h.zy; omega)).other (a := ⟨y, 1, none⟩) (show y ≠ z by have := h.zy; omega) _, h.zy⟩
/-- A store into a box that is none of these. -/
theorem Gr12.sets (h : Gr12 w p r z y s i k A c1 q A2 c2 X W) {x : Nat} (hb : Below x W W') (hx : W.heap.size ≤ x) : Gr12 w p r z y s i k A c1 q A2 c2 X W' := h.below (hb.mono hx)
end
/-- The box of the next shard, since the world w0. -/
structure Gx12 (w : World) (p r z y x : Nat) (w0 : World) (s : Su) (i : Nat) (A : Option Addr) (c1 : Nat) (q : List Sl) (A2 : Option Addr) (c2 : Nat) (X : Dx) (S : Sh) (D : Sx) (W : World) : Prop where
  g0 : Gr12 w p r z y s i i A c1 q A2 c2 X w0
  b0 : Below w0.heap.size w0 W
  xb : SB8 W x S D
  xr : SR W W.heap.size S D
  xn : D.nw w0.heap.size
  xl : w0.heap.size ≤ x
section
variable {w w0 W W' : World} {p r z y x : Nat} {s : Su} {i : Nat} {A A2 : Option Addr} {c1 c2 : Nat} {q : List Sl} {X : Dx} {S S' : Sh} {D E : Sx}
theorem Gx12.gr (h : Gx12 w p r z y x w0 s i A c1 q A2 c2 X S D W) : Gr12 w p r z y s i i A c1 q A2 c2 X W := h.g0.below h.b0
/-- Another shard is stored. -/
theorem Gx12.put (h : Gx12 w p r z y x w0 s i A c1 q A2 c2 X S D W) (hb : Below W.heap.size W W') (hr : SR W' W'.heap.size S' E) (hn : E.nw W.heap.size) : Gx12 w p r z y x w0 s i A c1 q A2 c2 X S' E (set8s W' x S' E) :=
  ⟨h.g0, set8s_below h.xl (h.b0.trans (hb.mono h.b0.size)) _ _, (h.xb.up hb).put S' E, SR.sets (hn.off h.xb.lt) (S'.l8 E) 0 W' hr, hn.low h.b0.size, h.xl⟩
/-- The cells that the draw of the next shard loads. -/
abbrev C4q (p z b o m c k i : Nat) (M : Sp) (W : World) : Prop := W.cell? ⟨p, 2, none⟩ = some (.int .i64 (k : Int)) ∧ W.cell? ⟨z, 1, none⟩ = some (.slice (some ⟨b, o, none⟩) m c) ∧ W.cell? ⟨b, o + i * 3, none⟩ = some (.int .i64 M.lo) ∧ W.cell? ⟨b, o + i * 3 + 1, none⟩ = some (.int .i64 M.hi)
theorem Gr12.c4 (h : Gr12 w p r z y s i i A c1 q A2 c2 X w0) {m k : Nat} (hk : s.cp = (k : Int)) (hm : (nwD s.sl s.lv).l.length = m) (hi : i < m) : ∃ b o, ∀ W, Below w0.heap.size w0 W → C4q p z b o m X.c k i (sg (nwD s.sl s.lv).l i) W := by
  obtain ⟨b, o, e, hb, h1, h2, -⟩ := h.gw.dr.pl.atg (k := i) (by omega)
  refine ⟨b, o, fun W hW => ⟨?_, ?_, ?_, ?_⟩⟩
  · rw [← hk]; exact (hW.cell (p := ⟨p, 2, none⟩) h.gw.sb.lt).trans h.gw.sb.k.2.2.1
  · rw [← e, ← hm]; exact (hW.cell (p := ⟨z, 1, none⟩) h.zb.lt).trans h.zb.c1
  · exact (hW.cell (p := ⟨b, o + i * 3, none⟩) hb).trans h1
  · exact (hW.cell (p := ⟨b, o + i * 3 + 1, none⟩) hb).trans h2
end

set_option maxHeartbeats 8000000 in
set_option maxRecDepth 20000 in
theorem arnew_any (s : Su) (w : World) : Calls Try.prog 23 #[s.v] w (AE w (nwA s) (nwAE s)) := by
  have H0 := Lib.hid (Pn12.start w s)
  have HWI := Lib.hid (fun n lo hi W => rin12_any n lo hi W)
  obtain ⟨p, hp⟩ : ∃ p, p = w.heap.size := ⟨_, rfl⟩
  obtain ⟨r, hr⟩ : ∃ r, r = w.heap.size + 1 := ⟨_, rfl⟩
  have HPP := Lib.hid (And.intro hp hr)
  clear hp hr
  obtain ⟨b0, hb0⟩ : ∃ b, b = wi s.sl 1 6 := ⟨_, rfl⟩
  have H01 := Lib.hid hb0.symm
  clear hb0
  obtain ⟨b1, hb1⟩ : ∃ b, b = wi s.lv 1 s.sl := ⟨_, rfl⟩
  have H11 := Lib.hid hb1.symm
  clear hb1
  obtain ⟨b2, hb2⟩ : ∃ b, b = wi s.cp 1 12 := ⟨_, rfl⟩
  have H21 := Lib.hid hb2.symm
  clear hb2
  obtain ⟨b3, hb3⟩ : ∃ b, b = wi s.dd 1 24 := ⟨_, rfl⟩
  have H31 := Lib.hid hb3.symm
  clear hb3
  obtain ⟨b4, hb4⟩ : ∃ b, b = wi s.lm 1 8 := ⟨_, rfl⟩
  have H41 := Lib.hid hb4.symm
  clear hb4
  obtain ⟨b5, hb5⟩ : ∃ b, b = wi s.ck 0 1073741824 := ⟨_, rfl⟩
  have H51 := Lib.hid hb5.symm
  clear hb5
  obtain ⟨b6, hb6⟩ : ∃ b, b = wi s.ni 1 1073741824 := ⟨_, rfl⟩
  have H61 := Lib.hid hb6.symm
  clear hb6
  obtain ⟨b7, hb7⟩ : ∃ b, b = wi s.ep 0 65536 := ⟨_, rfl⟩
  have H71 := Lib.hid hb7.symm
  clear hb7
  have HSU := Lib.hid (show suB s = (((((((b0 && b1) && b2) && b3) && b4) && b5) && b6) && b7) from by unfold suB; rw [H01.out, H11.out, H21.out, H31.out, H41.out, H51.out, H61.out, H71.out])
  go_enter Try.func23, Try.ntmps23
  go_wp2_with fail
  rw [← HPP.out.2, ← HPP.out.1] at H0
  generalize (w.alloc (.cells #[.int .i64 s.sl, .int .i64 s.lv, .int .i64 s.cp, .int .i64 s.dd, .int .i64 s.lm, .int .i64 s.ck, .int .i64 s.ni, .int .i64 s.ep] 50)).alloc (.cells #[.slice none 0 0, .slice none 0 0, .int .i64 0, .int .i64 0, .slice none 0 0, .int .i64 0, .slice none 0 0, .slice none 0 0, .int .i64 0, .int .i64 0, .int .i64 0] 60) = w1 at *
  rw [← HPP.out.2, ← HPP.out.1]
  obtain ⟨k0, k1, k2, k3, k4, k5, k6, k7⟩ := H0.out.sb.k
  have kl := H0.out.sb.lt
  go_wp2_with fail
  refine (HWI.out _ _ _ _).mono ?_
  rintro e w3 ⟨rfl, rfl⟩
  rw [H01.out]
  cases b0 with
  | false =>
    have HSF := Lib.hid (show suB s = false from by rw [HSU.out]; simp)
    have HF := Lib.hid (show AE w (nwA s) (nwAE s) (.returned (.tuple #[av zA zAx, .int .i64 1])) (set11 w1 r zA zAx) from by
      rw [show nwA s = zA from if_neg (by rw [HSF.out]; decide), show nwAE s = 1 from if_neg (by rw [HSF.out]; decide)]
      have := H0.out.ne
      exact ae_out (y := r) (by omega) H0.out.bel (zAx_nw _) (Nat.le_refl _) AR.zero 1)
    obtain ⟨r0, r1, r2, r3, r4, r5, r6, r7, r8, r9, r10⟩ := H0.out.rb.k
    obtain ⟨f0, f1, f2, f3, f4, f5, f6, f7, f8, f9, f10⟩ := H0.out.rb.free
    have rl := H0.out.rb.lt
    clear HSF H0
    go_wp2
    exact bodyPost_ret (v := .tuple #[.agg #[.slice none 0 0, .slice none 0 0, .int .i64 0, .int .i64 0, .slice none 0 0, .int .i64 0, .slice none 0 0, .slice none 0 0, .int .i64 0, .int .i64 0, .int .i64 0], .int .i64 1]) (by simp only [results, Try.results23]; go_simp <;> rfl) rfl HF.out
  | true =>
    go_wp2_with fail
    refine (HWI.out _ _ _ _).mono ?_
    rintro e w3 ⟨rfl, rfl⟩
    rw [H11.out]
    cases b1 with
    | false =>
      have HSF := Lib.hid (show suB s = false from by rw [HSU.out]; simp)
      have HF := Lib.hid (show AE w (nwA s) (nwAE s) (.returned (.tuple #[av zA zAx, .int .i64 1])) (set11 w1 r zA zAx) from by
        rw [show nwA s = zA from if_neg (by rw [HSF.out]; decide), show nwAE s = 1 from if_neg (by rw [HSF.out]; decide)]
        have := H0.out.ne
        exact ae_out (y := r) (by omega) H0.out.bel (zAx_nw _) (Nat.le_refl _) AR.zero 1)
      obtain ⟨r0, r1, r2, r3, r4, r5, r6, r7, r8, r9, r10⟩ := H0.out.rb.k
      obtain ⟨f0, f1, f2, f3, f4, f5, f6, f7, f8, f9, f10⟩ := H0.out.rb.free
      have rl := H0.out.rb.lt
      clear HSF H0
      go_wp2
      exact bodyPost_ret (v := .tuple #[.agg #[.slice none 0 0, .slice none 0 0, .int .i64 0, .int .i64 0, .slice none 0 0, .int .i64 0, .slice none 0 0, .slice none 0 0, .int .i64 0, .int .i64 0, .int .i64 0], .int .i64 1]) (by simp only [results, Try.results23]; go_simp <;> rfl) rfl HF.out
    | true =>
      go_wp2_with fail
      refine (HWI.out _ _ _ _).mono ?_
      rintro e w3 ⟨rfl, rfl⟩
      rw [H21.out]
      cases b2 with
      | false =>
        have HSF := Lib.hid (show suB s = false from by rw [HSU.out]; simp)
        have HF := Lib.hid (show AE w (nwA s) (nwAE s) (.returned (.tuple #[av zA zAx, .int .i64 1])) (set11 w1 r zA zAx) from by
          rw [show nwA s = zA from if_neg (by rw [HSF.out]; decide), show nwAE s = 1 from if_neg (by rw [HSF.out]; decide)]
          have := H0.out.ne
          exact ae_out (y := r) (by omega) H0.out.bel (zAx_nw _) (Nat.le_refl _) AR.zero 1)
        obtain ⟨r0, r1, r2, r3, r4, r5, r6, r7, r8, r9, r10⟩ := H0.out.rb.k
        obtain ⟨f0, f1, f2, f3, f4, f5, f6, f7, f8, f9, f10⟩ := H0.out.rb.free
        have rl := H0.out.rb.lt
        clear HSF H0
        go_wp2
        exact bodyPost_ret (v := .tuple #[.agg #[.slice none 0 0, .slice none 0 0, .int .i64 0, .int .i64 0, .slice none 0 0, .int .i64 0, .slice none 0 0, .slice none 0 0, .int .i64 0, .int .i64 0, .int .i64 0], .int .i64 1]) (by simp only [results, Try.results23]; go_simp <;> rfl) rfl HF.out
      | true =>
        go_wp2_with fail
        refine (HWI.out _ _ _ _).mono ?_
        rintro e w3 ⟨rfl, rfl⟩
        rw [H31.out]
        cases b3 with
        | false =>
          have HSF := Lib.hid (show suB s = false from by rw [HSU.out]; simp)
          have HF := Lib.hid (show AE w (nwA s) (nwAE s) (.returned (.tuple #[av zA zAx, .int .i64 1])) (set11 w1 r zA zAx) from by
            rw [show nwA s = zA from if_neg (by rw [HSF.out]; decide), show nwAE s = 1 from if_neg (by rw [HSF.out]; decide)]
            have := H0.out.ne
            exact ae_out (y := r) (by omega) H0.out.bel (zAx_nw _) (Nat.le_refl _) AR.zero 1)
          obtain ⟨r0, r1, r2, r3, r4, r5, r6, r7, r8, r9, r10⟩ := H0.out.rb.k
          obtain ⟨f0, f1, f2, f3, f4, f5, f6, f7, f8, f9, f10⟩ := H0.out.rb.free
          have rl := H0.out.rb.lt
          clear HSF H0
          go_wp2
          exact bodyPost_ret (v := .tuple #[.agg #[.slice none 0 0, .slice none 0 0, .int .i64 0, .int .i64 0, .slice none 0 0, .int .i64 0, .slice none 0 0, .slice none 0 0, .int .i64 0, .int .i64 0, .int .i64 0], .int .i64 1]) (by simp only [results, Try.results23]; go_simp <;> rfl) rfl HF.out
        | true =>
          go_wp2_with fail
          refine (HWI.out _ _ _ _).mono ?_
          rintro e w3 ⟨rfl, rfl⟩
          rw [H41.out]
          cases b4 with
          | false =>
            have HSF := Lib.hid (show suB s = false from by rw [HSU.out]; simp)
            have HF := Lib.hid (show AE w (nwA s) (nwAE s) (.returned (.tuple #[av zA zAx, .int .i64 1])) (set11 w1 r zA zAx) from by
              rw [show nwA s = zA from if_neg (by rw [HSF.out]; decide), show nwAE s = 1 from if_neg (by rw [HSF.out]; decide)]
              have := H0.out.ne
              exact ae_out (y := r) (by omega) H0.out.bel (zAx_nw _) (Nat.le_refl _) AR.zero 1)
            obtain ⟨r0, r1, r2, r3, r4, r5, r6, r7, r8, r9, r10⟩ := H0.out.rb.k
            obtain ⟨f0, f1, f2, f3, f4, f5, f6, f7, f8, f9, f10⟩ := H0.out.rb.free
            have rl := H0.out.rb.lt
            clear HSF H0
            go_wp2
            exact bodyPost_ret (v := .tuple #[.agg #[.slice none 0 0, .slice none 0 0, .int .i64 0, .int .i64 0, .slice none 0 0, .int .i64 0, .slice none 0 0, .slice none 0 0, .int .i64 0, .int .i64 0, .int .i64 0], .int .i64 1]) (by simp only [results, Try.results23]; go_simp <;> rfl) rfl HF.out
          | true =>
            go_wp2_with fail
            refine (HWI.out _ _ _ _).mono ?_
            rintro e w3 ⟨rfl, rfl⟩
            rw [H51.out]
            cases b5 with
            | false =>
              have HSF := Lib.hid (show suB s = false from by rw [HSU.out]; simp)
              have HF := Lib.hid (show AE w (nwA s) (nwAE s) (.returned (.tuple #[av zA zAx, .int .i64 1])) (set11 w1 r zA zAx) from by
                rw [show nwA s = zA from if_neg (by rw [HSF.out]; decide), show nwAE s = 1 from if_neg (by rw [HSF.out]; decide)]
                have := H0.out.ne
                exact ae_out (y := r) (by omega) H0.out.bel (zAx_nw _) (Nat.le_refl _) AR.zero 1)
              obtain ⟨r0, r1, r2, r3, r4, r5, r6, r7, r8, r9, r10⟩ := H0.out.rb.k
              obtain ⟨f0, f1, f2, f3, f4, f5, f6, f7, f8, f9, f10⟩ := H0.out.rb.free
              have rl := H0.out.rb.lt
              clear HSF H0
              go_wp2
              exact bodyPost_ret (v := .tuple #[.agg #[.slice none 0 0, .slice none 0 0, .int .i64 0, .int .i64 0, .slice none 0 0, .int .i64 0, .slice none 0 0, .slice none 0 0, .int .i64 0, .int .i64 0, .int .i64 0], .int .i64 1]) (by simp only [results, Try.results23]; go_simp <;> rfl) rfl HF.out
            | true =>
              go_wp2_with fail
              refine (HWI.out _ _ _ _).mono ?_
              rintro e w3 ⟨rfl, rfl⟩
              rw [H61.out]
              cases b6 with
              | false =>
                have HSF := Lib.hid (show suB s = false from by rw [HSU.out]; simp)
                have HF := Lib.hid (show AE w (nwA s) (nwAE s) (.returned (.tuple #[av zA zAx, .int .i64 1])) (set11 w1 r zA zAx) from by
                  rw [show nwA s = zA from if_neg (by rw [HSF.out]; decide), show nwAE s = 1 from if_neg (by rw [HSF.out]; decide)]
                  have := H0.out.ne
                  exact ae_out (y := r) (by omega) H0.out.bel (zAx_nw _) (Nat.le_refl _) AR.zero 1)
                obtain ⟨r0, r1, r2, r3, r4, r5, r6, r7, r8, r9, r10⟩ := H0.out.rb.k
                obtain ⟨f0, f1, f2, f3, f4, f5, f6, f7, f8, f9, f10⟩ := H0.out.rb.free
                have rl := H0.out.rb.lt
                clear HSF H0
                go_wp2
                exact bodyPost_ret (v := .tuple #[.agg #[.slice none 0 0, .slice none 0 0, .int .i64 0, .int .i64 0, .slice none 0 0, .int .i64 0, .slice none 0 0, .slice none 0 0, .int .i64 0, .int .i64 0, .int .i64 0], .int .i64 1]) (by simp only [results, Try.results23]; go_simp <;> rfl) rfl HF.out
              | true =>
                go_wp2_with fail
                refine (HWI.out _ _ _ _).mono ?_
                rintro e w3 ⟨rfl, rfl⟩
                rw [H71.out]
                cases b7 with
                | false =>
                  have HSF := Lib.hid (show suB s = false from by rw [HSU.out]; simp)
                  have HF := Lib.hid (show AE w (nwA s) (nwAE s) (.returned (.tuple #[av zA zAx, .int .i64 1])) (set11 w1 r zA zAx) from by
                    rw [show nwA s = zA from if_neg (by rw [HSF.out]; decide), show nwAE s = 1 from if_neg (by rw [HSF.out]; decide)]
                    have := H0.out.ne
                    exact ae_out (y := r) (by omega) H0.out.bel (zAx_nw _) (Nat.le_refl _) AR.zero 1)
                  obtain ⟨r0, r1, r2, r3, r4, r5, r6, r7, r8, r9, r10⟩ := H0.out.rb.k
                  obtain ⟨f0, f1, f2, f3, f4, f5, f6, f7, f8, f9, f10⟩ := H0.out.rb.free
                  have rl := H0.out.rb.lt
                  clear HSF H0
                  go_wp2
                  exact bodyPost_ret (v := .tuple #[.agg #[.slice none 0 0, .slice none 0 0, .int .i64 0, .int .i64 0, .slice none 0 0, .int .i64 0, .slice none 0 0, .slice none 0 0, .int .i64 0, .int .i64 0, .int .i64 0], .int .i64 1]) (by simp only [results, Try.results23]; go_simp <;> rfl) rfl HF.out
                | true =>
                  have HST := Lib.hid (show suB s = true from by rw [HSU.out]; rfl)
                  have HOK := Lib.hid (suB_iff.1 HST.out)
                  have HA2 := Lib.hid (show nwA s = grA s s.sl.toNat s.sl.toNat s.dd from if_pos HST.out)
                  have HE2 := Lib.hid (show nwAE s = 0 from if_pos HST.out)
                  have HCP := Lib.hid (show nw8 s.dd = s.dd from if_pos (wi_true HOK.out.2.2.2.1.1 HOK.out.2.2.2.1.2))
                  have HDE := Lib.hid (fun W => rnew8_any s.dd W)
                  rw [HCP.out] at HDE
                  obtain ⟨n, hn⟩ : ∃ n : Nat, n = s.sl.toNat := ⟨_, rfl⟩
                  obtain ⟨m, hm⟩ : ∃ m : Nat, m = s.lv.toNat := ⟨_, rfl⟩
                  have HNN := Lib.hid (show (s.sl = (n : Int) ∧ n ≤ 6) ∧ s.lv = (m : Int) ∧ 1 ≤ m ∧ m ≤ n from by have := HOK.out; unfold Su.Ok at this; omega)
                  obtain ⟨k, hk⟩ : ∃ k : Nat, k = s.cp.toNat := ⟨_, rfl⟩
                  have HKK := Lib.hid (show s.cp = (k : Int) ∧ 1 ≤ k ∧ k ≤ 12 ∧ k = s.cp.toNat from by have := HOK.out; unfold Su.Ok at this; omega)
                  have HFF := Lib.hid (fun (i : Nat) => show ffS (nwD s.sl s.lv) i k = if i < m then neS (k : Int) (sg (nwD s.sl s.lv).l i).lo (sg (nwD s.sl s.lv).l i).hi else frS k from by
                    have h := HNN.out
                    rw [h.1.1, h.2.1]
                    exact ffS_nw h.2.2.1 h.2.2.2 h.1.2 i k)
                  have HLL := Lib.hid (show (nwD s.sl s.lv).l.length = m from by
                    have h := HNN.out
                    rw [h.1.1, h.2.1, nwD_ok h.2.2.1 h.2.2.2 h.1.2]
                    exact nwL_len _ _)
                  rw [← hn] at HA2
                  clear hn hm hk HWI H01 H11 H21 H31 H41 H51 H61 H71 HSU HST HCP
                  obtain ⟨i0, hi0, hz0⟩ := Option.map_eq_some_iff.1 info_sl
                  obtain ⟨i1, hi1, hz1⟩ := Option.map_eq_some_iff.1 info_st12
                  simp only [Prod.mk.injEq] at hz0 hz1
                  have HI := Lib.hid hi0
                  have HZ := Lib.hid hz0
                  have HI1 := Lib.hid hi1
                  have HZ1 := Lib.hid hz1
                  clear hi0 hz0 hi1 hz1
                  go_wp2_with fail
                  clear k0 k1 k2 k3 k4 k5 k6 k7 kl
                  refine (rnew10_any s.sl s.lv _).mono ?_
                  rintro e w2 ⟨X, rfl, hnw, hdr, hb⟩
                  have HP1 := Lib.hid ((H0.out.below hb).below ((Below.refl _ _).alloc (Nat.le_refl _) (.cells #[.int .i64 (nwD s.sl s.lv).vn, .slice X.A (nwD s.sl s.lv).l.length X.c, .slice X.A2 (nwD s.sl s.lv).F.length X.c2] 25)))
                  have HB1 := Lib.hid (Db10.start w2 (nwD s.sl s.lv) X 25)
                  have HD1 := Lib.hid (hdr.alloc (.cells #[.int .i64 (nwD s.sl s.lv).vn, .slice X.A (nwD s.sl s.lv).l.length X.c, .slice X.A2 (nwD s.sl s.lv).F.length X.c2] 25))
                  have HX1 := Lib.hid (show X.nw (r + 1) ∧ (∀ y, w2.heap.size ≤ y → DOff (nwD s.sl s.lv) X y) ∧ r < w2.heap.size from ⟨hnw.low H0.out.rb.lt, fun y hy => hdr.offs hy, Nat.lt_of_lt_of_le H0.out.rb.lt hb.size⟩)
                  clear hnw hdr hb H0
                  go_upto_region 4 with (fail)
                  obtain ⟨z, hz⟩ : ∃ z, z = w2.heap.size := ⟨_, rfl⟩
                  rw [← hz] at HB1 HX1 ⊢
                  clear hz
                  generalize w2.alloc (.cells #[.int .i64 (nwD s.sl s.lv).vn, .slice X.A (nwD s.sl s.lv).l.length X.c, .slice X.A2 (nwD s.sl s.lv).F.length X.c2] 25) = w3 at *
                  have HG := Lib.hid (show Gr12 w p r z w3.heap.size s 0 0 none 0 [] none 0 X (w3.alloc (.cells #[.slice none 0 0, .slice none 0 0, .int .i64 0, .int .i64 0, .slice none 0 0, .int .i64 (nwD s.sl s.lv).vn, .slice X.A (nwD s.sl s.lv).l.length X.c, .slice X.A2 (nwD s.sl s.lv).F.length X.c2, .int .i64 s.ep, .int .i64 s.ck, .int .i64 s.ni] 60)) from by
                    have b1 := (Below.refl w3.heap.size w3).alloc (Nat.le_refl _) (.cells #[.slice none 0 0, .slice none 0 0, .int .i64 0, .int .i64 0, .slice none 0 0, .int .i64 (nwD s.sl s.lv).vn, .slice X.A (nwD s.sl s.lv).l.length X.c, .slice X.A2 (nwD s.sl s.lv).F.length X.c2, .int .i64 s.ep, .int .i64 s.ck, .int .i64 s.ni] 60)
                    have hpy : Py12 w p r w3.heap.size s ⟨[], [], 0, 0, [], nwD s.sl s.lv, s.ep, s.ck, s.ni⟩ ⟨none, 0, [], none, 0, none, 0, X⟩ (w3.alloc (.cells #[.slice none 0 0, .slice none 0 0, .int .i64 0, .int .i64 0, .slice none 0 0, .int .i64 (nwD s.sl s.lv).vn, .slice X.A (nwD s.sl s.lv).l.length X.c, .slice X.A2 (nwD s.sl s.lv).F.length X.c2, .int .i64 s.ep, .int .i64 s.ck, .int .i64 s.ni] 60)) := ⟨HP1.out.below b1, QB.start w3 ⟨[], [], 0, 0, [], nwD s.sl s.lv, s.ep, s.ck, s.ni⟩ ⟨none, 0, [], none, 0, none, 0, X⟩ _, HP1.out.rb.lt⟩
                    exact ⟨hpy.grow (HD1.out.up b1) ⟨HX1.out.1, HX1.out.2.1 _ (Nat.le_of_lt HB1.out.lt)⟩, HB1.out.up b1, HX1.out.2.2, HB1.out.lt⟩)
                  obtain ⟨k0, k1, k2, k3, k4, k5, k6, k7⟩ := HP1.out.sb.k
                  have kl := HP1.out.sb.lt
                  obtain ⟨⟨z0, z1, z2, zl⟩, -, -, -⟩ := HB1.out.all
                  go_upto_region 5 with (fail)
                  clear k0 k1 k2 k3 k4 k5 k6 k7 kl z0 z1 z2 zl HP1 HB1 HD1 HX1
                  obtain ⟨y, hy⟩ : ∃ y, y = w3.heap.size := ⟨_, rfl⟩
                  rw [← hy] at HG ⊢
                  clear hy
                  generalize w3.alloc (.cells #[.slice none 0 0, .slice none 0 0, .int .i64 0, .int .i64 0, .slice none 0 0, .int .i64 (nwD s.sl s.lv).vn, .slice X.A (nwD s.sl s.lv).l.length X.c, .slice X.A2 (nwD s.sl s.lv).F.length X.c2, .int .i64 s.ep, .int .i64 s.ck, .int .i64 s.ni] 60) = w4 at *
                  go_wp2_with fail
                  go_loopw [7] (fun iv wr => ∃ (i : Nat) (A : Option Addr) (c1 : Nat) (q : List Sl) (A2 : Option Addr) (c2 : Nat), iv = .int .i64 i ∧ i ≤ n ∧ Hid (Gr12 w p r z y s i i A c1 q A2 c2 X wr)) (fun iv _ => n - (intOf iv).toNat)
                  case atStart => exact ⟨0, none, 0, [], none, 0, rfl, Nat.zero_le _, HG⟩
                  case round =>
                    clear HG
                    obtain ⟨i, A, c1, q, A2, c2, rfl, hi, HG⟩ := hrel
                    obtain ⟨k0, k1, k2, k3, k4, k5, k6, k7⟩ := HG.out.gw.sb.k
                    have kl := HG.out.gw.sb.lt
                    have hsl := HNN.out.1.1
                    have hcp := HKK.out.1
                    rw [hsl] at k0
                    rw [hcp] at k2
                    clear hsl hcp
                    by_cases hlt : i < n
                    · have hlt' : (i : Int) < (n : Int) := by omega
                      have hi6 : i < 6 := by have := HNN.out; omega
                      have HI6 := Lib.hid hi6
                      have hw1 : IntKind.i64.wrap ((i : Int) + 1) = (i : Int) + 1 := IntWalk.i64_in _ (by omega)
                      clear hi6
                      have HFR := Lib.hid (fun W => rfree_any k W HKK.out.2.1 HKK.out.2.2.1)
                      obtain ⟨F, hF⟩ : ∃ F, F = frS k := ⟨_, rfl⟩
                      rw [← hF] at HFR
                      have HFI := Lib.hid (show ffS (nwD s.sl s.lv) (i : Int) k = if i < m then neS (k : Int) (sg (nwD s.sl s.lv).l i).lo (sg (nwD s.sl s.lv).l i).hi else F from by rw [hF]; exact HFF.out i)
                      clear hF
                      go_wp2_with fail
                      refine (HFR.out _).mono ?_
                      rintro e w5 ⟨D, rfl, hn, hr, hb⟩
                      have HX := Lib.hid (show Gx12 w p r z y w5.heap.size wr s i A c1 q A2 c2 X F D (w5.alloc (.cells #[.bool F.lv, .int .i64 F.lo, .int .i64 F.hi, .slice D.A F.cs.length D.c, .int .i64 F.hd, .int .i64 F.sz, .slice D.A2 F.l.length D.c2, .slice D.A3 F.h.length D.c3] 86)) from ⟨HG.out, hb.trans ((Below.refl _ _).alloc hb.size _), SB8.start w5 F D _, hr.up ((Below.refl _ _).alloc (Nat.le_refl _) _), hn, hb.size⟩)
                      clear hn hr hb HFR k0 k1 k2 k3 k4 k5 k6 k7 kl
                      go_upto_region 9 with (fail)
                      obtain ⟨x, hx⟩ : ∃ x, x = w5.heap.size := ⟨_, rfl⟩
                      rw [← hx] at HX ⊢
                      clear hx
                      generalize w5.alloc (.cells #[.bool F.lv, .int .i64 F.lo, .int .i64 F.hi, .slice D.A F.cs.length D.c, .int .i64 F.hd, .int .i64 F.sz, .slice D.A2 F.l.length D.c2, .slice D.A3 F.h.length D.c3] 86) = w6 at *
                      obtain ⟨k0, k1, k2, k3, k4, k5, k6, k7⟩ := HX.out.gr.gw.sb.k
                      have kl := HX.out.gr.gw.sb.lt
                      have hlv := HNN.out.2.1
                      rw [hlv] at k1
                      clear hlv
                      go_upto_if 90 with (fail)
                      clear k0 k1 k2 k3 k4 k5 k6 k7 kl
                      go_cut [8] (fun s8 wx => s8 = .pointer (some ⟨x, 0, none⟩) ∧ ∃ D, Hid (Gx12 w p r z y x wr s i A c1 q A2 c2 X (ffS (nwD s.sl s.lv) (i : Int) k) D wx))
                      case first =>
                        by_cases him : i < m
                        · have him' : (i : Int) < (m : Int) := by omega
                          have HFJ := Lib.hid (HFI.out.trans (if_pos him))
                          obtain ⟨b, o, h4⟩ := HG.out.c4 HKK.out.1 HLL.out him
                          generalize sg (nwD s.sl s.lv).l i = M at *
                          have HSK := Lib.hid h4
                          have HBZ := Lib.hid HX.out.b0
                          have hpl := HX.out.xl
                          have HNE := Lib.hid (fun W => rnew7_any (k : Int) M.lo M.hi W)
                          rw [← HFJ.out] at HNE
                          generalize ffS (nwD s.sl s.lv) (i : Int) k = NS at *
                          clear h4
                          go_wp2
                          go_region_held3 (fun W => C4q p z b o m X.c k i M W)
                            ((refine HSK.out _ ?_; repeat' (first | with_reducible exact HBZ.out | with_reducible refine dal ?_ ?_ | with_reducible refine dst ?_ ?_ | with_reducible refine ddr ?_ | omega | (simp; omega))))
                            (first
                            | (go_at_call 47; (with_reducible refine (HNE.out _).mono ?_); rintro e w7 ⟨E, rfl, hn, hr, hb⟩; have hb6 : Below w6.heap.size w6 w7 := ((Below.refl w6.heap.size w6).drew).trans hb; have HBZ := Lib.hid (HX.out.b0.trans (hb6.mono HX.out.b0.size)); have HPUT := Lib.hid (HX.out.put hb6 hr hn); obtain ⟨x0, x1, x2, x3, x4, x5, x6, x7, xl⟩ := (HX.out.xb.up hb6).facts; obtain ⟨f0, f1, f2, f3, f4, f5, f6, f7⟩ := (HX.out.xb.up hb6).free; clear hn hr hb hb6))
                          all_goals
                            clear HBZ HSK HNE HX
                            go_wp2_with fail
                            go_meet
                            exact ⟨rfl, E, HPUT⟩
                        · have him' : ¬ (i : Int) < (m : Int) := by omega
                          have HFJ := Lib.hid (HFI.out.trans (if_neg him))
                          go_wp2_with fail
                          go_meet
                          exact ⟨rfl, D, by rw [HFJ.out]; exact HX⟩
                      case rest =>
                        clear HX HFI
                        obtain ⟨rfl, D, HX⟩ := hcut
                        generalize wc = w9 at *
                        obtain ⟨FF, hFF⟩ : ∃ FF, FF = ffS (nwD s.sl s.lv) (i : Int) k := ⟨_, rfl⟩
                        have HSO := Lib.hid (show ∀ D, Sl.so ⟨0, FF, D⟩ = nwSl s i from fun D => by unfold nwSl; rw [← HKK.out.2.2.2, ← hFF]; rfl)
                        rw [← hFF] at HX
                        clear hFF
                        have HGN := Lib.hid HX.out.gr
                        obtain ⟨y0, y1, y2, y3, y4, y5, y6, y7, y8, y9, y10⟩ := HGN.out.gw.yk
                        have yl := HGN.out.gw.yl
                        obtain ⟨x0, x1, x2, x3, x4, x5, x6, x7, xl⟩ := HX.out.xb.facts
                        go_upto_region 12 with (at_builtin; refine wpList_append_lies _ rfl _ _ _ rfl (y + 1) 89 i0 _ 9 120 Try.underlying52 HI.out HZ.out.1 HZ.out.2.1 HZ.out.2.2 rfl (by omega) (.slice A i c1) i (qcs q) (by rfl) (HGN.out.alloc _).gw.o1 ⟨w9.heap.size, 0, none⟩ 1 1 (Sl.mk 0 FF D).l (by rfl) (by rfl) (World.news_of_block (cs := (Sl.mk 0 FF D).l.toArray) (t := 89) (fr := (0, 0)) (heap_alloc_new w9 _)) (Sl.l_one _) (by omega) (by have := HI6.out; unfold maxLen; omega) (by have := HI6.out; omega) (Nat.succ_le_of_lt (HGN.out.alloc _).gw.yl) _ rfl ?_; intro g1 cp1 w8 hown1 hgrow1 hat1 hlt1; have HQ := Lib.hid (Gr12.slot HX.out.g0.gw (HGN.out.alloc _) (T := Sl.mk 0 FF D) (HSO.out D) (HX.out.xr.up ((Below.refl _ _).alloc (Nat.le_refl _) _)) HX.out.xn hown1 hgrow1 hat1); obtain ⟨v1, v2, v3⟩ := (HGN.out.alloc _).gw.near1 hgrow1; clear hown1 hgrow1 hat1 hlt1)
                        clear y0 y1 y2 y3 y4 y5 y6 y7 y8 y9 y10 yl x0 x1 x2 x3 x4 x5 x6 x7 xl v1 v2 v3 HX HG HGN HSO
                        generalize w8.setCell ⟨y, 0, none⟩ (.slice (some ⟨g1, 0, none⟩) (i + 1) cp1) = w10 at *
                        obtain ⟨y0, y1, y2, y3, y4, y5, y6, y7, y8, y9, y10⟩ := HQ.out.gw.yk
                        have yl := HQ.out.gw.yl
                        obtain ⟨k0, k1, k2, k3, k4, k5, k6, k7⟩ := HQ.out.gw.sb.k
                        have kl := HQ.out.gw.sb.lt
                        go_wp2_with (at_builtin; refine wpList_append_lies _ rfl _ _ _ rfl (y + 1) 91 i1 _ 4 32 Try.underlying53 HI1.out HZ1.out.1 HZ1.out.2.1 HZ1.out.2.2 rfl (by omega) (.slice A2 i c2) i (tcs (List.replicate i (stE s))) (by rfl) (HQ.out.alloc _).gw.o2 ⟨w10.heap.size, 0, none⟩ 1 1 (stE s).l (by rfl) (by rfl) (World.news_of_block (cs := (stE s).l.toArray) (t := 91) (fr := (0, 0)) (heap_alloc_new w10 _)) (St.l_one _) (by omega) (by have := HI6.out; unfold maxLen; omega) (by have := HI6.out; omega) (Nat.succ_le_of_lt (HQ.out.alloc _).gw.yl) _ rfl ?_; intro g2 cp2 w11 hown2 hgrow2 hat2 hlt2; have HR := Lib.hid ((HQ.out.alloc _).stripe hown2 hgrow2 hat2); obtain ⟨u1, u2, u3⟩ := (HQ.out.alloc _).gw.near2 hgrow2; clear hown2 hgrow2 hat2 hlt2)
                        go_roundw
                        case rel => exact ⟨i + 1, _, _, _, _, _, by go_num, by omega, HR⟩
                        case measure => simp [intOf]; omega
                    · obtain rfl : i = n := by omega
                      clear hi hlt
                      go_wp2_with fail
                      clear k0 k1 k2 k3 k4 k5 k6 k7 kl
                      refine (HDE.out _).mono ?_
                      rintro e w11 ⟨rfl, hb⟩
                      have HH := Lib.hid (HG.out.gw.below hb)
                      have HK := Lib.hid (HH.out.dead s.dd)
                      clear hb HG
                      obtain ⟨y0, y1, y2, y3, y4, y5, y6, y7, y8, y9, y10⟩ := HH.out.yk
                      have yl := HH.out.yl
                      have yf3 := HH.out.yf 3
                      have yf4 := HH.out.yf 4
                      go_upto_region 14 with (fail)
                      clear y0 y1 y2 y3 y4 y5 y6 y7 y8 y9 y10 yl yf3 yf4 HH
                      generalize (w11.setCell ⟨y, 3, none⟩ (.int .i64 s.dd)).setCell ⟨y, 4, none⟩ (.slice none 0 0) = w12 at *
                      have HAR := Lib.hid HK.out.ar
                      have HAN := Lib.hid HK.out.anw
                      obtain ⟨y0, y1, y2, y3, y4, y5, y6, y7, y8, y9, y10⟩ := HK.out.yk
                      have yl := HK.out.yl
                      obtain ⟨r0, r1, r2, r3, r4, r5, r6, r7, r8, r9, r10⟩ := HK.out.rb.k
                      obtain ⟨f0, f1, f2, f3, f4, f5, f6, f7, f8, f9, f10⟩ := HK.out.rb.free
                      have rl := HK.out.rb.lt
                      have hyr : ¬ y = r := by have := HK.out.ne; omega
                      have hry : ¬ r = y := fun e => hyr e.symm
                      have HF := Lib.hid (show AE w (nwA s) (nwAE s) (.returned (.tuple #[.agg #[.slice A i c1, .slice A2 i c2, .int .i64 0, .int .i64 s.dd, .slice none 0 0, .int .i64 (nwD s.sl s.lv).vn, .slice X.A (nwD s.sl s.lv).l.length X.c, .slice X.A2 (nwD s.sl s.lv).F.length X.c2, .int .i64 s.ep, .int .i64 s.ck, .int .i64 s.ni], .int .i64 0])) (((((((((((w12.setCell ⟨r, 0, none⟩ (.slice A i c1)).setCell ⟨r, 1, none⟩ (.slice A2 i c2)).setCell ⟨r, 2, none⟩ (.int .i64 0)).setCell ⟨r, 3, none⟩ (.int .i64 s.dd)).setCell ⟨r, 4, none⟩ (.slice none 0 0)).setCell ⟨r, 5, none⟩ (.int .i64 (nwD s.sl s.lv).vn)).setCell ⟨r, 6, none⟩ (.slice X.A (nwD s.sl s.lv).l.length X.c)).setCell ⟨r, 7, none⟩ (.slice X.A2 (nwD s.sl s.lv).F.length X.c2)).setCell ⟨r, 8, none⟩ (.int .i64 s.ep)).setCell ⟨r, 9, none⟩ (.int .i64 s.ck)).setCell ⟨r, 10, none⟩ (.int .i64 s.ni)) from by
                        rw [HA2.out, HE2.out]
                        have := HK.out.ne
                        have h := ae_out (show w.heap.size ≤ r by omega) HK.out.bel HAN.out (by omega) HAR.out 0
                        simp only [av, set11, grA_sl, grA_st] at h
                        exact h)
                      clear HAR HAN HA2 HE2 HK
                      go_wp2
                      exact bodyPost_ret (v := .tuple #[.agg #[.slice A i c1, .slice A2 i c2, .int .i64 0, .int .i64 s.dd, .slice none 0 0, .int .i64 (nwD s.sl s.lv).vn, .slice X.A (nwD s.sl s.lv).l.length X.c, .slice X.A2 (nwD s.sl s.lv).F.length X.c2, .int .i64 s.ep, .int .i64 s.ck, .int .i64 s.ni], .int .i64 0]) (by simp only [results, Try.results23]; go_simp <;> rfl) rfl HF.out
end Go.Proofs.Ytfkpkmcpepeaeaa
