/- What is proved here: shardqueuelaw12.ArenaCells returns true for every input and leaves its arguments as they were. No condition. -/
import Derived.Test.YtijpflljopckiaaGreatJ37
import Derived.Test.YtijpflljopckiaaGreatJ23
import Derived.Test.YtijpflljopckiaaGreatJ34
import Derived.Test.YtijpflljopckiaaGreatJ30
import Derived.ProofKit
import Derived.OpenShut
import Derived.ChangeOld
import Derived.Deep.DeepCutAuto
import Derived.Deep.RegionHeld3
namespace Go.Proofs.YtijpflljopckiaaGreat
open Go.RowKit
set_option linter.unusedVariables false

theorem Rd.grownC {W W' : World} {B size n g : Nat} {A : Option Addr} {xs : List Value} (h : Rd W B size A n xs) (hB : B ≤ W.heap.size) (hg : W.grownBy W' (some g)) (ho : OffB g n A) : Rd W' B size A n xs :=
  ⟨h.1, fun h0 => by
    obtain ⟨b, o, e, hb, hc⟩ := h.2 h0
    have hne : b ≠ g := ho h0 _ e
    exact ⟨b, o, e, hb, fun j u hu => (hg.cell_far ⟨b, o + j, none⟩ (Nat.lt_of_lt_of_le hb hB) (fun e => by injection e with e; exact hne e)).trans (hc j u hu)⟩⟩
theorem AR.grownC {W W' : World} {a : Ar} {Y : Ax} {g : Nat} (h : AR W W.heap.size a Y) (hg : W.grownBy W' (some g)) (ho : AOff a Y g) : AR W' W'.heap.size a Y := by
  refine AR.more (B := W.heap.size) ⟨?_, h.so, fun s hs => ?_, ?_, ?_, ⟨?_, ?_⟩⟩ hg.size
  · obtain ⟨A, c, e, h1, h2, h3⟩ := h.ql
    have e' := e
    injection e' with e1 e2 e3
    exact ⟨A, c, e, h1, h2, h3.grownC (Nat.le_refl _) hg (by rw [← e1, ← e2]; exact ho.o1)⟩
  · have k := h.sr s hs
    have o := ho.os s hs
    exact ⟨k.ls.grownR (Nat.le_refl _) hg (fun q e => by injection e with e; subst e; exact o.o1), k.el.grownR (Nat.le_refl _) hg (fun q e => by injection e with e; subst e; exact o.o2), k.dl.grownR (Nat.le_refl _) hg (fun q e => by injection e with e; subst e; exact o.o3)⟩
  · obtain ⟨A, c, e, h1, h2, h3⟩ := h.tl
    have e' := e
    injection e' with e1 e2 e3
    exact ⟨A, c, e, h1, h2, h3.grownC (Nat.le_refl _) hg (by rw [← e1]; exact ho.o2)⟩
  · exact h.ls.grownR (Nat.le_refl _) hg (fun q e => by injection e with e; subst e; exact ho.o3)
  · obtain ⟨A, c, e, h1, h2, h3⟩ := h.dr.pl
    have e' := e
    injection e' with e1 e2 e3
    exact ⟨A, c, e, h1, h2, h3.grownC (Nat.le_refl _) hg (fun h0 a ea => ho.o4.o1 a (e1.trans ea) h0)⟩
  · obtain ⟨A, c, e, h1, h2, h3⟩ := h.dr.fl
    have e' := e
    injection e' with e1 e2 e3
    exact ⟨A, c, e, h1, h2, h3.grownC (Nat.le_refl _) hg (fun h0 a ea => ho.o4.o2 a (e1.trans ea) h0)⟩
theorem Aw12.turn {w W W' : World} {p g : Nat} {a : Ar} {Y : Ax} (h : Aw12 w p a Y W) (hg : W.grownBy W' (some g)) (hp : p ≠ g) (ho : AOff a Y g) (hw : w.heap.size ≤ g) : Aw12 w p a Y W' :=
  ⟨h.qb.grown hg hp, h.ar.grownC hg ho, h.bel.grown hg h.bel.size (fun k e => by injection e with e; omega), h.old⟩
/-- Block p holds an arena, whose lists lie there. -/
structure Qc12 (W : World) (p : Nat) (a : Ar) (Y : Ax) : Prop where
  qb : QB W p a Y
  ar : AR W W.heap.size a Y
theorem Qc12.up {W W' : World} {p : Nat} {a : Ar} {Y : Ax} (h : Qc12 W p a Y) (hb : Below W.heap.size W W') : Qc12 W' p a Y := ⟨h.qb.up hb, h.ar.up hb⟩
theorem Qc12.start {W : World} {a : Ar} {Y : Ax} (h : AR W W.heap.size a Y) : Qc12 (W.alloc (.cells #[.slice Y.A a.sl.length Y.c, .slice Y.A2 a.st.length Y.c2, .int .i64 a.ow, .int .i64 a.cap, .slice Y.A3 a.dl.length Y.c3, .int .i64 a.dir.vn, .slice Y.D.A a.dir.l.length Y.D.c, .slice Y.D.A2 a.dir.F.length Y.D.c2, .int .i64 a.ep, .int .i64 a.ck, .int .i64 a.ni] 36)) W.heap.size a Y := ⟨QB.start W a Y _, h.alloc _⟩
set_option maxHeartbeats 8000000 in
set_option maxRecDepth 20000 in
theorem ArenaCells_walk (w : World) (a1 : Option Addr) (l1 c1 : Nat) (zs : List Int) (hz : Ns w w.heap.size (.slice a1 l1 c1) zs) :
    Calls Tryz.prog 3 #[.slice a1 l1 c1] w fun e w' => e = .returned (.bool true) ∧ Below w.heap.size w w' := by
  have HAW := Lib.hid (fun W => awake12_any W)
  have HNS := Lib.hid (new_src a1 l1 c1 zs w hz)
  have HSM := Lib.hid (fun S D E W h1 h2 => rsame7_yes S D E W h1 h2)
  clear hz
  go_enter Tryz.func3, Tryz.ntmps3
  go_wp2_with fail
  refine HNS.out.mono ?_
  rintro e w2 ⟨g, rfl, hs, hb⟩
  have HS := Lib.hid hs
  have HB := Lib.hid hb
  clear hs hb HNS
  go_wp2_with fail
  refine (setup_any w.heap.size g _ HS.out).mono ?_
  rintro e w3 ⟨s, rfl, hok, hs, hg⟩
  have HB := Lib.hid (HB.out.grown hg HB.out.size (fun k e => by injection e with e; have := HS.out.1; omega))
  have HS := Lib.hid hs
  obtain ⟨hE, n, n0, n6, hca⟩ := ca_nw hok
  have HN := Lib.hid (anew_any s w3)
  rw [hE] at HN
  obtain ⟨A0, hA0⟩ : ∃ A, A = nwA s := ⟨_, rfl⟩
  rw [← hA0] at HN hca
  have HCA := Lib.hid hca
  have HNN := Lib.hid (show 0 < n ∧ n ≤ 6 ∧ A0.sl.length = n from ⟨n0, n6, hca.sl⟩)
  clear hg hs hok hE hca hA0 n0 n6
  go_wp2_with fail
  refine HN.out.mono ?_
  rintro e w4 ⟨Y0, rfl, hn, hr, hb⟩
  have H1 := Lib.hid (Aw12.start (w := w) (HB.out.trans (hb.mono HB.out.size)) hr)
  have HPG := Lib.hid (show w4.heap.size ≠ g ∧ AOff A0 Y0 g ∧ w.heap.size ≤ g from ⟨by have := HS.out.2.1; have := hb.size; omega, hn.off HS.out.2.1, HS.out.1⟩)
  have HS := Lib.hid ((HS.out.below hb).alloc (.cells #[.slice Y0.A A0.sl.length Y0.c, .slice Y0.A2 A0.st.length Y0.c2, .int .i64 A0.ow, .int .i64 A0.cap, .slice Y0.A3 A0.dl.length Y0.c3, .int .i64 A0.dir.vn, .slice Y0.D.A A0.dir.l.length Y0.D.c, .slice Y0.D.A2 A0.dir.F.length Y0.D.c2, .int .i64 A0.ep, .int .i64 A0.ck, .int .i64 A0.ni] 36))
  clear hn hr hb HN HB
  go_upto_region 3 with (fail)
  obtain ⟨p, hp⟩ : ∃ p, p = w4.heap.size := ⟨_, rfl⟩
  rw [← hp] at H1 HPG ⊢
  clear hp
  generalize w4.alloc (.cells #[.slice Y0.A A0.sl.length Y0.c, .slice Y0.A2 A0.st.length Y0.c2, .int .i64 A0.ow, .int .i64 A0.cap, .slice Y0.A3 A0.dl.length Y0.c3, .int .i64 A0.dir.vn, .slice Y0.D.A A0.dir.l.length Y0.D.c, .slice Y0.D.A2 A0.dir.F.length Y0.D.c2, .int .i64 A0.ep, .int .i64 A0.ck, .int .i64 A0.ni] 36) = w5 at *
  obtain ⟨y0, -⟩ := H1.out.qb.k
  have yl := H1.out.qb.lt
  rw [HNN.out.2.2] at y0
  go_wp2_with fail
  clear y0 yl
  have hn0 := HNN.out
  refine (n_any w.heap.size g _ HS.out (n : Int) (by omega) (by omega)).mono ?_
  rintro e w6 ⟨vi, rfl, v0, v1, hs, hg⟩
  obtain ⟨v, rfl⟩ : ∃ v : Nat, vi = (v : Int) := ⟨vi.toNat, by omega⟩
  have HV := Lib.hid (show v < n by omega)
  have H1 := Lib.hid (H1.out.turn hg HPG.out.1 HPG.out.2.1 HPG.out.2.2)
  have HS := Lib.hid hs
  clear hg hs v0 v1 hn0
  go_wp2_with fail
  refine (range_any w.heap.size g _ HS.out 1 5 (by omega) (by omega) (by omega)).mono ?_
  rintro e w7 ⟨m, rfl, m1, m2, hs, hg⟩
  have H1 := Lib.hid (H1.out.turn hg HPG.out.1 HPG.out.2.1 HPG.out.2.2)
  have HS := Lib.hid hs
  clear hg hs
  go_wp2_with fail
  refine (range_any w.heap.size g _ HS.out 6 9 (by omega) (by omega) (by omega)).mono ?_
  rintro e w8 ⟨o, rfl, o1, o2, hs, hg⟩
  have H1 := Lib.hid (H1.out.turn hg HPG.out.1 HPG.out.2.1 HPG.out.2.2)
  obtain ⟨A1, Q, C, A5, ZA, SF, hcc⟩ := cc12 HCA.out HV.out m1 m2 o1 o2
  have HC := Lib.hid hcc
  clear hg hs HS HPG HCA m1 m2 o1 o2 hcc
  obtain ⟨y0, y1, y2, y3, y4, y5, y6, y7, y8, y9, y10⟩ := H1.out.qb.k
  have yl := H1.out.qb.lt
  go_wp2_with fail
  clear y0 y1 y2 y3 y4 y5 y6 y7 y8 y9 y10 yl
  refine (HC.out.tl _ _ H1.out.ar).mono ?_
  rintro e w9 ⟨Y, rfl, hn, hr, hb⟩
  have H2 := Lib.hid (show Aw12 w p A1 Y (((((((((((w9.setCell ⟨p, 0, none⟩ (.slice Y.A A1.sl.length Y.c)).setCell ⟨p, 1, none⟩ (.slice Y.A2 A1.st.length Y.c2)).setCell ⟨p, 2, none⟩ (.int .i64 A1.ow)).setCell ⟨p, 3, none⟩ (.int .i64 A1.cap)).setCell ⟨p, 4, none⟩ (.slice Y.A3 A1.dl.length Y.c3)).setCell ⟨p, 5, none⟩ (.int .i64 A1.dir.vn)).setCell ⟨p, 6, none⟩ (.slice Y.D.A A1.dir.l.length Y.D.c)).setCell ⟨p, 7, none⟩ (.slice Y.D.A2 A1.dir.F.length Y.D.c2)).setCell ⟨p, 8, none⟩ (.int .i64 A1.ep)).setCell ⟨p, 9, none⟩ (.int .i64 A1.ck)).setCell ⟨p, 10, none⟩ (.int .i64 A1.ni)) from H1.out.put hb hn hr)
  have H2' := Lib.hid (H1.out.below hb)
  clear hn hr hb H1
  obtain ⟨y0, y1, y2, y3, y4, y5, y6, y7, y8, y9, y10⟩ := H2'.out.qb.k
  have yl := H2'.out.qb.lt
  obtain ⟨f0, f1, f2, f3, f4, f5, f6, f7, f8, f9, f10⟩ := H2'.out.qb.free
  go_upto_region 8 with (fail)
  clear y0 y1 y2 y3 y4 y5 y6 y7 y8 y9 y10 yl
  clear f0 f1 f2 f3 f4 f5 f6 f7 f8 f9 f10 H2'
  generalize ((((((((((w9.setCell ⟨p, 0, none⟩ (.slice Y.A A1.sl.length Y.c)).setCell ⟨p, 1, none⟩ (.slice Y.A2 A1.st.length Y.c2)).setCell ⟨p, 2, none⟩ (.int .i64 A1.ow)).setCell ⟨p, 3, none⟩ (.int .i64 A1.cap)).setCell ⟨p, 4, none⟩ (.slice Y.A3 A1.dl.length Y.c3)).setCell ⟨p, 5, none⟩ (.int .i64 A1.dir.vn)).setCell ⟨p, 6, none⟩ (.slice Y.D.A A1.dir.l.length Y.D.c)).setCell ⟨p, 7, none⟩ (.slice Y.D.A2 A1.dir.F.length Y.D.c2)).setCell ⟨p, 8, none⟩ (.int .i64 A1.ep)).setCell ⟨p, 9, none⟩ (.int .i64 A1.ck)).setCell ⟨p, 10, none⟩ (.int .i64 A1.ni) = w10 at *
  obtain ⟨y0, y1, y2, y3, y4, y5, y6, y7, y8, y9, y10⟩ := H2.out.qb.k
  have yl := H2.out.qb.lt
  go_wp2_with fail
  clear y0 y1 y2 y3 y4 y5 y6 y7 y8 y9 y10 yl
  have HL := fun W => HC.out.ld v Y W HV.out
  generalize SF v = S at HL
  refine (HL _ H2.out.ar).mono ?_
  rintro e w11 ⟨D, rfl, -, hr, hb⟩
  have hal := (Below.refl w11.heap.size w11).alloc (Nat.le_refl _) (.cells #[.bool S.lv, .int .i64 S.lo, .int .i64 S.hi, .slice D.A S.cs.length D.c, .int .i64 S.hd, .int .i64 S.sz, .slice D.A2 S.l.length D.c2, .slice D.A3 S.h.length D.c3] 54)
  have H2 := Lib.hid ((H2.out.below hb).below hal)
  have HX := Lib.hid (SB8.start w11 S D 54)
  have HR := Lib.hid (hr.up hal)
  clear hb hr hal
  go_upto_region 9 with (fail)
  obtain ⟨r11, hq⟩ : ∃ r, r = w11.heap.size := ⟨_, rfl⟩
  rw [← hq] at HX ⊢
  clear hq
  generalize w11.alloc (.cells #[.bool S.lv, .int .i64 S.lo, .int .i64 S.hi, .slice D.A S.cs.length D.c, .int .i64 S.hd, .int .i64 S.sz, .slice D.A2 S.l.length D.c2, .slice D.A3 S.h.length D.c3] 54) = w12 at *
  clear HL HR
  obtain ⟨y0, y1, y2, y3, y4, y5, y6, y7, y8, y9, y10⟩ := H2.out.qb.k
  have yl := H2.out.qb.lt
  obtain ⟨q0, q1, q2, q3, q4, q5, q6, q7, ql⟩ := HX.out.facts
  go_wp2_with fail
  clear y0 y1 y2 y3 y4 y5 y6 y7 y8 y9 y10 yl
  clear q0 q1 q2 q3 q4 q5 q6 q7 ql HX
  refine (HC.out.ss _ _ _ _ H2.out.ar).mono ?_
  rintro e w13 ⟨V1, rfl, -, hr, hb⟩
  have hal := (Below.refl w13.heap.size w13).alloc (Nat.le_refl _) (.cells #[.slice V1.A ZA.sl.length V1.c, .slice V1.A2 ZA.st.length V1.c2, .int .i64 ZA.ow, .int .i64 ZA.cap, .slice V1.A3 ZA.dl.length V1.c3, .int .i64 ZA.dir.vn, .slice V1.D.A ZA.dir.l.length V1.D.c, .slice V1.D.A2 ZA.dir.F.length V1.D.c2, .int .i64 ZA.ep, .int .i64 ZA.ck, .int .i64 ZA.ni] 36)
  have H2 := Lib.hid ((H2.out.below hb).below hal)
  clear hb hr hal
  go_upto_region 10 with (fail)
  generalize w13.heap.size = r13 at *
  generalize w13.alloc (.cells #[.slice V1.A ZA.sl.length V1.c, .slice V1.A2 ZA.st.length V1.c2, .int .i64 ZA.ow, .int .i64 ZA.cap, .slice V1.A3 ZA.dl.length V1.c3, .int .i64 ZA.dir.vn, .slice V1.D.A ZA.dir.l.length V1.D.c, .slice V1.D.A2 ZA.dir.F.length V1.D.c2, .int .i64 ZA.ep, .int .i64 ZA.ck, .int .i64 ZA.ni] 36) = w14 at *
  obtain ⟨y0, y1, y2, y3, y4, y5, y6, y7, y8, y9, y10⟩ := H2.out.qb.k
  have yl := H2.out.qb.lt
  go_wp2_with fail
  clear y0 y1 y2 y3 y4 y5 y6 y7 y8 y9 y10 yl
  refine (HC.out.sn _ _ H2.out.ar).mono ?_
  rintro e w15 ⟨V2, rfl, -, hr, hb⟩
  have hal := (Below.refl w15.heap.size w15).alloc (Nat.le_refl _) (.cells #[.slice V2.A ZA.sl.length V2.c, .slice V2.A2 ZA.st.length V2.c2, .int .i64 ZA.ow, .int .i64 ZA.cap, .slice V2.A3 ZA.dl.length V2.c3, .int .i64 ZA.dir.vn, .slice V2.D.A ZA.dir.l.length V2.D.c, .slice V2.D.A2 ZA.dir.F.length V2.D.c2, .int .i64 ZA.ep, .int .i64 ZA.ck, .int .i64 ZA.ni] 36)
  have H2 := Lib.hid ((H2.out.below hb).below hal)
  clear hb hr hal
  go_upto_region 11 with (fail)
  generalize w15.heap.size = r15 at *
  generalize w15.alloc (.cells #[.slice V2.A ZA.sl.length V2.c, .slice V2.A2 ZA.st.length V2.c2, .int .i64 ZA.ow, .int .i64 ZA.cap, .slice V2.A3 ZA.dl.length V2.c3, .int .i64 ZA.dir.vn, .slice V2.D.A ZA.dir.l.length V2.D.c, .slice V2.D.A2 ZA.dir.F.length V2.D.c2, .int .i64 ZA.ep, .int .i64 ZA.ck, .int .i64 ZA.ni] 36) = w16 at *
  obtain ⟨y0, y1, y2, y3, y4, y5, y6, y7, y8, y9, y10⟩ := H2.out.qb.k
  have yl := H2.out.qb.lt
  go_wp2_with fail
  clear y0 y1 y2 y3 y4 y5 y6 y7 y8 y9 y10 yl
  refine (HC.out.un _ _ H2.out.ar).mono ?_
  rintro e w17 ⟨V3, rfl, -, hr, hb⟩
  have hal := (Below.refl w17.heap.size w17).alloc (Nat.le_refl _) (.cells #[.slice V3.A ZA.sl.length V3.c, .slice V3.A2 ZA.st.length V3.c2, .int .i64 ZA.ow, .int .i64 ZA.cap, .slice V3.A3 ZA.dl.length V3.c3, .int .i64 ZA.dir.vn, .slice V3.D.A ZA.dir.l.length V3.D.c, .slice V3.D.A2 ZA.dir.F.length V3.D.c2, .int .i64 ZA.ep, .int .i64 ZA.ck, .int .i64 ZA.ni] 36)
  have H2 := Lib.hid ((H2.out.below hb).below hal)
  clear hb hr hal
  go_upto_region 12 with (fail)
  generalize w17.heap.size = r17 at *
  generalize w17.alloc (.cells #[.slice V3.A ZA.sl.length V3.c, .slice V3.A2 ZA.st.length V3.c2, .int .i64 ZA.ow, .int .i64 ZA.cap, .slice V3.A3 ZA.dl.length V3.c3, .int .i64 ZA.dir.vn, .slice V3.D.A ZA.dir.l.length V3.D.c, .slice V3.D.A2 ZA.dir.F.length V3.D.c2, .int .i64 ZA.ep, .int .i64 ZA.ck, .int .i64 ZA.ni] 36) = w18 at *
  obtain ⟨y0, y1, y2, y3, y4, y5, y6, y7, y8, y9, y10⟩ := H2.out.qb.k
  have yl := H2.out.qb.lt
  go_wp2_with fail
  clear y0 y1 y2 y3 y4 y5 y6 y7 y8 y9 y10 yl
  refine (HC.out.sy _ _ H2.out.ar).mono ?_
  rintro e w19 ⟨Z, rfl, -, hr, hb⟩
  have hal := (Below.refl w19.heap.size w19).alloc (Nat.le_refl _) (.cells #[.slice Z.A Q.sl.length Z.c, .slice Z.A2 Q.st.length Z.c2, .int .i64 Q.ow, .int .i64 Q.cap, .slice Z.A3 Q.dl.length Z.c3, .int .i64 Q.dir.vn, .slice Z.D.A Q.dir.l.length Z.D.c, .slice Z.D.A2 Q.dir.F.length Z.D.c2, .int .i64 Q.ep, .int .i64 Q.ck, .int .i64 Q.ni] 36)
  have H2 := Lib.hid ((H2.out.below hb).below hal)
  have HQ := Lib.hid (Qc12.start hr)
  clear hb hr hal
  go_upto_region 15 with (fail)
  obtain ⟨q, hq⟩ : ∃ r, r = w19.heap.size := ⟨_, rfl⟩
  rw [← hq] at HQ ⊢
  clear hq
  generalize w19.alloc (.cells #[.slice Z.A Q.sl.length Z.c, .slice Z.A2 Q.st.length Z.c2, .int .i64 Q.ow, .int .i64 Q.cap, .slice Z.A3 Q.dl.length Z.c3, .int .i64 Q.dir.vn, .slice Z.D.A Q.dir.l.length Z.D.c, .slice Z.D.A2 Q.dir.F.length Z.D.c2, .int .i64 Q.ep, .int .i64 Q.ck, .int .i64 Q.ni] 36) = w20 at *
  obtain ⟨y0, y1, y2, y3, y4, y5, y6, y7, y8, y9, y10⟩ := H2.out.qb.k
  have yl := H2.out.qb.lt
  obtain ⟨z0, z1, z2, z3, z4, z5, z6, z7, z8, z9, z10⟩ := HQ.out.qb.k
  have zl := HQ.out.qb.lt
  rw [HC.out.l1.1] at y1
  rw [HC.out.lb.1] at z1
  rw [HC.out.lb.2] at z0
  go_wp2_with fail
  clear y0 y1 y2 y3 y4 y5 y6 y7 y8 y9 y10 yl
  clear z0 z1 z2 z3 z4 z5 z6 z7 z8 z9 z10 zl
  go_loopw [21] (fun iv wr => ∃ i : Nat, iv = .int .i64 i ∧ i ≤ n ∧ Hid (Aw12 w p A1 Y wr) ∧ Hid (Qc12 wr q Q Z)) (fun iv _ => n - (intOf iv).toNat)
  case atStart => exact ⟨0, rfl, Nat.zero_le _, H2, HQ⟩
  case round =>
    clear H2 HQ
    obtain ⟨i, rfl, hi, H2, HQ⟩ := hrel
    by_cases hlt : i < n
    · have hlt' : (i : Int) < (n : Int) := by omega
      have hw1 : IntKind.i64.wrap ((i : Int) + 1) = (i : Int) + 1 := IntWalk.i64_in _ (by have := HNN.out.2.1; omega)
      have HLT := Lib.hid hlt
      obtain ⟨y0, y1, y2, y3, y4, y5, y6, y7, y8, y9, y10⟩ := H2.out.qb.k
      have yl := H2.out.qb.lt
      go_wp2_with fail
      clear y0 y1 y2 y3 y4 y5 y6 y7 y8 y9 y10 yl
      have HL := Lib.hid (fun W => HC.out.ld i Y W HLT.out)
      have HM := Lib.hid (fun W => HC.out.lq i Z W HLT.out)
      generalize SF i = S2 at HL HM
      clear hi hlt
      refine (HL.out _ H2.out.ar).mono ?_
      rintro e x1 ⟨D2, rfl, -, hr, hb⟩
      have hal := (Below.refl x1.heap.size x1).alloc (Nat.le_refl _) (.cells #[.bool S2.lv, .int .i64 S2.lo, .int .i64 S2.hi, .slice D2.A S2.cs.length D2.c, .int .i64 S2.hd, .int .i64 S2.sz, .slice D2.A2 S2.l.length D2.c2, .slice D2.A3 S2.h.length D2.c3] 54)
      have H2 := Lib.hid ((H2.out.below hb).below hal)
      have HQ := Lib.hid ((HQ.out.up hb).up hal)
      have HX := Lib.hid (SB8.start x1 S2 D2 54)
      have HR := Lib.hid (hr.up hal)
      clear hb hr hal
      go_upto_region 21 with (fail)
      obtain ⟨r22, hq⟩ : ∃ r, r = x1.heap.size := ⟨_, rfl⟩
      rw [← hq] at HX ⊢
      clear hq
      generalize x1.alloc (.cells #[.bool S2.lv, .int .i64 S2.lo, .int .i64 S2.hi, .slice D2.A S2.cs.length D2.c, .int .i64 S2.hd, .int .i64 S2.sz, .slice D2.A2 S2.l.length D2.c2, .slice D2.A3 S2.h.length D2.c3] 54) = x2 at *
      obtain ⟨z0, z1, z2, z3, z4, z5, z6, z7, z8, z9, z10⟩ := HQ.out.qb.k
      have zl := HQ.out.qb.lt
      go_wp2_with fail
      clear z0 z1 z2 z3 z4 z5 z6 z7 z8 z9 z10 zl
      refine (HM.out _ HQ.out.ar).mono ?_
      rintro e x3 ⟨E2, rfl, -, hr, hb⟩
      have hal := (Below.refl x3.heap.size x3).alloc (Nat.le_refl _) (.cells #[.bool S2.lv, .int .i64 S2.lo, .int .i64 S2.hi, .slice E2.A S2.cs.length E2.c, .int .i64 S2.hd, .int .i64 S2.sz, .slice E2.A2 S2.l.length E2.c2, .slice E2.A3 S2.h.length E2.c3] 54)
      have H2 := Lib.hid ((H2.out.below hb).below hal)
      have HQ := Lib.hid ((HQ.out.up hb).up hal)
      have HX := Lib.hid ((HX.out.up hb).up hal)
      have HR := Lib.hid ((HR.out.up hb).up hal)
      have HX2 := Lib.hid (SB8.start x3 S2 E2 54)
      have HR2 := Lib.hid (hr.up hal)
      clear hb hr hal
      go_upto_region 22 with (fail)
      obtain ⟨r24, hq⟩ : ∃ r, r = x3.heap.size := ⟨_, rfl⟩
      rw [← hq] at HX2 ⊢
      clear hq
      generalize x3.alloc (.cells #[.bool S2.lv, .int .i64 S2.lo, .int .i64 S2.hi, .slice E2.A S2.cs.length E2.c, .int .i64 S2.hd, .int .i64 S2.sz, .slice E2.A2 S2.l.length E2.c2, .slice E2.A3 S2.h.length E2.c3] 54) = x4 at *
      clear HL HM
      obtain ⟨q0, q1, q2, q3, q4, q5, q6, q7, ql⟩ := HX.out.facts
      obtain ⟨t0, t1, t2, t3, t4, t5, t6, t7, tl⟩ := HX2.out.facts
      go_wp2_with fail
      clear q0 q1 q2 q3 q4 q5 q6 q7 ql t0 t1 t2 t3 t4 t5 t6 t7 tl HX HX2
      refine (HSM.out S2 D2 E2 _ HR.out HR2.out).mono ?_
      rintro e x5 ⟨rfl, hb⟩
      have H2 := Lib.hid (H2.out.below hb)
      have HQ := Lib.hid (HQ.out.up hb)
      clear hb HR HR2
      obtain ⟨b, ob, eA, -, c0, -⟩ := HQ.out.ar.tl.atg (k := i) (by rw [HC.out.lb.1]; exact HLT.out)
      obtain ⟨b', ob', eA', -, d0, -⟩ := H2.out.ar.tl.atg (k := i) (by rw [HC.out.l1.1]; exact HLT.out)
      rw [HC.out.qb i HLT.out] at c0
      rw [HC.out.q1 i HLT.out] at d0
      obtain ⟨-, z1, -⟩ := HQ.out.qb.k
      obtain ⟨-, y1, -⟩ := H2.out.qb.k
      rw [eA, HC.out.lb.1] at z1
      rw [eA', HC.out.l1.1] at y1
      have zl := HQ.out.qb.lt
      have yl := H2.out.qb.lt
      clear eA eA'
      by_cases hcv : i = v
      · rw [if_pos hcv] at c0
        have hbv : ((i : Int) == (v : Int)) = true := by simp [hcv]
        have HI := Lib.hid (show i + 1 ≤ n from HLT.out)
        clear hcv HLT
        go_wp2
        go_roundw
        case rel => exact ⟨i + 1, by go_num, HI.out, H2, HQ⟩
        case measure => simp [intOf]; have := HI.out; omega
      · rw [if_neg hcv] at c0
        have hbv : ((i : Int) == (v : Int)) = false := by simp; omega
        have HI := Lib.hid (show i + 1 ≤ n from HLT.out)
        clear hcv HLT
        go_wp2
        go_roundw
        case rel => exact ⟨i + 1, by go_num, HI.out, H2, HQ⟩
        case measure => simp [intOf]; have := HI.out; omega
    · have hlt' : ¬ (i : Int) < (n : Int) := by omega
      clear hi hlt
      obtain ⟨z0, z1, z2, z3, z4, z5, z6, z7, z8, z9, z10⟩ := HQ.out.qb.k
      have zl := HQ.out.qb.lt
      go_wp2_with fail
      clear z0 z1 z2 z3 z4 z5 z6 z7 z8 z9 z10 zl
      refine (HC.out.uy _ _ HQ.out.ar).mono ?_
      rintro e x1 ⟨V4, rfl, -, hr, hb⟩
      have hal := (Below.refl x1.heap.size x1).alloc (Nat.le_refl _) (.cells #[.slice V4.A C.sl.length V4.c, .slice V4.A2 C.st.length V4.c2, .int .i64 C.ow, .int .i64 C.cap, .slice V4.A3 C.dl.length V4.c3, .int .i64 C.dir.vn, .slice V4.D.A C.dir.l.length V4.D.c, .slice V4.D.A2 C.dir.F.length V4.D.c2, .int .i64 C.ep, .int .i64 C.ck, .int .i64 C.ni] 36)
      have H2 := Lib.hid ((H2.out.below hb).below hal)
      have HU := Lib.hid (Qc12.start hr)
      clear hb hr hal
      go_upto_region 25 with (fail)
      obtain ⟨r26, hq⟩ : ∃ r, r = x1.heap.size := ⟨_, rfl⟩
      rw [← hq] at HU ⊢
      clear hq
      generalize x1.alloc (.cells #[.slice V4.A C.sl.length V4.c, .slice V4.A2 C.st.length V4.c2, .int .i64 C.ow, .int .i64 C.cap, .slice V4.A3 C.dl.length V4.c3, .int .i64 C.dir.vn, .slice V4.D.A C.dir.l.length V4.D.c, .slice V4.D.A2 C.dir.F.length V4.D.c2, .int .i64 C.ep, .int .i64 C.ck, .int .i64 C.ni] 36) = x2 at *
      clear HQ
      obtain ⟨z0, z1, z2, z3, z4, z5, z6, z7, z8, z9, z10⟩ := HU.out.qb.k
      have zl := HU.out.qb.lt
      go_wp2_with fail
      clear z0 z1 z2 z3 z4 z5 z6 z7 z8 z9 z10 zl
      refine (HC.out.ty _ _ HU.out.ar).mono ?_
      rintro e x3 ⟨V5, rfl, -, hr, hb⟩
      have hal := (Below.refl x3.heap.size x3).alloc (Nat.le_refl _) (.cells #[.slice V5.A A5.sl.length V5.c, .slice V5.A2 A5.st.length V5.c2, .int .i64 A5.ow, .int .i64 A5.cap, .slice V5.A3 A5.dl.length V5.c3, .int .i64 A5.dir.vn, .slice V5.D.A A5.dir.l.length V5.D.c, .slice V5.D.A2 A5.dir.F.length V5.D.c2, .int .i64 A5.ep, .int .i64 A5.ck, .int .i64 A5.ni] 36)
      have H2 := Lib.hid ((H2.out.below hb).below hal)
      clear hb hr hal
      go_upto_region 26 with (fail)
      generalize x3.heap.size = r28 at *
      generalize x3.alloc (.cells #[.slice V5.A A5.sl.length V5.c, .slice V5.A2 A5.st.length V5.c2, .int .i64 A5.ow, .int .i64 A5.cap, .slice V5.A3 A5.dl.length V5.c3, .int .i64 A5.dir.vn, .slice V5.D.A A5.dir.l.length V5.D.c, .slice V5.D.A2 A5.dir.F.length V5.D.c2, .int .i64 A5.ep, .int .i64 A5.ck, .int .i64 A5.ni] 36) = x4 at *
      clear HU
      go_wp2_with fail
      refine (HAW.out _).mono ?_
      rintro e x5 ⟨rfl, hb⟩
      have HFIN := Lib.hid (H2.out.below hb).bel
      clear hb H2
      go_wp2
      go_ret
      exact ⟨rfl, HFIN.out⟩
/-! The row's step, as the guide's shell has it. -/
namespace arenaCells
open Go.ChangeShapes Go.WideShapes Go.ChangeAt
open Go.ChangeMaps (open_string shut_string)
theorem own : ownKnob Tryz.prog.godebug = none := by kernel_rfl
theorem laidOut : laidOutB Tryz.prog = true := by kernel_rfl

set_option maxRecDepth 100000 in
theorem lifted (os : Os) (started : os.Started) (H : Type) (enc : TypeId × Value → H) :
    ReturnsInHanded {} Tryz.checked os 3 .any (Rows.arenaCellsSpec.pre6 enc Tryz.prog Tryz.f3 Rows.arenaCellsRow.domain false) (Rows.arenaCellsSpec.post enc Tryz.prog Tryz.f3 false true false false) := by
  refine returnsInHanded_of_change (C := Tryz.checked) own started (by kernel_rfl) Tryz.func3
    (ChangeSpec.witness6 (enc := enc) (C := Tryz.checked) false ⟨#[], #[.slice none 0 0], []⟩ 8 (by kernel_rfl) (by kernel_rfl) (by kernel_rfl) (by kernel_rfl)) ?_
  intro W base args ds gs before hval0 hW hcnd _
  have hval : ∀ (j : Nat) t v, Tryz.f3.params[j]? = some t → args[j]? = some v → Value.okWide Tryz.prog W .any base t v := hval0
  have hW' := hW
  obtain ⟨p, q, hA0, hV, rfl, hfz, hnd⟩ := hW
  have hA : DataW.TrodAll enc Tryz.prog W 0 (fun _ => true) true Tryz.f3.params.toList args.toList ds p := hA0
  rw [Tryz.params3] at hA hval
  obtain ⟨v0, vs0, d0, ds0, p0, q0, hargs, rfl, rfl, h0, r0⟩ := trodAll_cons hA
  obtain ⟨rfl, rfl, rfl⟩ := trodAll_nil r0
  obtain rfl : args = #[v0] := by cases args; simp_all
  obtain ⟨rfl, rfl⟩ := trodVars_none hV
  obtain ⟨a0, len0, cap0, rfl⟩ := okWide_slice Tryz.underlying22 (hval 0 22 v0 rfl rfl)
  have k0 := h0
  have lt0 : ∀ x ∈ p0, x.block < W.heap.size := by obtain ⟨m, hm⟩ := k0; exact DataW.trod_lt m _ _ _ hm
  obtain ⟨z0, w0⟩ : ∃ zs, Ns W W.heap.size (.slice a0 len0 cap0) zs := by
    obtain ⟨fuel, hf⟩ := h0
    rcases open_ints Tryz.underlying22 Tryz.underlying3 (by kernel_rfl) hf with ⟨hcs, _⟩ | ⟨x, l, c, zs, hcs, _, hl, hm, hz, _, hcell, hwz⟩
    · simp [Value.cells] at hcs
      obtain ⟨rfl, rfl, rfl⟩ := hcs
      exact ⟨[], Ns.nil⟩
    · simp [Value.cells] at hcs
      obtain ⟨rfl, rfl, rfl⟩ := hcs
      exact Ns.of_cells hl hm (by simpa using hz) hcell hwz
  clear hA0 hval0
  refine (ArenaCells_walk W a0 len0 cap0 z0 w0).mono fun e W' ⟨he, bel⟩ => ?_
  subst he
  exact ⟨_, rfl, _, _, _, [], _, [], hW', trodAll_mk1 (shut_bool Tryz.underlying4 _), (trodAll_cons_mk (Below.trod laidOut (by kernel_rfl) (of_decide_eq_true (by kernel_rfl)) k0 bel lt0) trodAll_mk0), rfl, bel.frame _, fun h => by cases h⟩

theorem over : Rows.arenaCellsRow.holds Tryz.pinned (OpenSpec.ofChange Rows.arenaCellsSpec) :=
  OpenClaim.holds_of_wide 3 Tryz.f3 rfl rfl rfl rfl rfl rfl rfl ⟨rfl, rfl, rfl, rfl, rfl⟩ rfl rfl rfl rfl rfl (by kernel_rfl) Tryz.func3 (by kernel_rfl)
    (of_decide_eq_true (by kernel_rfl)) (by unfold Func.isWrapper; first | (rw [if_pos (by decide +kernel)]; kernel_rfl) | (rw [if_neg (by decide +kernel)]; exact ⟨rfl, rfl⟩))
    (fun os started H enc _ => lifted os started H enc)

/-- The statement. -/
theorem proved : Rows.ArenaCellsSaid := over
#print axioms proved
end arenaCells
end Go.Proofs.YtijpflljopckiaaGreat
