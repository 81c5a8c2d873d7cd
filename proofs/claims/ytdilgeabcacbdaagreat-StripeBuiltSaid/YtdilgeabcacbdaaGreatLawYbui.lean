/- What is proved here: shardqueuelaw11.StripeBuilt returns true for every input and leaves its argument as it was. No condition. -/
import Derived.Test.YtdilgeabcacbdaaGreatJ43
import Derived.Test.YtdilgeabcacbdaaGreatJ44
import Derived.ProofKit
import Derived.OpenShut
import Derived.ChangeOld
namespace Go.Proofs.YtdilgeabcacbdaaGreat
open Go.RowKit
set_option linter.unusedVariables false

set_option maxHeartbeats 16000000 in
set_option maxRecDepth 20000 in
theorem StripeBuilt_walk (w : World) (a0 : Option Addr) (l0 c0 : Nat) (zs : List Int) (hz : Ns w w.heap.size (.slice a0 l0 c0) zs) :
    Calls Tryz.prog 3 #[.slice a0 l0 c0] w fun e w' => e = .returned (.bool true) ∧ Below w.heap.size w w' := by
  have HN := Lib.hid (new_src a0 l0 c0 zs w hz)
  have HAW := Lib.hid (fun W => awake11_any W)
  clear hz
  go_enter Tryz.func3, Tryz.ntmps3
  go_wp2_with fail
  refine HN.out.mono ?_
  rintro e w1 ⟨g, rfl, hs, hb⟩
  have HB1 := Lib.hid hb
  have HS1 := Lib.hid hs
  have HBG := Lib.hid (show w.heap.size ≤ g from hs.1)
  clear hb hs HN
  go_wp2_with fail
  go_loopw [4] (fun iv wr => ∃ i : Nat, iv = .int .i64 i ∧ i ≤ 4 ∧ Hid (SrcAt wr w.heap.size g) ∧ Hid (Below w.heap.size w wr)) (fun iv _ => 4 - (intOf iv).toNat)
  case atStart => exact ⟨0, rfl, by omega, HS1, HB1⟩
  case round =>
    clear HS1 HB1
    obtain ⟨i, rfl, hi, HS, HB⟩ := hrel
    by_cases hlt : i < 4
    · have hlt' : (i : Int) < 4 := by omega
      have hw2 : IntKind.i64.wrap ((i : Int) + 1) = (i : Int) + 1 := IntWalk.i64_in _ (by omega)
      have HP := Lib.hid (pick_any w.heap.size g (wr.alloc (.cells #[.int .i64 0, .int .i64 1, .int .i64 2, .int .i64 7, .int .i64 (-1), .int .i64 (-2), .int .i64 1099511627776, .int .i64 1099511627775, .int .i64 1099511627774, .int .i64 1099511627773, .int .i64 1099511627777] 3)) (HS.out.alloc _) wr.heap.size 11 [0, 1, 2, 7, -1, -2, 1099511627776, 1099511627775, 1099511627774, 1099511627773, 1099511627777] rfl (by simp) (by have := HS.out.2.1; omega) (by omega) (by omega) (row_ints wr [0, 1, 2, 7, -1, -2, 1099511627776, 1099511627775, 1099511627774, 1099511627773, 1099511627777] 3))
      have HB1 := Lib.hid (HB.out.alloc HB.out.size (.cells #[.int .i64 0, .int .i64 1, .int .i64 2, .int .i64 7, .int .i64 (-1), .int .i64 (-2), .int .i64 1099511627776, .int .i64 1099511627775, .int .i64 1099511627774, .int .i64 1099511627773, .int .i64 1099511627777] 3))
      clear HS HB hi hlt
      go_wp2_with fail
      refine HP.out.mono ?_
      rintro e w2 ⟨x, rfl, -, hs, hg⟩
      have HS2 := Lib.hid hs
      have HB2 := Lib.hid (below_only HB1.out hg HBG.out (Nat.le_refl _))
      clear hs hg HP HB1
      go_wp2_with fail
      refine (n_any w.heap.size g _ HS2.out 3 (by omega) (by omega)).mono ?_
      rintro e w3 ⟨y, rfl, -, -, hs, hg⟩
      have HT3 := Lib.hid (YT.start w3 ⟨x, y, 0, 0⟩ 28)
      have HR3 := Lib.hid (show w3.heap.size ≠ g by have := hs.2.1; omega)
      have HS3 := Lib.hid (hs.alloc (.cells #[.int .i64 x, .int .i64 y, .int .i64 0, .int .i64 0] 28))
      have hb2 := below_only HB2.out hg HBG.out (Nat.le_refl _)
      have HB3 := Lib.hid (hb2.alloc hb2.size (.cells #[.int .i64 x, .int .i64 y, .int .i64 0, .int .i64 0] 28))
      clear hs hg hb2 HS2 HB2
      go_wp2_with fail
      obtain ⟨r0, hr0⟩ : ∃ r, r = w3.heap.size := ⟨_, rfl⟩
      rw [← hr0] at HT3 HR3 ⊢
      clear hr0
      generalize w3.alloc (.cells #[.int .i64 x, .int .i64 y, .int .i64 0, .int .i64 0] 28) = w4 at *
      refine (shard_any w.heap.size g _ HS3.out).mono ?_
      rintro e w5 ⟨S, D, rfl, hS, hn, hr, hs, hg⟩
      have HGO := Lib.hid (show SOff S D g from hn.off HS3.out.2.1)
      have HQG := Lib.hid (show w5.heap.size ≠ g by have := hs.2.1; omega)
      have hb2 := below_only HB3.out hg HBG.out (Nat.le_refl _)
      have HA5 := Lib.hid (SAt.made 37 hb2 hr)
      have HT5 := Lib.hid ((HT3.out.grownG hg HR3.out).up ((Below.refl _ _).alloc (Nat.le_refl _) (.cells #[.bool S.lv, .int .i64 S.lo, .int .i64 S.hi, .slice D.A S.cs.length D.c, .int .i64 S.hd, .int .i64 S.sz, .slice D.A2 S.l.length D.c2, .slice D.A3 S.h.length D.c3] 37)))
      have HS5 := Lib.hid (hs.alloc (.cells #[.bool S.lv, .int .i64 S.lo, .int .i64 S.hi, .slice D.A S.cs.length D.c, .int .i64 S.hd, .int .i64 S.sz, .slice D.A2 S.l.length D.c2, .slice D.A3 S.h.length D.c3] 37))
      clear hS hn hr hs hg hb2 HS3 HB3 HT3
      have HSZ := Lib.hid (show (w5.alloc (.cells #[.bool S.lv, .int .i64 S.lo, .int .i64 S.hi, .slice D.A S.cs.length D.c, .int .i64 S.hd, .int .i64 S.sz, .slice D.A2 S.l.length D.c2, .slice D.A3 S.h.length D.c3] 37)).heap.size = w5.heap.size + 1 by simp)
      go_wp2_with fail
      obtain ⟨q, hq⟩ : ∃ r, r = w5.heap.size := ⟨_, rfl⟩
      rw [← hq] at HA5 HQG HSZ ⊢
      clear hq
      generalize w5.alloc (.cells #[.bool S.lv, .int .i64 S.lo, .int .i64 S.hi, .slice D.A S.cs.length D.c, .int .i64 S.hd, .int .i64 S.sz, .slice D.A2 S.l.length D.c2, .slice D.A3 S.h.length D.c3] 37) = w6 at *
      have HP := Lib.hid (pick_any w.heap.size g (w6.alloc (.cells #[.int .i64 0, .int .i64 1, .int .i64 2, .int .i64 (-1), .int .i64 65536, .int .i64 65537] 3)) (HS5.out.alloc _) (q + 1) 6 [0, 1, 2, -1, 65536, 65537] rfl (by rw [← HSZ.out]; simp) (by have := HS5.out.2.1; have := HSZ.out; omega) (by omega) (by omega) (by rw [← HSZ.out]; exact row_ints w6 [0, 1, 2, -1, 65536, 65537] 3))
      have HA6 := Lib.hid (HA5.out.alloc (.cells #[.int .i64 0, .int .i64 1, .int .i64 2, .int .i64 (-1), .int .i64 65536, .int .i64 65537] 3))
      have HT6 := Lib.hid (HT5.out.up ((Below.refl _ _).alloc (Nat.le_refl _) (.cells #[.int .i64 0, .int .i64 1, .int .i64 2, .int .i64 (-1), .int .i64 65536, .int .i64 65537] 3)))
      clear HA5 HT5 HS5
      refine HP.out.mono ?_
      rintro e w7 ⟨ep, rfl, -, hs, hg⟩
      have HS7 := Lib.hid hs
      have HA7 := Lib.hid (HA6.out.grownG hg HGO.out HQG.out HBG.out)
      have HT7 := Lib.hid (HT6.out.grownG hg HR3.out)
      clear hs hg HP HA6 HT6
      go_wp2_with fail
      refine (range_any w.heap.size g _ HS7.out 0 9 (by omega) (by omega) (by omega)).mono ?_
      rintro e w8 ⟨lim, rfl, -, -, hs, hg⟩
      have HS8 := Lib.hid hs
      have HA8 := Lib.hid (HA7.out.grownG hg HGO.out HQG.out HBG.out)
      have HT8 := Lib.hid (HT7.out.grownG hg HR3.out)
      clear hs hg HS7 HA7 HT7 HGO HQG HR3
      obtain ⟨T1, hT1⟩ : ∃ T, T = bgT ⟨x, y, 0, 0⟩ := ⟨_, rfl⟩
      obtain ⟨E1, hE1⟩ : ∃ E, E = bgE ⟨x, y, 0, 0⟩ := ⟨_, rfl⟩
      obtain ⟨T2, hT2⟩ : ∃ T, T = enT ⟨x, y, 0, 0⟩ S ep lim := ⟨_, rfl⟩
      obtain ⟨E2, hE2⟩ : ∃ E, E = enE ⟨x, y, 0, 0⟩ S ep lim := ⟨_, rfl⟩
      have HG1 := Lib.hid (fun W => ybegin_any ⟨x, y, 0, 0⟩ W)
      have HG2 := Lib.hid (fun W => rbegin_any ⟨x, y, 0, 0⟩ W)
      have HN1 := Lib.hid (fun p W (k : SAt w p S D W) => yend_any ⟨x, y, 0, 0⟩ S D ep lim W k.sr)
      have HN2 := Lib.hid (fun p W (k : SAt w p S D W) => rend_any ⟨x, y, 0, 0⟩ S D ep lim W k.sr)
      rw [← hT1, ← hE1] at HG1 HG2
      rw [← hT2, ← hE2] at HN1 HN2
      have heq1 := neqst T1 T1
      have heq2 := neqst T2 T2
      rw [decide_eq_true rfl, Bool.not_true] at heq1 heq2
      clear hT1 hE1 hT2 hE2
      obtain ⟨⟨a0, a1, a2, a3⟩, al⟩ := HT8.out
      obtain ⟨t0, t1, t2, t3, t4, t5, t6, t7, tl⟩ := HA8.out.s8.facts
      go_wp2_with fail
      clear a0 a1 a2 a3 al t0 t1 t2 t3 t4 t5 t6 t7 tl
      refine (HG1.out _).mono ?_
      rintro e w9 ⟨rfl, hb⟩
      have hb2 := hb.alloc hb.size (.cells #[.int .i64 T1.sq, .int .i64 T1.ep, .int .i64 T1.rd, .int .i64 T1.ls] 28)
      have HT10 := Lib.hid (HT8.out.up hb2)
      have HA10 := Lib.hid (HA8.out.below hb2)
      have HS10 := Lib.hid (HS8.out.below hb2)
      have HU10 := Lib.hid (YT.start w9 T1 28)
      clear hb hb2 HT8 HA8 HS8
      obtain ⟨⟨a0, a1, a2, a3⟩, al⟩ := HT10.out
      obtain ⟨t0, t1, t2, t3, t4, t5, t6, t7, tl⟩ := HA10.out.s8.facts
      go_wp2_with fail
      clear a0 a1 a2 a3 al t0 t1 t2 t3 t4 t5 t6 t7 tl
      obtain ⟨r1, hr1⟩ : ∃ r, r = w9.heap.size := ⟨_, rfl⟩
      rw [← hr1] at HU10 ⊢
      clear hr1
      generalize w9.alloc (.cells #[.int .i64 T1.sq, .int .i64 T1.ep, .int .i64 T1.rd, .int .i64 T1.ls] 28) = w10 at *
      refine (HG2.out _).mono ?_
      rintro e w11 ⟨rfl, hb⟩
      have hb2 := hb.alloc hb.size (.cells #[.int .i64 T1.sq, .int .i64 T1.ep, .int .i64 T1.rd, .int .i64 T1.ls] 28)
      have HT12 := Lib.hid (HT10.out.up hb2)
      have HA12 := Lib.hid (HA10.out.below hb2)
      have HU12 := Lib.hid (HU10.out.up hb2)
      have HS12 := Lib.hid (HS10.out.below hb2)
      have HV12 := Lib.hid (YT.start w11 T1 28)
      clear hb hb2 HT10 HA10 HU10 HS10
      obtain ⟨⟨a0, a1, a2, a3⟩, al⟩ := HT12.out
      obtain ⟨t0, t1, t2, t3, t4, t5, t6, t7, tl⟩ := HA12.out.s8.facts
      go_wp2_with fail
      clear a0 a1 a2 a3 al t0 t1 t2 t3 t4 t5 t6 t7 tl
      obtain ⟨r2, hr2⟩ : ∃ r, r = w11.heap.size := ⟨_, rfl⟩
      rw [← hr2] at HV12 ⊢
      clear hr2
      generalize w11.alloc (.cells #[.int .i64 T1.sq, .int .i64 T1.ep, .int .i64 T1.rd, .int .i64 T1.ls] 28) = w12 at *
      refine (HN1.out _ _ HA12.out).mono ?_
      rintro e w13 ⟨rfl, hb⟩
      have hb2 := hb.alloc hb.size (.cells #[.int .i64 T2.sq, .int .i64 T2.ep, .int .i64 T2.rd, .int .i64 T2.ls] 28)
      have HT14 := Lib.hid (HT12.out.up hb2)
      have HA14 := Lib.hid (HA12.out.below hb2)
      have HU14 := Lib.hid (HU12.out.up hb2)
      have HV14 := Lib.hid (HV12.out.up hb2)
      have HS14 := Lib.hid (HS12.out.below hb2)
      have HX14 := Lib.hid (YT.start w13 T2 28)
      clear hb hb2 HT12 HA12 HU12 HV12 HS12
      obtain ⟨⟨a0, a1, a2, a3⟩, al⟩ := HT14.out
      obtain ⟨t0, t1, t2, t3, t4, t5, t6, t7, tl⟩ := HA14.out.s8.facts
      go_wp2_with fail
      clear a0 a1 a2 a3 al t0 t1 t2 t3 t4 t5 t6 t7 tl
      obtain ⟨r3, hr3⟩ : ∃ r, r = w13.heap.size := ⟨_, rfl⟩
      rw [← hr3] at HX14 ⊢
      clear hr3
      generalize w13.alloc (.cells #[.int .i64 T2.sq, .int .i64 T2.ep, .int .i64 T2.rd, .int .i64 T2.ls] 28) = w14 at *
      refine (HN2.out _ _ HA14.out).mono ?_
      rintro e w15 ⟨rfl, hb⟩
      have hb2 := hb.alloc hb.size (.cells #[.int .i64 T2.sq, .int .i64 T2.ep, .int .i64 T2.rd, .int .i64 T2.ls] 28)
      have HT16 := Lib.hid (HT14.out.up hb2)
      have HA16 := Lib.hid (HA14.out.below hb2)
      have HU16 := Lib.hid (HU14.out.up hb2)
      have HV16 := Lib.hid (HV14.out.up hb2)
      have HX16 := Lib.hid (HX14.out.up hb2)
      have HS16 := Lib.hid (HS14.out.below hb2)
      have HY16 := Lib.hid (YT.start w15 T2 28)
      clear hb hb2 HT14 HA14 HU14 HV14 HX14 HS14
      obtain ⟨⟨a0, a1, a2, a3⟩, al⟩ := HU16.out
      obtain ⟨⟨b0, b1, b2, b3⟩, bl⟩ := HV16.out
      obtain ⟨⟨c0, c1, c2, c3⟩, cl⟩ := HX16.out
      obtain ⟨⟨d0, d1, d2, d3⟩, dl⟩ := HY16.out
      go_wp2
      exact ⟨⟨i + 1, by rw [Int.natCast_add]; rfl, by omega, HS16, Lib.hid HA16.out.bel⟩, by simp [intOf]; omega⟩
    · have hi4 : i = 4 := by omega
      subst hi4
      clear hi hlt
      go_wp2_with fail
      refine (stripes_any w.heap.size g _ HS.out).mono ?_
      rintro e w2 ⟨A, c, l, rfl, hl, hn, ht, hs, hg⟩
      have HL := Lib.hid hl
      have HS2 := Lib.hid hs
      have HT2 := Lib.hid ht
      have HB2 := Lib.hid (below_only HB.out hg HBG.out (Nat.le_refl _))
      have HO2 := Lib.hid (show ∀ a, A = some a → a.block ≠ g from fun a e => by have := hn a e; have := HS.out.2.1; omega)
      clear hl hn ht hs hg HS HB
      go_wp2_with fail
      refine (stripes_any w.heap.size g _ HS2.out).mono ?_
      rintro e w3 ⟨A', c', l', rfl, hl, hn, ht, hs, hg⟩
      have HT3 := Lib.hid (HT2.out.grownT hg HO2.out)
      have HU3 := Lib.hid ht
      have HB3 := Lib.hid (below_only HB2.out hg HBG.out (Nat.le_refl _))
      clear hl hn ht hs hg HS2 HT2 HB2 HO2
      have HS1 := Lib.hid (fun W (k : Tl W W.heap.size (.slice A l.length c) l) => ysum_any A l.length c l 1 W k (by have := HL.out; omega))
      have HS2 := Lib.hid (fun W (k : Tl W W.heap.size (.slice A l.length c) l) => rsum11_any A l.length c l 1 W k (by have := HL.out; omega))
      have HQ1 := Lib.hid (fun W (k : Tl W W.heap.size (.slice A l.length c) l) => yquiet_any A l.length c l W k)
      have HQ2 := Lib.hid (fun W (k : Tl W W.heap.size (.slice A l.length c) l) => rquiet_any A l.length c l W k)
      have HM1 := Lib.hid (fun W (k : Tl W W.heap.size (.slice A l.length c) l) (k' : Tl W W.heap.size (.slice A' l'.length c') l') => ysame_any A A' l.length l'.length c c' l l' W k k')
      have HM2 := Lib.hid (fun W (k : Tl W W.heap.size (.slice A l.length c) l) (k' : Tl W W.heap.size (.slice A' l'.length c') l') => rsame11_any A A' l.length l'.length c c' l l' W k k')
      generalize suR l 1 = X at *
      generalize suL l 1 = Y at *
      generalize quB l = Q at *
      generalize smB l l' = M at *
      go_wp2_with fail
      refine (HS1.out _ HT3.out).mono ?_
      rintro e w4 ⟨rfl, hb⟩
      have HT4 := Lib.hid (HT3.out.up hb)
      have HU4 := Lib.hid (HU3.out.up hb)
      have HB4 := Lib.hid (HB3.out.trans (hb.mono HB3.out.size))
      clear hb HT3 HU3 HB3 HS1
      go_wp2_with fail
      refine (HS2.out _ HT4.out).mono ?_
      rintro e w5 ⟨rfl, hb⟩
      have HT5 := Lib.hid (HT4.out.up hb)
      have HU5 := Lib.hid (HU4.out.up hb)
      have HB5 := Lib.hid (HB4.out.trans (hb.mono HB4.out.size))
      clear hb HT4 HU4 HB4 HS2
      go_wp2_with fail
      refine (HQ1.out _ HT5.out).mono ?_
      rintro e w6 ⟨rfl, hb⟩
      have HT6 := Lib.hid (HT5.out.up hb)
      have HU6 := Lib.hid (HU5.out.up hb)
      have HB6 := Lib.hid (HB5.out.trans (hb.mono HB5.out.size))
      clear hb HT5 HU5 HB5 HQ1
      go_wp2_with fail
      refine (HQ2.out _ HT6.out).mono ?_
      rintro e w7 ⟨rfl, rfl⟩
      go_wp2_with fail
      refine (HM1.out _ HT6.out HU6.out).mono ?_
      rintro e w8 ⟨rfl, hb⟩
      have HT8 := Lib.hid (HT6.out.up hb)
      have HU8 := Lib.hid (HU6.out.up hb)
      have HB8 := Lib.hid (HB6.out.trans (hb.mono HB6.out.size))
      clear hb HT6 HU6 HB6 HM1
      go_wp2_with fail
      refine (HM2.out _ HT8.out HU8.out).mono ?_
      rintro e w9 ⟨rfl, hb⟩
      have HB9 := Lib.hid (HB8.out.trans (hb.mono HB8.out.size))
      clear hb HT8 HU8 HB8 HM2
      go_wp2_with fail
      refine (HAW.out _).mono ?_
      rintro e w10 ⟨rfl, hb⟩
      have HB10 := Lib.hid (HB9.out.trans (hb.mono HB9.out.size))
      clear hb HB9
      go_wp2
      go_ret
      exact ⟨rfl, HB10.out⟩

/-! The row's step, as the guide's shell has it. -/
namespace stripeBuilt
open Go.ChangeShapes Go.WideShapes Go.ChangeAt
open Go.ChangeMaps (open_string shut_string)
theorem own : ownKnob Tryz.prog.godebug = none := by kernel_rfl
theorem laidOut : laidOutB Tryz.prog = true := by kernel_rfl

set_option maxRecDepth 100000 in
theorem lifted (os : Os) (started : os.Started) (H : Type) (enc : TypeId × Value → H) :
    ReturnsInHanded {} Tryz.checked os 3 .any (Rows.stripeBuiltSpec.pre6 enc Tryz.prog Tryz.f3 Rows.stripeBuiltRow.domain false) (Rows.stripeBuiltSpec.post enc Tryz.prog Tryz.f3 false true false false) := by
  refine returnsInHanded_of_change (C := Tryz.checked) own started (by kernel_rfl) Tryz.func3
    (ChangeSpec.witness6 (enc := enc) (C := Tryz.checked) false ⟨#[], #[.slice none 0 0], []⟩ 8 (by kernel_rfl) (by kernel_rfl) (by kernel_rfl) (by kernel_rfl)) ?_
  intro W base args ds gs before hval0 hW hcnd _
  have hval : ∀ (j : Nat) t v, Tryz.f3.params[j]? = some t → args[j]? = some v → Value.okWide Tryz.prog W .any base t v := hval0
  have hW' := hW
  obtain ⟨p, q, hA0, hV, rfl, hfz, hnd⟩ := hW
  have hA : DataW.TrodAll enc Tryz.prog W 0 (fun _ => true) true Tryz.f3.params.toList args.toList ds p := hA0
  rw [Tryz.params3] at hA hval
  obtain ⟨v0, vs0, d0, ds0, p0, q0, hargs, rfl, rfl, h0, r0⟩ := trodAll_cons hA
  obtain ⟨rfl, rfl, rfl⟩ := trodAll_nil r0
  obtain rfl : args = #[v0] := by cases args; simp_all
  obtain ⟨rfl, rfl⟩ := trodVars_none hV
  obtain ⟨a0, len0, cap0, rfl⟩ := okWide_slice Tryz.underlying22 (hval 0 22 v0 rfl rfl)
  have k0 := h0
  have lt0 : ∀ x ∈ p0, x.block < W.heap.size := by obtain ⟨m, hm⟩ := k0; exact DataW.trod_lt m _ _ _ hm
  obtain ⟨z0, w0⟩ : ∃ zs, Ns W W.heap.size (.slice a0 len0 cap0) zs := by
    obtain ⟨fuel, hf⟩ := h0
    rcases open_ints Tryz.underlying22 Tryz.underlying3 (by kernel_rfl) hf with ⟨hcs, _⟩ | ⟨x, l, c, zs, hcs, _, hl, hm, hz, _, hcell, hwz⟩
    · simp [Value.cells] at hcs
      obtain ⟨rfl, rfl, rfl⟩ := hcs
      exact ⟨[], Ns.nil⟩
    · simp [Value.cells] at hcs
      obtain ⟨rfl, rfl, rfl⟩ := hcs
      exact Ns.of_cells hl hm (by simpa using hz) hcell hwz
  clear hA0 hval0
  refine (StripeBuilt_walk W a0 len0 cap0 z0 w0).mono fun e W' ⟨he, bel⟩ => ?_
  subst he
  exact ⟨_, rfl, _, _, _, [], _, [], hW', trodAll_mk1 (shut_bool Tryz.underlying4 _), (trodAll_cons_mk (Below.trod laidOut (by kernel_rfl) (of_decide_eq_true (by kernel_rfl)) k0 bel lt0) trodAll_mk0), rfl, bel.frame _, fun h => by cases h⟩

theorem over : Rows.stripeBuiltRow.holds Tryz.pinned (OpenSpec.ofChange Rows.stripeBuiltSpec) :=
  OpenClaim.holds_of_wide 3 Tryz.f3 rfl rfl rfl rfl rfl rfl rfl ⟨rfl, rfl, rfl, rfl, rfl⟩ rfl rfl rfl rfl rfl (by kernel_rfl) Tryz.func3 (by kernel_rfl)
    (of_decide_eq_true (by kernel_rfl)) (by unfold Func.isWrapper; first | (rw [if_pos (by decide +kernel)]; kernel_rfl) | (rw [if_neg (by decide +kernel)]; exact ⟨rfl, rfl⟩))
    (fun os started H enc _ => lifted os started H enc)

/-- The statement. -/
theorem proved : Rows.StripeBuiltSaid := over
#print axioms proved
end stripeBuilt
end Go.Proofs.YtdilgeabcacbdaaGreat
