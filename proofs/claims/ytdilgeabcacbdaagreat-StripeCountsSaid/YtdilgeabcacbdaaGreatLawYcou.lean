/- What is proved here: shardqueuelaw11.StripeCounts returns true for every input and leaves its argument as it was. No condition. -/
import Derived.Test.YtdilgeabcacbdaaGreatJ43
import Derived.Test.YtdilgeabcacbdaaGreatJ44
import Derived.ProofKit
import Derived.OpenShut
import Derived.ChangeOld
namespace Go.Proofs.YtdilgeabcacbdaaGreat
open Go.RowKit
set_option linter.unusedVariables false

set_option maxHeartbeats 8000000 in
set_option maxRecDepth 20000 in
theorem StripeCounts_walk (w : World) (a0 : Option Addr) (l0 c0 : Nat) (zs : List Int) (hz : Ns w w.heap.size (.slice a0 l0 c0) zs) :
    Calls Tryz.prog 4 #[.slice a0 l0 c0] w fun e w' => e = .returned (.bool true) ∧ Below w.heap.size w w' := by
  have HN := Lib.hid (new_src a0 l0 c0 zs w hz)
  have HAW := Lib.hid (fun W => awake11_any W)
  clear hz
  go_enter Tryz.func4, Tryz.ntmps4
  go_wp2_with fail
  refine HN.out.mono ?_
  rintro e w1 ⟨g, rfl, hs, hb⟩
  have HB1 := Lib.hid hb
  have HS1 := Lib.hid hs
  have HBG := Lib.hid (show w.heap.size ≤ g from hs.1)
  clear hb hs HN
  go_wp2_with fail
  refine (n_any w.heap.size g _ HS1.out 1000 (by omega) (by omega)).mono ?_
  rintro e w2 ⟨n, rfl, n1, n2, hs, hg⟩
  have hw : IntKind.i64.wrap (2 * n) = 2 * n := IntWalk.i64_in _ (by omega)
  have hw2 : wrap64 (2 * n) = 2 * n := IntWalk.wrap64_in _ (by omega)
  have HZ := Lib.hid (show 0 ≤ 2 * n ∧ 2 * n ≤ 2000 ∧ (2 * n) % 2 = 0 by omega)
  have HB2 := Lib.hid (below_only HB1.out hg HBG.out (Nat.le_refl _))
  have HS2 := Lib.hid hs
  have HR0 := Lib.hid (show w2.heap.size ≠ g by have := hs.2.1; omega)
  clear hs hg n1 n2 HB1 HS1
  go_wp2_with fail
  generalize 2 * n = z at *
  have HT0 := Lib.hid (YT.start w2 ⟨z, 0, 0, 0⟩ 28)
  have HS3 := Lib.hid (HS2.out.alloc (.cells #[.int .i64 z, .int .i64 0, .int .i64 0, .int .i64 0] 28))
  have HB3 := Lib.hid (HB2.out.alloc HB2.out.size (.cells #[.int .i64 z, .int .i64 0, .int .i64 0, .int .i64 0] 28))
  clear HB2 HS2
  obtain ⟨r0, hr0⟩ : ∃ r, r = w2.heap.size := ⟨_, rfl⟩
  rw [← hr0] at HT0 HR0 ⊢
  clear hr0
  generalize w2.alloc (.cells #[.int .i64 z, .int .i64 0, .int .i64 0, .int .i64 0] 28) = w3 at *
  refine (shard_any w.heap.size g _ HS3.out).mono ?_
  rintro e w4 ⟨S, D, rfl, hS, hn, hr, hs, hg⟩
  have HSV := Lib.hid hS.va
  have HGO := Lib.hid (show SOff S D g from hn.off HS3.out.2.1)
  have HSR4 := Lib.hid hr
  have HS4 := Lib.hid hs
  have HB4 := Lib.hid (below_only HB3.out hg HBG.out (Nat.le_refl _))
  have HT4 := Lib.hid (HT0.out.grownG hg HR0.out)
  clear hS hn hr hs hg HS3 HB3 HT0
  go_wp2_with fail
  refine (n_any w.heap.size g _ HS4.out 3 (by omega) (by omega)).mono ?_
  rintro e w5 ⟨ep, rfl, e1, e2, hs, hg⟩
  have HE := Lib.hid (And.intro e1 e2)
  have HSR5 := Lib.hid (HSR4.out.grownS hg HGO.out)
  have HS5 := Lib.hid hs
  have HB5 := Lib.hid (below_only HB4.out hg HBG.out (Nat.le_refl _))
  have HT5 := Lib.hid (HT4.out.grownG hg HR0.out)
  clear e1 e2 hs hg HSR4 HS4 HB4 HT4
  go_wp2_with fail
  refine (range_any w.heap.size g _ HS5.out 1 4 (by omega) (by omega) (by omega)).mono ?_
  rintro e w6 ⟨lim, rfl, e1, e2, hs, hg⟩
  have HL := Lib.hid (And.intro e1 e2)
  have HSR6 := Lib.hid (HSR5.out.grownS hg HGO.out)
  have HB6 := Lib.hid (below_only HB5.out hg HBG.out (Nat.le_refl _))
  have HT6 := Lib.hid ((HT5.out.grownG hg HR0.out).up ((Below.refl _ _).alloc (Nat.le_refl _) (.cells #[.bool S.lv, .int .i64 S.lo, .int .i64 S.hi, .slice D.A S.cs.length D.c, .int .i64 S.hd, .int .i64 S.sz, .slice D.A2 S.l.length D.c2, .slice D.A3 S.h.length D.c3] 37)))
  have HA6 := Lib.hid (SAt.made 37 HB6.out HSR6.out)
  clear e1 e2 hs hg HSR5 HS5 HB5 HT5 HSR6 HB6 HGO HR0 HBG
  have HBE := Lib.hid (bg_0 (s := ⟨z, 0, 0, 0⟩) ⟨HZ.out.1, by have := HZ.out; show z ≤ 1099511627776; omega⟩ (by have := HZ.out; show ¬ z % 2 = 1; omega) (by have := HZ.out; show ¬ 1099511627774 < z; omega))
  have HEE := Lib.hid (enE_0 (s := ⟨z + 1, 0, 0, 0⟩) (S := S) (ep := ep) (lim := lim) ⟨by have := HZ.out; show 0 ≤ z + 1; omega, by have := HZ.out; show z + 1 ≤ 1099511627776; omega⟩ (by have := HZ.out; show ¬ (z + 1) % 2 = 0; omega) HSV.out (wi_true (by have := HE.out; omega) (by have := HE.out; omega)) (wi_true (by have := HL.out; omega) (by have := HL.out; omega)))
  have HET := Lib.hid (show enT ⟨z + 1, 0, 0, 0⟩ S ep lim = ⟨z + 1 + 1, ep, ctR S ep lim, ctL S ep lim⟩ from by unfold enT; rw [if_pos HEE.out])
  have HG := Lib.hid (fun W => ybegin_any ⟨z, 0, 0, 0⟩ W)
  rw [HBE.out.1, HBE.out.2] at HG
  have HN := Lib.hid (fun p W (k : SAt w p S D W) => yend_any ⟨z + 1, 0, 0, 0⟩ S D ep lim W k.sr)
  rw [HEE.out, HET.out] at HN
  have HC := Lib.hid (fun p W (k : SAt w p S D W) => rcounts7_any S D ep lim W k.sr)
  generalize ctR S ep lim = cr at *
  generalize ctL S ep lim = cl at *
  obtain ⟨⟨a0, a1, a2, a3⟩, al⟩ := HT6.out
  go_wp2_with fail
  clear a0 a1 a2 a3 al
  obtain ⟨q, hq⟩ : ∃ r, r = w6.heap.size := ⟨_, rfl⟩
  rw [← hq] at HA6 ⊢
  clear hq
  generalize w6.alloc (.cells #[.bool S.lv, .int .i64 S.lo, .int .i64 S.hi, .slice D.A S.cs.length D.c, .int .i64 S.hd, .int .i64 S.sz, .slice D.A2 S.l.length D.c2, .slice D.A3 S.h.length D.c3] 37) = w7 at *
  refine (HG.out _).mono ?_
  rintro e w8 ⟨rfl, hb⟩
  have hb2 := hb.alloc hb.size (.cells #[.int .i64 (z + 1), .int .i64 0, .int .i64 0, .int .i64 0] 28)
  have HT8 := Lib.hid (HT6.out.up hb2)
  have HA8 := Lib.hid (HA6.out.below hb2)
  have HU8 := Lib.hid (YT.start w8 ⟨z + 1, 0, 0, 0⟩ 28)
  clear hb hb2 HT6 HA6 HG
  obtain ⟨⟨a0, a1, a2, a3⟩, al⟩ := HU8.out
  obtain ⟨t0, t1, t2, t3, t4, t5, t6, t7, tl⟩ := HA8.out.s8.facts
  go_wp2_with fail
  clear a0 a1 a2 a3 al t0 t1 t2 t3 t4 t5 t6 t7 tl
  obtain ⟨r1, hr1⟩ : ∃ r, r = w8.heap.size := ⟨_, rfl⟩
  rw [← hr1] at HU8 ⊢
  clear hr1
  generalize w8.alloc (.cells #[.int .i64 (z + 1), .int .i64 0, .int .i64 0, .int .i64 0] 28) = w9 at *
  refine (HN.out _ _ HA8.out).mono ?_
  rintro e w10 ⟨rfl, hb⟩
  have hb2 := hb.alloc hb.size (.cells #[.int .i64 (z + 1 + 1), .int .i64 ep, .int .i64 cr, .int .i64 cl] 28)
  have HT10 := Lib.hid (HT8.out.up hb2)
  have HA10 := Lib.hid (HA8.out.below hb2)
  have HU10 := Lib.hid (HU8.out.up hb2)
  have HV10 := Lib.hid (YT.start w10 ⟨z + 1 + 1, ep, cr, cl⟩ 28)
  clear hb hb2 HT8 HA8 HU8 HN
  obtain ⟨t0, t1, t2, t3, t4, t5, t6, t7, tl⟩ := HA10.out.s8.facts
  go_wp2_with fail
  clear t0 t1 t2 t3 t4 t5 t6 t7 tl
  obtain ⟨r2, hr2⟩ : ∃ r, r = w10.heap.size := ⟨_, rfl⟩
  rw [← hr2] at HV10 ⊢
  clear hr2
  generalize w10.alloc (.cells #[.int .i64 (z + 1 + 1), .int .i64 ep, .int .i64 cr, .int .i64 cl] 28) = w11 at *
  refine (HC.out _ _ HA10.out).mono ?_
  rintro e w12 ⟨rfl, hb⟩
  have HT12 := Lib.hid (HT10.out.up hb)
  have HU12 := Lib.hid (HU10.out.up hb)
  have HV12 := Lib.hid (HV10.out.up hb)
  have HB12 := Lib.hid (HA10.out.bel.trans (hb.mono HA10.out.bel.size))
  clear hb HT10 HU10 HV10 HA10 HC
  have HQ1 := Lib.hid (fun W => yquiet_any (some ⟨W.heap.size, 0, none⟩) 2 2 [⟨z, 0, 0, 0⟩, ⟨z + 1, 0, 0, 0⟩] _ (tl_two W ⟨z, 0, 0, 0⟩ ⟨z + 1, 0, 0, 0⟩ 28))
  have HQ2 := Lib.hid (fun W => yquiet_any (some ⟨W.heap.size, 0, none⟩) 2 2 [⟨z, 0, 0, 0⟩, ⟨z + 1 + 1, ep, cr, cl⟩] _ (tl_two W ⟨z, 0, 0, 0⟩ ⟨z + 1 + 1, ep, cr, cl⟩ 28))
  rw [quB_two, evB_yes (n := z) HZ.out.2.2, evB_no (n := z + 1) (by have := HZ.out; omega)] at HQ1
  rw [quB_two, evB_yes (n := z) HZ.out.2.2, evB_yes (n := z + 1 + 1) (by have := HZ.out; omega)] at HQ2
  have HSM := Lib.hid (fun W A B (k : Tl W W.heap.size (.slice A 1 1) [⟨z, 0, 0, 0⟩]) (k2 : Tl W W.heap.size (.slice B 1 1) [⟨z + 1 + 1, ep, cr, cl⟩]) => ysame_any A B 1 1 1 1 _ _ W k k2)
  rw [show smB [⟨z, 0, 0, 0⟩] [⟨z + 1 + 1, ep, cr, cl⟩] = false from decide_eq_false (fun e => by injection e with e _; injection e with e _; omega)] at HSM
  have hgt : z < z + 1 + 1 := by omega
  obtain ⟨⟨a0, a1, a2, a3⟩, al⟩ := HT12.out
  obtain ⟨⟨b0, b1, b2, b3⟩, bl⟩ := HU12.out
  go_wp2_with fail
  clear a0 a1 a2 a3 al b0 b1 b2 b3 bl
  refine (HQ1.out _).mono ?_
  rintro e w13 ⟨rfl, hb⟩
  have hb2 := (((Below.refl w12.heap.size w12).alloc (Nat.le_refl _) _).trans (hb.mono (by simp)))
  have HT13 := Lib.hid (HT12.out.up hb2)
  have HV13 := Lib.hid (HV12.out.up hb2)
  have HB13 := Lib.hid (HB12.out.trans (hb2.mono HB12.out.size))
  clear hb hb2 HT12 HU12 HV12 HB12 HQ1
  obtain ⟨⟨a0, a1, a2, a3⟩, al⟩ := HT13.out
  obtain ⟨⟨b0, b1, b2, b3⟩, bl⟩ := HV13.out
  go_wp2_with fail
  clear a0 a1 a2 a3 al b0 b1 b2 b3 bl
  refine (HQ2.out _).mono ?_
  rintro e w14 ⟨rfl, hb⟩
  have hb2 := (((Below.refl w13.heap.size w13).alloc (Nat.le_refl _) _).trans (hb.mono (by simp)))
  have HT14 := Lib.hid (HT13.out.up hb2)
  have HV14 := Lib.hid (HV13.out.up hb2)
  have HB14 := Lib.hid (HB13.out.trans (hb2.mono HB13.out.size))
  clear hb hb2 HT13 HV13 HB13 HQ2
  have HL1 := Lib.hid ((tl_one w14 ⟨z, 0, 0, 0⟩ 28).up ((Below.refl _ _).alloc (Nat.le_refl _) (.cells #[.int .i64 (z + 1 + 1), .int .i64 ep, .int .i64 cr, .int .i64 cl] 28)))
  have hl2 := tl_one (w14.alloc (.cells #[.int .i64 z, .int .i64 0, .int .i64 0, .int .i64 0] 28)) ⟨z + 1 + 1, ep, cr, cl⟩ 28
  rw [show (w14.alloc (.cells #[.int .i64 z, .int .i64 0, .int .i64 0, .int .i64 0] 28)).heap.size = w14.heap.size + 1 by simp] at hl2
  have HL2 := Lib.hid hl2
  have HB15 := Lib.hid ((HB14.out.alloc HB14.out.size (.cells #[.int .i64 z, .int .i64 0, .int .i64 0, .int .i64 0] 28)).alloc (by have := HB14.out.size; simp; omega) (.cells #[.int .i64 (z + 1 + 1), .int .i64 ep, .int .i64 cr, .int .i64 cl] 28))
  clear hl2
  obtain ⟨⟨a0, a1, a2, a3⟩, al⟩ := HT14.out
  obtain ⟨⟨b0, b1, b2, b3⟩, bl⟩ := HV14.out
  go_wp2_with fail
  clear a0 a1 a2 a3 al b0 b1 b2 b3 bl
  refine (HSM.out _ _ _ HL1.out HL2.out).mono ?_
  rintro e w15 ⟨rfl, hb⟩
  have HB16 := Lib.hid (HB15.out.trans (hb.mono HB15.out.size))
  clear hb HT14 HV14 HB14 HB15 HL1 HL2 HSM
  go_wp2_with fail
  refine (HAW.out _).mono ?_
  rintro e w16 ⟨rfl, hb⟩
  have HB17 := Lib.hid (HB16.out.trans (hb.mono HB16.out.size))
  clear hb
  go_wp2
  go_ret
  exact ⟨rfl, HB17.out⟩

/-! The row's step, as the guide's shell has it. -/
namespace stripeCounts
open Go.ChangeShapes Go.WideShapes Go.ChangeAt
open Go.ChangeMaps (open_string shut_string)
theorem own : ownKnob Tryz.prog.godebug = none := by kernel_rfl
theorem laidOut : laidOutB Tryz.prog = true := by kernel_rfl

set_option maxRecDepth 100000 in
theorem lifted (os : Os) (started : os.Started) (H : Type) (enc : TypeId × Value → H) :
    ReturnsInHanded {} Tryz.checked os 4 .any (Rows.stripeCountsSpec.pre6 enc Tryz.prog Tryz.f4 Rows.stripeCountsRow.domain false) (Rows.stripeCountsSpec.post enc Tryz.prog Tryz.f4 false true false false) := by
  refine returnsInHanded_of_change (C := Tryz.checked) own started (by kernel_rfl) Tryz.func4
    (ChangeSpec.witness6 (enc := enc) (C := Tryz.checked) false ⟨#[], #[.slice none 0 0], []⟩ 8 (by kernel_rfl) (by kernel_rfl) (by kernel_rfl) (by kernel_rfl)) ?_
  intro W base args ds gs before hval0 hW hcnd _
  have hval : ∀ (j : Nat) t v, Tryz.f4.params[j]? = some t → args[j]? = some v → Value.okWide Tryz.prog W .any base t v := hval0
  have hW' := hW
  obtain ⟨p, q, hA0, hV, rfl, hfz, hnd⟩ := hW
  have hA : DataW.TrodAll enc Tryz.prog W 0 (fun _ => true) true Tryz.f4.params.toList args.toList ds p := hA0
  rw [Tryz.params4] at hA hval
  obtain ⟨v0, vs0, d0, ds0, p0, q0, hargs, rfl, rfl, h0, r0⟩ := trodAll_cons hA
  obtain ⟨rfl, rfl, rfl⟩ := trodAll_nil r0
  obtain rfl : args = #[v0] := by cases args; simp_all
  obtain ⟨rfl, rfl⟩ := trodVars_none hV
  obtain ⟨a0, len0, cap0, rfl⟩ := okWide_slice Tryz.underlying22 (hval 0 22 v0 rfl rfl)
  have k0 := h0
  have lt0 : ∀ x ∈ p0, x.block < W.heap.size := by obtain ⟨m, hm⟩ := k0; exact DataW.trod_lt m _ _ _ hm
  obtain ⟨z0, w0⟩ : ∃ zs, Ns W W.heap.size (.slice a0 len0 cap0) zs := by
    obtain ⟨fuel, hf⟩ := h0
    rcases open_ints Tryz.underlying22 Tryz.underlying3 (by kernel_rfl) hf with ⟨hcs, _⟩ | ⟨x, l, c, zs, hcs, _, hl, hm, hz, _, hcell, hwz⟩
    · simp [Value.cells] at hcs
      obtain ⟨rfl, rfl, rfl⟩ := hcs
      exact ⟨[], Ns.nil⟩
    · simp [Value.cells] at hcs
      obtain ⟨rfl, rfl, rfl⟩ := hcs
      exact Ns.of_cells hl hm (by simpa using hz) hcell hwz
  clear hA0 hval0
  refine (StripeCounts_walk W a0 len0 cap0 z0 w0).mono fun e W' ⟨he, bel⟩ => ?_
  subst he
  exact ⟨_, rfl, _, _, _, [], _, [], hW', trodAll_mk1 (shut_bool Tryz.underlying4 _), (trodAll_cons_mk (Below.trod laidOut (by kernel_rfl) (of_decide_eq_true (by kernel_rfl)) k0 bel lt0) trodAll_mk0), rfl, bel.frame _, fun h => by cases h⟩

theorem over : Rows.stripeCountsRow.holds Tryz.pinned (OpenSpec.ofChange Rows.stripeCountsSpec) :=
  OpenClaim.holds_of_wide 4 Tryz.f4 rfl rfl rfl rfl rfl rfl rfl ⟨rfl, rfl, rfl, rfl, rfl⟩ rfl rfl rfl rfl rfl (by kernel_rfl) Tryz.func4 (by kernel_rfl)
    (of_decide_eq_true (by kernel_rfl)) (by unfold Func.isWrapper; first | (rw [if_pos (by decide +kernel)]; kernel_rfl) | (rw [if_neg (by decide +kernel)]; exact ⟨rfl, rfl⟩))
    (fun os started H enc _ => lifted os started H enc)

/-- The statement. -/
theorem proved : Rows.StripeCountsSaid := over
#print axioms proved
end stripeCounts
end Go.Proofs.YtdilgeabcacbdaaGreat
