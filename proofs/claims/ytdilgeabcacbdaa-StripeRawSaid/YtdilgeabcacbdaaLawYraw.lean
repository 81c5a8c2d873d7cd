/- What is proved here: shardqueuelaw11.StripeRaw returns true for every input and leaves its arguments as they were. No condition. -/
import Derived.Test.YtdilgeabcacbdaaJ39
import Derived.Test.YtdilgeabcacbdaaJ40
import Derived.Test.YtdilgeabcacbdaaJ42
import Derived.ProofKit
import Derived.OpenShut
import Derived.ChangeOld
namespace Go.Proofs.Ytdilgeabcacbdaa
open Go.RowKit
set_option linter.unusedVariables false

/-- The arguments of the law in memory. -/
structure YR (w : World) (p q : Nat) (s : St) (S : Sh) (D : Sx) (A B : Option Addr) (n c m d : Nat) (a b : List St) (W : World) : Prop where
  yb : YB w p q s S D W
  ta : Tl W W.heap.size (.slice A n c) a
  tb : Tl W W.heap.size (.slice B m d) b
theorem YR.below {w W W' : World} {p q : Nat} {s : St} {S : Sh} {D : Sx} {A B : Option Addr} {n c m d : Nat} {a b : List St} (h : YR w p q s S D A B n c m d a b W) (hb : Below W.heap.size W W') : YR w p q s S D A B n c m d a b W' := ⟨h.yb.below hb, h.ta.up hb, h.tb.up hb⟩
set_option maxHeartbeats 8000000 in
set_option maxRecDepth 20000 in
theorem StripeRaw_walk (w : World) (s : St) (hw : s.wf) (S : Sh) (D : Sx) (hs : SR w w.heap.size S D) (ep : Int) (w2 : (Lit.int .i64 ep).wf = true) (lim : Int) (w3 : (Lit.int .i64 lim).wf = true) (A : Option Addr) (n c : Nat) (a : List St) (ha : Tl w w.heap.size (.slice A n c) a) (B : Option Addr) (m d : Nat) (b : List St) (hb : Tl w w.heap.size (.slice B m d) b) :
    Calls Try.prog 3 #[s.v, sv S D, .int .i64 ep, .int .i64 lim, .slice A n c, .slice B m d] w fun e w' => e = .returned (.bool true) ∧ Below w.heap.size w w' := by
  have H0 := Lib.hid (show YR w w.heap.size (w.heap.size + 1) s S D A B n c m d a b _ from ⟨YB.start s hs 23 32, (ha.up (below2 w _ _)), (hb.up (below2 w _ _))⟩)
  obtain ⟨T1, hT1⟩ : ∃ T, T = bgT s := ⟨_, rfl⟩
  obtain ⟨E1, hE1⟩ : ∃ E, E = bgE s := ⟨_, rfl⟩
  obtain ⟨T2, hT2⟩ : ∃ T, T = enT s S ep lim := ⟨_, rfl⟩
  obtain ⟨E2, hE2⟩ : ∃ E, E = enE s S ep lim := ⟨_, rfl⟩
  obtain ⟨X, hX⟩ : ∃ E, E = suR a ep := ⟨_, rfl⟩
  obtain ⟨Y, hY⟩ : ∃ E, E = suL a ep := ⟨_, rfl⟩
  obtain ⟨Q, hQ⟩ : ∃ E, E = quB a := ⟨_, rfl⟩
  obtain ⟨M, hM⟩ : ∃ E, E = smB a b := ⟨_, rfl⟩
  have HG1 := Lib.hid (fun W => ybegin_any s W)
  have HG2 := Lib.hid (fun W => rbegin_any s W)
  have HN1 := Lib.hid (fun p q W (k : YR w p q s S D A B n c m d a b W) => yend_any s S D ep lim W k.yb.sa.sr)
  have HN2 := Lib.hid (fun p q W (k : YR w p q s S D A B n c m d a b W) => rend_any s S D ep lim W k.yb.sa.sr)
  have HS1 := Lib.hid (fun p q W (k : YR w p q s S D A B n c m d a b W) (hl : n ≤ 1000) => ysum_any A n c a ep W k.ta hl)
  have HS2 := Lib.hid (fun p q W (k : YR w p q s S D A B n c m d a b W) (hl : n ≤ 1000) => rsum_any A n c a ep W k.ta hl)
  have HQ1 := Lib.hid (fun p q W (k : YR w p q s S D A B n c m d a b W) => yquiet_any A n c a W k.ta)
  have HQ2 := Lib.hid (fun p q W (k : YR w p q s S D A B n c m d a b W) => rquiet_any A n c a W k.ta)
  have HM1 := Lib.hid (fun p q W (k : YR w p q s S D A B n c m d a b W) => ysame_any A B n m c d a b W k.ta k.tb)
  have HM2 := Lib.hid (fun p q W (k : YR w p q s S D A B n c m d a b W) => rsame11_any A B n m c d a b W k.ta k.tb)
  have HM3 := Lib.hid (fun p q W (k : YR w p q s S D A B n c m d a b W) => ysame_any A A n n c c a a W k.ta k.ta)
  have HAW := Lib.hid (fun W => awake11_any W)
  rw [← hT1, ← hE1] at HG1 HG2
  rw [← hT2, ← hE2] at HN1 HN2
  rw [← hX, ← hY] at HS1 HS2
  rw [← hQ] at HQ1 HQ2
  rw [← hM] at HM1 HM2
  rw [sm_self] at HM3
  have heq1 := eqst T1 T1
  have heq2 := eqst T2 T2
  rw [decide_eq_true rfl] at heq1 heq2
  obtain ⟨p, hp⟩ : ∃ p, p = w.heap.size := ⟨_, rfl⟩
  obtain ⟨q, hq⟩ : ∃ q, q = w.heap.size + 1 := ⟨_, rfl⟩
  have HPP := Lib.hid (And.intro hp hq)
  clear hT1 hE1 hT2 hE2 hX hY hQ hM ha hb hs hp hq hw w2 w3
  have hway : 20 < S.cs.length ∨ (S.cs.length ≤ 20 ∧ 20 < S.l.length) ∨ (S.cs.length ≤ 20 ∧ S.l.length ≤ 20 ∧ 20 < S.h.length) ∨ (S.cs.length ≤ 20 ∧ S.l.length ≤ 20 ∧ S.h.length ≤ 20 ∧ 50 < n) ∨ (S.cs.length ≤ 20 ∧ S.l.length ≤ 20 ∧ S.h.length ≤ 20 ∧ n ≤ 50 ∧ 50 < m) ∨ (S.cs.length ≤ 20 ∧ S.l.length ≤ 20 ∧ S.h.length ≤ 20 ∧ n ≤ 50 ∧ m ≤ 50) := by omega
  rcases hway with l1 | ⟨l1, l2⟩ | ⟨l1, l2, l3⟩ | ⟨l1, l2, l3, l4⟩ | ⟨l1, l2, l3, l4, l5⟩ | ⟨l1, l2, l3, l4, l5⟩
  iterate 5
    · go_enter Try.func3, Try.ntmps3
      obtain ⟨⟨x0, x1, x2, x3, xl⟩, y0, y1, y2, y3, y4, y5, y6, y7, yl⟩ := H0.out.yb.all
      go_wp2
      go_ret
      exact ⟨rfl, H0.out.yb.sa.bel⟩
  · go_enter Try.func3, Try.ntmps3
    obtain ⟨⟨x0, x1, x2, x3, xl⟩, y0, y1, y2, y3, y4, y5, y6, y7, yl⟩ := H0.out.yb.all
    go_wp2_with fail
    clear x0 x1 x2 x3 xl y0 y1 y2 y3 y4 y5 y6 y7 yl
    rw [← HPP.out.2, ← HPP.out.1] at H0
    generalize (w.alloc (.cells #[.int .i64 s.sq, .int .i64 s.ep, .int .i64 s.rd, .int .i64 s.ls] 23)).alloc (.cells #[.bool S.lv, .int .i64 S.lo, .int .i64 S.hi, .slice D.A S.cs.length D.c, .int .i64 S.hd, .int .i64 S.sz, .slice D.A2 S.l.length D.c2, .slice D.A3 S.h.length D.c3] 32) = w2 at *
    rw [← HPP.out.2, ← HPP.out.1]
    clear l1 l2 l3 l5
    have hn1 : n ≤ 1000 := by omega
    have HLN := Lib.hid hn1
    clear hn1 l4
    refine (HG1.out _).mono ?_
    rintro e w3 ⟨rfl, hb⟩
    have H1 := Lib.hid ((H0.out.below hb).below ((Below.refl _ _).alloc (Nat.le_refl _) (.cells #[.int .i64 T1.sq, .int .i64 T1.ep, .int .i64 T1.rd, .int .i64 T1.ls] 23)))
    have HT1 := Lib.hid (YT.start w3 T1 23)
    clear hb H0
    obtain ⟨⟨x0, x1, x2, x3, xl⟩, y0, y1, y2, y3, y4, y5, y6, y7, yl⟩ := H1.out.yb.all
    go_wp2_with fail
    clear x0 x1 x2 x3 xl y0 y1 y2 y3 y4 y5 y6 y7 yl
    obtain ⟨r1, hr1⟩ : ∃ r, r = w3.heap.size := ⟨_, rfl⟩
    rw [← hr1] at HT1 ⊢
    clear hr1
    generalize w3.alloc (.cells #[.int .i64 T1.sq, .int .i64 T1.ep, .int .i64 T1.rd, .int .i64 T1.ls] 23) = w4 at *
    refine (HG2.out _).mono ?_
    rintro e w5 ⟨rfl, hb⟩
    have HA := ((Below.refl w5.heap.size w5).alloc (Nat.le_refl _) (.cells #[.int .i64 T1.sq, .int .i64 T1.ep, .int .i64 T1.rd, .int .i64 T1.ls] 23))
    have H2 := Lib.hid ((H1.out.below hb).below HA)
    have HT1 := Lib.hid ((HT1.out.up hb).up HA)
    have HU1 := Lib.hid (YT.start w5 T1 23)
    clear hb H1 HA
    obtain ⟨⟨x0, x1, x2, x3, xl⟩, y0, y1, y2, y3, y4, y5, y6, y7, yl⟩ := H2.out.yb.all
    go_wp2_with fail
    clear x0 x1 x2 x3 xl y0 y1 y2 y3 y4 y5 y6 y7 yl
    obtain ⟨r2, hr2⟩ : ∃ r, r = w5.heap.size := ⟨_, rfl⟩
    rw [← hr2] at HU1 ⊢
    clear hr2
    generalize w5.alloc (.cells #[.int .i64 T1.sq, .int .i64 T1.ep, .int .i64 T1.rd, .int .i64 T1.ls] 23) = w6 at *
    refine (HN1.out _ _ _ H2.out).mono ?_
    rintro e w7 ⟨rfl, hb⟩
    have HA := ((Below.refl w7.heap.size w7).alloc (Nat.le_refl _) (.cells #[.int .i64 T2.sq, .int .i64 T2.ep, .int .i64 T2.rd, .int .i64 T2.ls] 23))
    have H3 := Lib.hid ((H2.out.below hb).below HA)
    have HT1 := Lib.hid ((HT1.out.up hb).up HA)
    have HU1 := Lib.hid ((HU1.out.up hb).up HA)
    have HT2 := Lib.hid (YT.start w7 T2 23)
    clear hb H2 HA
    obtain ⟨⟨x0, x1, x2, x3, xl⟩, y0, y1, y2, y3, y4, y5, y6, y7, yl⟩ := H3.out.yb.all
    go_wp2_with fail
    clear x0 x1 x2 x3 xl y0 y1 y2 y3 y4 y5 y6 y7 yl
    obtain ⟨r3, hr3⟩ : ∃ r, r = w7.heap.size := ⟨_, rfl⟩
    rw [← hr3] at HT2 ⊢
    clear hr3
    generalize w7.alloc (.cells #[.int .i64 T2.sq, .int .i64 T2.ep, .int .i64 T2.rd, .int .i64 T2.ls] 23) = w8 at *
    refine (HN2.out _ _ _ H3.out).mono ?_
    rintro e w9 ⟨rfl, hb⟩
    have HA := ((Below.refl w9.heap.size w9).alloc (Nat.le_refl _) (.cells #[.int .i64 T2.sq, .int .i64 T2.ep, .int .i64 T2.rd, .int .i64 T2.ls] 23))
    have H4 := Lib.hid ((H3.out.below hb).below HA)
    have HT1 := Lib.hid ((HT1.out.up hb).up HA)
    have HU1 := Lib.hid ((HU1.out.up hb).up HA)
    have HT2 := Lib.hid ((HT2.out.up hb).up HA)
    have HU2 := Lib.hid (YT.start w9 T2 23)
    clear hb H3 HA
    go_wp2_with fail
    obtain ⟨r4, hr4⟩ : ∃ r, r = w9.heap.size := ⟨_, rfl⟩
    rw [← hr4] at HU2 ⊢
    clear hr4
    generalize w9.alloc (.cells #[.int .i64 T2.sq, .int .i64 T2.ep, .int .i64 T2.rd, .int .i64 T2.ls] 23) = w10 at *
    refine (HS1.out _ _ _ H4.out HLN.out).mono ?_
    rintro e w11 ⟨rfl, hb⟩
    have H5 := Lib.hid (H4.out.below hb)
    have HT1 := Lib.hid (HT1.out.up hb)
    have HU1 := Lib.hid (HU1.out.up hb)
    have HT2 := Lib.hid (HT2.out.up hb)
    have HU2 := Lib.hid (HU2.out.up hb)
    clear hb H4
    go_wp2_with fail
    refine (HS2.out _ _ _ H5.out HLN.out).mono ?_
    rintro e w12 ⟨rfl, hb⟩
    have H6 := Lib.hid (H5.out.below hb)
    have HT1 := Lib.hid (HT1.out.up hb)
    have HU1 := Lib.hid (HU1.out.up hb)
    have HT2 := Lib.hid (HT2.out.up hb)
    have HU2 := Lib.hid (HU2.out.up hb)
    clear hb H5
    obtain ⟨⟨a0, a1, a2, a3⟩, al⟩ := HT1.out
    obtain ⟨⟨b0, b1, b2, b3⟩, bl⟩ := HU1.out
    obtain ⟨⟨c0, c1, c2, c3⟩, cl⟩ := HT2.out
    obtain ⟨⟨d0, d1, d2, d3⟩, dl⟩ := HU2.out
    go_wp2_with fail
    clear a0 a1 a2 a3 al b0 b1 b2 b3 bl c0 c1 c2 c3 cl d0 d1 d2 d3 dl HT1 HU1 HT2 HU2
    refine (HQ1.out _ _ _ H6.out).mono ?_
    rintro e w13 ⟨rfl, hb⟩
    have H7 := Lib.hid (H6.out.below hb)
    clear hb H6
    go_wp2_with fail
    refine (HQ2.out _ _ _ H7.out).mono ?_
    rintro e w14 ⟨rfl, rfl⟩
    go_wp2_with fail
    refine (HM1.out _ _ _ H7.out).mono ?_
    rintro e w15 ⟨rfl, hb⟩
    have H8 := Lib.hid (H7.out.below hb)
    clear hb H7
    go_wp2_with fail
    refine (HM2.out _ _ _ H8.out).mono ?_
    rintro e w16 ⟨rfl, hb⟩
    have H9 := Lib.hid (H8.out.below hb)
    clear hb H8
    go_wp2_with fail
    refine (HM3.out _ _ _ H9.out).mono ?_
    rintro e w17 ⟨rfl, hb⟩
    have H10 := Lib.hid (H9.out.below hb)
    clear hb H9
    go_wp2_with fail
    refine (HAW.out _).mono ?_
    rintro e w18 ⟨rfl, hb⟩
    have H11 := Lib.hid (H10.out.below hb)
    clear hb H10
    go_wp2
    go_ret
    exact ⟨rfl, H11.out.yb.sa.bel⟩

/-! The row's step, as the guide's shell has it. -/
namespace stripeRaw
open Go.ChangeShapes Go.WideShapes Go.ChangeAt
open Go.ChangeMaps (open_string shut_string)
theorem own : ownKnob Try.prog.godebug = none := by kernel_rfl
theorem laidOut : laidOutB Try.prog = true := by kernel_rfl

set_option maxRecDepth 100000 in
theorem lifted (os : Os) (started : os.Started) (H : Type) (enc : TypeId × Value → H) :
    ReturnsInHanded {} Try.checked os 3 .any (Rows.stripeRawSpec.pre6 enc Try.prog Try.f3 Rows.stripeRawRow.domain false) (Rows.stripeRawSpec.post enc Try.prog Try.f3 false true false false) := by
  refine returnsInHanded_of_change (C := Try.checked) own started (by kernel_rfl) Try.func3
    (ChangeSpec.witness6 (enc := enc) (C := Try.checked) false ⟨#[], #[.agg #[.int .i64 0, .int .i64 0, .int .i64 0, .int .i64 0], .agg #[.bool false, .int .i64 0, .int .i64 0, .slice none 0 0, .int .i64 0, .int .i64 0, .slice none 0 0, .slice none 0 0], .int .i64 0, .int .i64 0, .slice none 0 0, .slice none 0 0], []⟩ 8 (by kernel_rfl) (by kernel_rfl) (by kernel_rfl) (by kernel_rfl)) ?_
  intro W base args ds gs before hval0 hW hcnd _
  have hval : ∀ (j : Nat) t v, Try.f3.params[j]? = some t → args[j]? = some v → Value.okWide Try.prog W .any base t v := hval0
  have hW' := hW
  obtain ⟨p, q, hA0, hV, rfl, hfz, hnd⟩ := hW
  have hA : DataW.TrodAll enc Try.prog W 0 (fun _ => true) true Try.f3.params.toList args.toList ds p := hA0
  rw [Try.params3] at hA hval
  obtain ⟨v0, vs0, d0, ds0, p0, q0, hargs, rfl, rfl, h0, r0⟩ := trodAll_cons hA
  obtain ⟨v1, vs1, d1, ds1, p1, q1, rfl, rfl, rfl, h1, r1⟩ := trodAll_cons r0
  obtain ⟨v2, vs2, d2, ds2, p2, q2, rfl, rfl, rfl, h2, r2⟩ := trodAll_cons r1
  obtain ⟨v3, vs3, d3, ds3, p3, q3, rfl, rfl, rfl, h3, r3⟩ := trodAll_cons r2
  obtain ⟨v4, vs4, d4, ds4, p4, q4, rfl, rfl, rfl, h4, r4⟩ := trodAll_cons r3
  obtain ⟨v5, vs5, d5, ds5, p5, q5, rfl, rfl, rfl, h5, r5⟩ := trodAll_cons r4
  obtain ⟨rfl, rfl, rfl⟩ := trodAll_nil r5
  obtain rfl : args = #[v0, v1, v2, v3, v4, v5] := by cases args; simp_all
  obtain ⟨rfl, rfl⟩ := trodVars_none hV
  obtain ⟨a0, rfl, rfl, rfl, w0⟩ := open_stripe (hval 0 23 v0 rfl rfl) h0
  have k1 := h1
  have lt1 : ∀ x ∈ p1, x.block < W.heap.size := by obtain ⟨m, hm⟩ := k1; exact DataW.trod_lt m _ _ _ hm
  obtain ⟨a1, x1, rfl, w1⟩ := open_shard (hval 1 32 v1 rfl rfl) h1
  obtain ⟨a2, rfl, rfl, rfl, w2⟩ := open_int Try.underlying3 (hval 2 3 v2 rfl rfl) h2
  obtain ⟨a3, rfl, rfl, rfl, w3⟩ := open_int Try.underlying3 (hval 3 3 v3 rfl rfl) h3
  obtain ⟨a4, len4, cap4, rfl⟩ := okWide_slice Try.underlying33 (hval 4 33 v4 rfl rfl)
  have k4 := h4
  have lt4 : ∀ x ∈ p4, x.block < W.heap.size := by obtain ⟨m, hm⟩ := k4; exact DataW.trod_lt m _ _ _ hm
  obtain ⟨z4, w4⟩ : ∃ zs, Tl W W.heap.size (.slice a4 len4 cap4) zs := by
    obtain ⟨fuel, hf⟩ := h4
    obtain ⟨A, n, c, l, hcs, hl⟩ := open_stripes hf
    simp [Value.cells] at hcs
    obtain ⟨rfl, rfl, rfl⟩ := hcs
    exact ⟨l, hl⟩
  obtain ⟨a5, len5, cap5, rfl⟩ := okWide_slice Try.underlying33 (hval 5 33 v5 rfl rfl)
  have k5 := h5
  have lt5 : ∀ x ∈ p5, x.block < W.heap.size := by obtain ⟨m, hm⟩ := k5; exact DataW.trod_lt m _ _ _ hm
  obtain ⟨z5, w5⟩ : ∃ zs, Tl W W.heap.size (.slice a5 len5 cap5) zs := by
    obtain ⟨fuel, hf⟩ := h5
    obtain ⟨A, n, c, l, hcs, hl⟩ := open_stripes hf
    simp [Value.cells] at hcs
    obtain ⟨rfl, rfl, rfl⟩ := hcs
    exact ⟨l, hl⟩
  clear hA0 hval0
  refine (StripeRaw_walk W a0 w0 a1 x1 w1 a2 w2 a3 w3 a4 len4 cap4 z4 w4 a5 len5 cap5 z5 w5).mono fun e W' ⟨he, bel⟩ => ?_
  subst he
  exact ⟨_, rfl, _, _, _, [], _, [], hW', trodAll_mk1 (shut_bool Try.underlying4 _), (trodAll_cons_mk (shut_stripe a0 w0) (trodAll_cons_mk (Below.trod laidOut (by kernel_rfl) (of_decide_eq_true (by kernel_rfl)) k1 bel lt1) (trodAll_cons_mk (shut_int Try.underlying3 w2) (trodAll_cons_mk (shut_int Try.underlying3 w3) (trodAll_cons_mk (Below.trod laidOut (by kernel_rfl) (of_decide_eq_true (by kernel_rfl)) k4 bel lt4) (trodAll_cons_mk (Below.trod laidOut (by kernel_rfl) (of_decide_eq_true (by kernel_rfl)) k5 bel lt5) trodAll_mk0)))))), rfl, bel.frame _, fun h => by cases h⟩

theorem over : Rows.stripeRawRow.holds Try.pinned (OpenSpec.ofChange Rows.stripeRawSpec) :=
  OpenClaim.holds_of_wide 3 Try.f3 rfl rfl rfl rfl rfl rfl rfl ⟨rfl, rfl, rfl, rfl, rfl⟩ rfl rfl rfl rfl rfl (by kernel_rfl) Try.func3 (by kernel_rfl)
    (of_decide_eq_true (by kernel_rfl)) (by unfold Func.isWrapper; first | (rw [if_pos (by decide +kernel)]; kernel_rfl) | (rw [if_neg (by decide +kernel)]; exact ⟨rfl, rfl⟩))
    (fun os started H enc _ => lifted os started H enc)

/-- The statement. -/
theorem proved : Rows.StripeRawSaid := over
#print axioms proved
end stripeRaw
end Go.Proofs.Ytdilgeabcacbdaa
