/- What is proved here: shardqueuelaw11.StripeSums returns true for every input and leaves its argument as it was. No condition. -/
import Derived.Test.YtdilgeabcacbdaaGreatJ43
import Derived.Test.YtdilgeabcacbdaaGreatJ44
import Derived.ProofKit
import Derived.OpenShut
import Derived.ChangeOld
namespace Go.Proofs.YtdilgeabcacbdaaGreat
open Go.RowKit
set_option linter.unusedVariables false

/-- What a shard of the base counts in the first epoch with the greatest limit. -/
theorem ct_all {S : Sh} (h : SrSh3 S) : ctR S 0 8 = S.sz ∧ ctL S 0 8 = (S.l.length : Int) ∧ (0 ≤ S.sz ∧ S.sz ≤ 12) ∧ S.l.length ≤ 12 := by
  obtain ⟨hs, hlow⟩ := h
  rcases hs with ⟨V, k, rfl⟩ | ⟨k, h1, h2, rfl⟩
  · have hb : ctB V.sh 0 8 = true := by
      unfold ctB
      refine decide_eq_true (exS_ok k.va rfl ?_)
      rw [wi_true (by omega) (by omega), wi_true (by omega) (by omega)]; rfl
    obtain ⟨e1, e2⟩ := ct_yes hb
    have hls : lsF V.sh.cs V.sh.hd V.sh.sz = V.L := k.ls
    rw [hls] at hlow e1
    have hr : V.L.countP (fun M => !puF M 0 && !spF M 8) = V.L.length := List.countP_eq_length.2 fun M hM => by
      have hv := (vf_ok (k.gL.1 M hM)).2.2.1.1
      have h3 := hlow M hM
      unfold puF spF
      rw [decide_eq_false (show ¬ M.ep < 0 by omega), decide_eq_false (show ¬ (8 : Int) ≤ M.ct by omega)]
      rfl
    have hl : (V.sh.l.map Le.m).countP (fun M => !puF M 0) = V.l.length := by
      show (V.l.map Le.m).countP (fun M => !puF M 0) = V.l.length
      rw [List.countP_eq_length.2 (fun M hM => by
        obtain ⟨x, hx, rfl⟩ := List.mem_map.1 hM
        have hv := (vf_ok (k.tb.ok x hx).1).2.2.1.1
        unfold puF
        rw [decide_eq_false (show ¬ x.m.ep < 0 by omega)]
        rfl)]
      simp
    rw [hr] at e1
    rw [hl] at e2
    have hroom := k.room
    have hn2 := k.n2
    refine ⟨e1, e2, ⟨?_, ?_⟩, ?_⟩
    · show (0 : Int) ≤ (V.L.length : Int); omega
    · show (V.L.length : Int) ≤ 12; omega
    · show V.l.length ≤ 12; omega
  · have hb : ctB (frS k) 0 8 = false := by
      unfold ctB
      exact decide_eq_false (by rw [fr_ex h1 h2]; decide)
    obtain ⟨e1, e2⟩ := ct_no hb
    rw [e1, e2]
    exact ⟨rfl, rfl, ⟨Int.le_refl 0, (by show (0 : Int) ≤ 12; decide)⟩, Nat.zero_le _⟩
/-- The sums of one stripe more. -/
theorem su_more {l : List St} {R L r n : Int} (h : (suR l 0 = R ∧ suL l 0 = L) ∧ suR l 1 = 0 ∧ suL l 1 = 0) (h1 : 0 ≤ r ∧ r ≤ 12) (h2 : 0 ≤ n ∧ n ≤ 12) : (suR (l ++ [⟨2, 0, r, n⟩]) 0 = R + r ∧ suL (l ++ [⟨2, 0, r, n⟩]) 0 = L + n) ∧ suR (l ++ [⟨2, 0, r, n⟩]) 1 = 0 ∧ suL (l ++ [⟨2, 0, r, n⟩]) 1 = 0 := by
  obtain ⟨⟨a, b⟩, c, d⟩ := h
  have y : cnB ⟨2, 0, r, n⟩ 0 = true := cnB_iff.2 ⟨rfl, ⟨(by show (0 : Int) ≤ 2; decide), (by show (2 : Int) ≤ 1099511627776; decide)⟩, ⟨h1.1, by show r ≤ 1099511627776; omega⟩, ⟨h2.1, by show n ≤ 1099511627776; omega⟩⟩
  have z : cnB ⟨2, 0, r, n⟩ 1 = false := cnB_no (fun g => absurd g.1 (by show ¬ (0 : Int) = 1; decide))
  unfold suR at a c ⊢
  unfold suL at b d ⊢
  simp only [List.map_append, List.sum_append, List.map_cons, List.map_nil, List.sum_cons, List.sum_nil, y, z, a, b, c, d]
  simp
theorem bg_zero : bgE ⟨0, 0, 0, 0⟩ = 0 ∧ bgT ⟨0, 0, 0, 0⟩ = ⟨1, 0, 0, 0⟩ := by decide
set_option maxHeartbeats 16000000 in
set_option maxRecDepth 20000 in
theorem StripeSums_walk (w : World) (a0 : Option Addr) (l0 c0 : Nat) (zs : List Int) (hz : Ns w w.heap.size (.slice a0 l0 c0) zs) :
    Calls Tryz.prog 5 #[.slice a0 l0 c0] w fun e w' => e = .returned (.bool true) ∧ Below w.heap.size w w' := by
  have HN := Lib.hid (new_src a0 l0 c0 zs w hz)
  have HAW := Lib.hid (fun W => awake11_any W)
  obtain ⟨i0, hi0, hz0⟩ := Option.map_eq_some_iff.1 info_st
  simp only [Prod.mk.injEq] at hz0
  have HI := Lib.hid hi0
  have HZ := Lib.hid hz0
  clear hz hi0 hz0
  go_enter Tryz.func5, Tryz.ntmps5
  go_wp2_with fail
  refine HN.out.mono ?_
  rintro e w1 ⟨g, rfl, hs, hb⟩
  have HB1 := Lib.hid hb
  have HBG := Lib.hid (show w.heap.size ≤ g from hs.1)
  have HY1 := Lib.hid (YW.start hs)
  clear hb hs HN
  go_wp2_with fail
  refine (n_any w.heap.size g _ HY1.out.src 5 (by omega) (by omega)).mono ?_
  rintro e w2 ⟨n, rfl, n1, n2, hs, hg⟩
  obtain ⟨m, hm⟩ : ∃ m : Nat, n = m := ⟨n.toNat, by omega⟩
  subst hm
  have hm4 : m ≤ 4 := by omega
  have HY2 := Lib.hid (HY1.out.turn hs hg)
  clear hs hg n1 n2 HY1
  go_wp2_with fail
  go_loopw [4, 5, 6, 7] (fun sv xv yv iv wr => ∃ (i : Nat) (A : Option Addr) (c : Nat) (l : List St) (R L : Int), iv = .int .i64 i ∧ sv = .slice A l.length c ∧ xv = .int .i64 R ∧ yv = .int .i64 L ∧ i + l.length ≤ 4 ∧ Hid ((0 ≤ R ∧ R ≤ 12 * (l.length : Int)) ∧ 0 ≤ L ∧ L ≤ 12 * (l.length : Int)) ∧ Hid ((suR l 0 = R ∧ suL l 0 = L) ∧ suR l 1 = 0 ∧ suL l 1 = 0) ∧ Hid (YW w1 w.heap.size g A c l wr)) (fun _ _ _ iv _ => (intOf iv).toNat)
  case atStart => exact ⟨m, none, 0, [], 0, 0, rfl, rfl, rfl, rfl, by simpa using hm4, Lib.hid ⟨⟨by omega, by simp⟩, by omega, by simp⟩, Lib.hid ⟨⟨rfl, rfl⟩, rfl, rfl⟩, HY2⟩
  case round =>
    clear HY2 hm4
    obtain ⟨i, A, c, l, R, L, rfl, rfl, rfl, rfl, hil, HRL, HSU, HY⟩ := hrel
    by_cases hi : 0 < i
    · have hi' : (0 : Int) < (i : Int) := by omega
      have HIL := Lib.hid hil
      have hw2 : IntKind.i64.wrap ((i : Int) - 1) = (i : Int) - 1 := IntWalk.i64_in _ (by omega)
      have hw3 : wrap64 ((i : Int) - 1) = (i : Int) - 1 := IntWalk.wrap64_in _ (by omega)
      clear hil
      go_wp2_with fail
      refine (shard3_any w.heap.size g _ HY.out.src).mono ?_
      rintro e w2 ⟨S, D, rfl, hS, hn, hr, hs, hg⟩
      have HCT := Lib.hid (ct_all hS)
      have HSV := Lib.hid hS.1.va
      have HY2 := Lib.hid (HY.out.turn hs hg)
      have HA2 := Lib.hid (SAt.made 37 (below_only HB1.out HY2.out.grow HBG.out (Nat.le_refl _)) hr)
      have HNP := Lib.hid (show ∀ x, Value.ownBlock (.slice A l.length c) = some x → x ≠ w2.heap.size from fun x e => by have := (HY2.out.own.lt x e).2; omega)
      have HY3 := Lib.hid (HY2.out.alloc (.cells #[.bool S.lv, .int .i64 S.lo, .int .i64 S.hi, .slice D.A S.cs.length D.c, .int .i64 S.hd, .int .i64 S.sz, .slice D.A2 S.l.length D.c2, .slice D.A3 S.h.length D.c3] 37))
      clear hS hn hr hs hg HY HY2
      have HG := Lib.hid (fun W => ybegin_any ⟨0, 0, 0, 0⟩ W)
      rw [bg_zero.1, bg_zero.2] at HG
      have HEE := Lib.hid (enE_0 (s := ⟨1, 0, 0, 0⟩) (S := S) (ep := 0) (lim := 8) ⟨by decide, by decide⟩ (by decide) HSV.out (by decide) (by decide))
      have HET := Lib.hid (show enT ⟨1, 0, 0, 0⟩ S 0 8 = ⟨2, 0, S.sz, S.l.length⟩ from by unfold enT; rw [if_pos HEE.out, HCT.out.1, HCT.out.2.1]; rfl)
      have HN := Lib.hid (fun p W (k : SAt w p S D W) => yend_any ⟨1, 0, 0, 0⟩ S D 0 8 W k.sr)
      rw [HEE.out, HET.out] at HN
      go_wp2_with fail
      obtain ⟨p, hp⟩ : ∃ r, r = w2.heap.size := ⟨_, rfl⟩
      rw [← hp] at HA2 HNP ⊢
      clear hp
      generalize w2.alloc (.cells #[.bool S.lv, .int .i64 S.lo, .int .i64 S.hi, .slice D.A S.cs.length D.c, .int .i64 S.hd, .int .i64 S.sz, .slice D.A2 S.l.length D.c2, .slice D.A3 S.h.length D.c3] 37) = w3 at *
      refine (HG.out _).mono ?_
      rintro e w4 ⟨rfl, hb⟩
      have hb2 := hb.alloc hb.size (.cells #[.int .i64 1, .int .i64 0, .int .i64 0, .int .i64 0] 28)
      have HA4 := Lib.hid (HA2.out.below hb2)
      have HY4 := Lib.hid (HY3.out.below hb2)
      have HU4 := Lib.hid (YT.start w4 ⟨1, 0, 0, 0⟩ 28)
      clear hb hb2 HA2 HY3 HG
      obtain ⟨⟨a0, a1, a2, a3⟩, al⟩ := HU4.out
      obtain ⟨t0, t1, t2, t3, t4, t5, t6, t7, tl⟩ := HA4.out.s8.facts
      go_wp2_with fail
      clear a0 a1 a2 a3 al t0 t1 t2 t3 t4 t5 t6 t7 tl HU4
      generalize w4.alloc (.cells #[.int .i64 1, .int .i64 0, .int .i64 0, .int .i64 0] 28) = w5 at *
      refine (HN.out _ _ HA4.out).mono ?_
      rintro e w6 ⟨rfl, hb⟩
      have hb2 := hb.alloc hb.size (.cells #[.int .i64 2, .int .i64 0, .int .i64 S.sz, .int .i64 S.l.length] 28)
      have HA6 := Lib.hid (HA4.out.below hb2)
      have HY6 := Lib.hid (HY4.out.below hb2)
      have HU6 := Lib.hid (YT.start w6 ⟨2, 0, S.sz, S.l.length⟩ 28)
      have HRS := Lib.hid (show IntKind.i64.wrap (R + S.sz) = R + S.sz ∧ IntKind.i64.wrap (L + (S.l.length : Int)) = L + (S.l.length : Int) from by
        have h1 := HRL.out
        have h2 := HCT.out.2.2
        have h3 := HIL.out
        exact ⟨IntWalk.i64_in _ (by omega), IntWalk.i64_in _ (by omega)⟩)
      obtain ⟨hwr, hwl⟩ := HRS.out
      clear hb hb2 HA4 HY4 HN
      go_upto_region 12 with (fail)
      obtain ⟨u, hu⟩ : ∃ r, r = w6.heap.size := ⟨_, rfl⟩
      rw [← hu] at HU6 ⊢
      clear hu
      generalize w6.alloc (.cells #[.int .i64 2, .int .i64 0, .int .i64 S.sz, .int .i64 S.l.length] 28) = w7 at *
      obtain ⟨⟨a0, a1, a2, a3⟩, al⟩ := HU6.out
      have HSM := Lib.hid (su_more HSU.out HCT.out.2.2.1 (show 0 ≤ (S.l.length : Int) ∧ (S.l.length : Int) ≤ 12 by have := HCT.out.2.2.2; omega))
      go_wp2_with (at_builtin; refine wpList_append_lies _ rfl _ _ _ rfl w1.heap.size 28 i0 _ 4 32 Tryz.underlying44 HI.out HZ.out.1 HZ.out.2.1 HZ.out.2.2 rfl (by omega) (.slice A l.length c) l.length (tcs l) (by rfl) (HY6.out.alloc _).own ⟨w7.heap.size, 0, none⟩ 1 1 (St.mk 2 0 S.sz S.l.length).l (by rfl) (by rfl) (World.news_of_block (cs := (St.mk 2 0 S.sz S.l.length).l.toArray) (t := 28) (fr := (0, 0)) (heap_alloc_new w7 _)) (St.l_one _) (by omega) (by have := HIL.out; unfold maxLen; omega) (by have := HIL.out; omega) ((HY6.out.alloc _).grow.size) _ rfl ?_; intro g1 cp1 w8 hown1 hgrow1 hat1 hlt1; have HP8 := Lib.hid ((HY6.out.alloc _).app (S := St.mk 2 0 S.sz S.l.length) hown1 hgrow1); have hpl := (HA6.out.alloc (.cells #[.int .i64 2, .int .i64 0, .int .i64 S.sz, .int .i64 S.l.length] 28)).s8.lt; have t5 := (hgrow1.cell_far ⟨p, 5, none⟩ hpl (fun e => HNP.out p e.symm rfl)).trans (HA6.out.alloc (.cells #[.int .i64 2, .int .i64 0, .int .i64 S.sz, .int .i64 S.l.length] 28)).s8.c5; have t6 := (hgrow1.cell_far ⟨p, 6, none⟩ hpl (fun e => HNP.out p e.symm rfl)).trans (HA6.out.alloc (.cells #[.int .i64 2, .int .i64 0, .int .i64 S.sz, .int .i64 S.l.length] 28)).s8.c6; have tl := Nat.lt_of_lt_of_le hpl hgrow1.size; clear hown1 hgrow1 hat1 hlt1 hpl)
      exact ⟨⟨i - 1, _, _, l ++ [St.mk 2 0 S.sz S.l.length], R + S.sz, L + (S.l.length : Int), by congr 1; omega, by simp, rfl, rfl, by have := HIL.out; simp; omega, Lib.hid (by have h1 := HRL.out; have h2 := HCT.out.2.2; simp; omega), HSM, HP8⟩, by simp [intOf]; omega⟩
    · have hi0 : i = 0 := by omega
      subst hi0
      have HS0 := Lib.hid (fun W (k : YW w1 w.heap.size g A c l W) => ysum_any A l.length c l 0 W k.tl (by omega))
      have HS1 := Lib.hid (fun W (k : YW w1 w.heap.size g A c l W) => ysum_any A l.length c l 1 W k.tl (by omega))
      rw [HSU.out.1.1, HSU.out.1.2] at HS0
      rw [HSU.out.2.1, HSU.out.2.2] at HS1
      clear hi hil HSU HRL
      go_wp2_with fail
      refine (HS0.out _ HY.out).mono ?_
      rintro e w4 ⟨rfl, hb⟩
      have HY4 := Lib.hid (HY.out.below hb)
      clear hb HY
      go_wp2_with fail
      refine (HS1.out _ HY4.out).mono ?_
      rintro e w5 ⟨rfl, hb⟩
      have HY5 := Lib.hid (HY4.out.below hb)
      clear hb HY4
      go_wp2_with fail
      refine (HAW.out _).mono ?_
      rintro e w6 ⟨rfl, hb⟩
      have HB6 := Lib.hid (below_only HB1.out (HY5.out.below hb).grow HBG.out (Nat.le_refl _))
      clear hb HY5
      go_wp2
      go_ret
      exact ⟨rfl, HB6.out⟩

/-! The row's step, as the guide's shell has it. -/
namespace stripeSums
open Go.ChangeShapes Go.WideShapes Go.ChangeAt
open Go.ChangeMaps (open_string shut_string)
theorem own : ownKnob Tryz.prog.godebug = none := by kernel_rfl
theorem laidOut : laidOutB Tryz.prog = true := by kernel_rfl

set_option maxRecDepth 100000 in
theorem lifted (os : Os) (started : os.Started) (H : Type) (enc : TypeId × Value → H) :
    ReturnsInHanded {} Tryz.checked os 5 .any (Rows.stripeSumsSpec.pre6 enc Tryz.prog Tryz.f5 Rows.stripeSumsRow.domain false) (Rows.stripeSumsSpec.post enc Tryz.prog Tryz.f5 false true false false) := by
  refine returnsInHanded_of_change (C := Tryz.checked) own started (by kernel_rfl) Tryz.func5
    (ChangeSpec.witness6 (enc := enc) (C := Tryz.checked) false ⟨#[], #[.slice none 0 0], []⟩ 8 (by kernel_rfl) (by kernel_rfl) (by kernel_rfl) (by kernel_rfl)) ?_
  intro W base args ds gs before hval0 hW hcnd _
  have hval : ∀ (j : Nat) t v, Tryz.f5.params[j]? = some t → args[j]? = some v → Value.okWide Tryz.prog W .any base t v := hval0
  have hW' := hW
  obtain ⟨p, q, hA0, hV, rfl, hfz, hnd⟩ := hW
  have hA : DataW.TrodAll enc Tryz.prog W 0 (fun _ => true) true Tryz.f5.params.toList args.toList ds p := hA0
  rw [Tryz.params5] at hA hval
  obtain ⟨v0, vs0, d0, ds0, p0, q0, hargs, rfl, rfl, h0, r0⟩ := trodAll_cons hA
  obtain ⟨rfl, rfl, rfl⟩ := trodAll_nil r0
  obtain rfl : args = #[v0] := by cases args; simp_all
  obtain ⟨rfl, rfl⟩ := trodVars_none hV
  obtain ⟨a0, len0, cap0, rfl⟩ := okWide_slice Tryz.underlying22 (hval 0 22 v0 rfl rfl)
  have k0 := h0
  have lt0 : ∀ x ∈ p0, x.block < W.heap.size := by obtain ⟨m, hm⟩ := k0; exact DataW.trod_lt m _ _ _ hm
  obtain ⟨z0, w0⟩ : ∃ zs, Ns W W.heap.size (.slice a0 len0 cap0) zs := by
    obtain ⟨fuel, hf⟩ := h0
    rcases open_ints Tryz.underlying22 Tryz.underlying3 (by kernel_rfl) hf with ⟨hcs, _⟩ | ⟨x, l, c, zs, hcs, _, hl, hm, hz, _, hcell, hwz⟩
    · simp [Value.cells] at hcs
      obtain ⟨rfl, rfl, rfl⟩ := hcs
      exact ⟨[], Ns.nil⟩
    · simp [Value.cells] at hcs
      obtain ⟨rfl, rfl, rfl⟩ := hcs
      exact Ns.of_cells hl hm (by simpa using hz) hcell hwz
  clear hA0 hval0
  refine (StripeSums_walk W a0 len0 cap0 z0 w0).mono fun e W' ⟨he, bel⟩ => ?_
  subst he
  exact ⟨_, rfl, _, _, _, [], _, [], hW', trodAll_mk1 (shut_bool Tryz.underlying4 _), (trodAll_cons_mk (Below.trod laidOut (by kernel_rfl) (of_decide_eq_true (by kernel_rfl)) k0 bel lt0) trodAll_mk0), rfl, bel.frame _, fun h => by cases h⟩

theorem over : Rows.stripeSumsRow.holds Tryz.pinned (OpenSpec.ofChange Rows.stripeSumsSpec) :=
  OpenClaim.holds_of_wide 5 Tryz.f5 rfl rfl rfl rfl rfl rfl rfl ⟨rfl, rfl, rfl, rfl, rfl⟩ rfl rfl rfl rfl rfl (by kernel_rfl) Tryz.func5 (by kernel_rfl)
    (of_decide_eq_true (by kernel_rfl)) (by unfold Func.isWrapper; first | (rw [if_pos (by decide +kernel)]; kernel_rfl) | (rw [if_neg (by decide +kernel)]; exact ⟨rfl, rfl⟩))
    (fun os started H enc _ => lifted os started H enc)

/-- The statement. -/
theorem proved : Rows.StripeSumsSaid := over
#print axioms proved
end stripeSums
end Go.Proofs.YtdilgeabcacbdaaGreat
