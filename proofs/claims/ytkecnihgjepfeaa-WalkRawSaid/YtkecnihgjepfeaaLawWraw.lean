/- What is proved here: shardqueuelaw16.WalkRaw returns true for every input and leaves its arguments as they were. No condition. -/
import Derived.Test.YtkecnihgjepfeaaJ03
import Derived.Test.YtkecnihgjepfeaaJ04
import Derived.ProofKit
import Derived.OpenShut
import Derived.ChangeOld
import Derived.Deep.DeepCutAuto
import Derived.Deep.RegionHeld3
namespace Go.Proofs.Ytkecnihgjepfeaa
open Go.RowKit
set_option linter.unusedVariables false
set_option linter.unusedSimpArgs false

abbrev K2w (W : World) (p : Nat) (x : Wk) : Prop := W.cell? ⟨p, 0, none⟩ = some (.int .i64 x.nx) ∧ W.cell? ⟨p, 1, none⟩ = some (.int .i64 x.cv)
/-- What the last statement loads. -/
abbrev S16 (p b1 b2 b3 b4 b5 b6 b7 : Nat) (x A C V P : Wk) (W : World) : Prop := W.cell? ⟨b1, 0, none⟩ = some (.int .i64 A.nx) ∧ W.cell? ⟨b1, 1, none⟩ = some (.int .i64 A.cv) ∧ W.cell? ⟨b2, 0, none⟩ = some (.int .i64 A.nx) ∧ W.cell? ⟨b2, 1, none⟩ = some (.int .i64 A.cv) ∧ W.cell? ⟨b3, 0, none⟩ = some (.int .i64 C.nx) ∧ W.cell? ⟨b3, 1, none⟩ = some (.int .i64 C.cv) ∧ W.cell? ⟨b4, 0, none⟩ = some (.int .i64 C.nx) ∧ W.cell? ⟨b4, 1, none⟩ = some (.int .i64 C.cv) ∧ W.cell? ⟨b6, 0, none⟩ = some (.int .i64 P.nx) ∧ W.cell? ⟨b6, 1, none⟩ = some (.int .i64 P.cv) ∧ W.cell? ⟨b7, 0, none⟩ = some (.int .i64 P.nx) ∧ W.cell? ⟨b7, 1, none⟩ = some (.int .i64 P.cv) ∧ W.cell? ⟨p, 0, none⟩ = some (.int .i64 x.nx) ∧ W.cell? ⟨p, 1, none⟩ = some (.int .i64 x.cv) ∧ W.cell? ⟨b5, 0, none⟩ = some (.int .i64 V.nx) ∧ W.cell? ⟨b5, 1, none⟩ = some (.int .i64 V.cv)
theorem Wr.s16 {w W : World} {B g p b1 b2 b3 b4 b5 b6 b7 : Nat} {x A C V P : Wk} (h : Wr w B g [(b7, P), (b6, P), (b5, V), (b4, C), (b3, C), (b2, A), (b1, A), (p, x)] W) : S16 p b1 b2 b3 b4 b5 b6 b7 x A C V P W := by
  have k : ∀ q ∈ [(b7, P), (b6, P), (b5, V), (b4, C), (b3, C), (b2, A), (b1, A), (p, x)], K2w W q.1 q.2 := fun q hq => ⟨(h.bx q hq).1.c0, (h.bx q hq).1.c1⟩
  exact ⟨(k (b1, A) (by simp)).1, (k (b1, A) (by simp)).2, (k (b2, A) (by simp)).1, (k (b2, A) (by simp)).2, (k (b3, C) (by simp)).1, (k (b3, C) (by simp)).2, (k (b4, C) (by simp)).1, (k (b4, C) (by simp)).2, (k (b6, P) (by simp)).1, (k (b6, P) (by simp)).2, (k (b7, P) (by simp)).1, (k (b7, P) (by simp)).2, (k (p, x) (by simp)).1, (k (p, x) (by simp)).2, (k (b5, V) (by simp)).1, (k (b5, V) (by simp)).2⟩

set_option maxHeartbeats 8000000 in
set_option maxRecDepth 20000 in
theorem WalkRaw_walk (w : World) (x : Wk) (wx : x.wf) (ro : Int) (w1 : (Lit.int .i64 ro).wf = true) (lo : Int) (w2 : (Lit.int .i64 lo).wf = true) (hi : Int) (w3 : (Lit.int .i64 hi).wf = true) (a1 : Option Addr) (l1 c1 : Nat) (zs : List Int) (hz : Ns w w.heap.size (.slice a1 l1 c1) zs) :
    Calls Try.prog 3 #[x.v, .int .i64 ro, .int .i64 lo, .int .i64 hi, .slice a1 l1 c1] w fun e w' => e = .returned (.bool true) ∧ Below w.heap.size w w' := by
  have HP := Lib.hid (Wb.start w x 23)
  have HB0 := Lib.hid ((Below.refl w.heap.size w).alloc (Nat.le_refl _) (.cells #[.int .i64 x.nx, .int .i64 x.cv] 23))
  have HNS := Lib.hid (new_src a1 l1 c1 zs (w.alloc (.cells #[.int .i64 x.nx, .int .i64 x.cv] 23)) (by
    obtain ⟨A, c, e1, e2, e3, e4, e5⟩ := hz
    exact ⟨A, c, e1, e2, e3, (e4.below HB0.out).more HB0.out.size, e5⟩))
  have HBE := Lib.hid (fun W => wbegin_any ro W)
  have HBR := Lib.hid (fun W => rbegin16_any ro W)
  have HAD := Lib.hid (fun W => wadvance_any x lo hi W)
  have HAR := Lib.hid (fun W => radvance16_any x lo hi W)
  have HAV := Lib.hid (fun V a b W => wadvance_any V a b W)
  have HRV := Lib.hid (fun V a b W => radvance16_any V a b W)
  have HOV := Lib.hid (fun V W => wover_any V W)
  have HRO := Lib.hid (fun V W => rover16_any V W)
  have HAW := Lib.hid (fun W => awake16_any W)
  obtain ⟨A, hA⟩ : ∃ A, A = bgW ro := ⟨_, rfl⟩
  obtain ⟨ea, hea⟩ : ∃ A, A = bgWE ro := ⟨_, rfl⟩
  obtain ⟨C, hC⟩ : ∃ A, A = adW x lo hi := ⟨_, rfl⟩
  obtain ⟨ec, hec⟩ : ∃ A, A = adWE x lo hi := ⟨_, rfl⟩
  rw [← hA, ← hea] at HBE HBR
  rw [← hC, ← hec] at HAD HAR
  have hEA := eqw A
  have hEC := eqw C
  have HEQ := Lib.hid eqw
  obtain ⟨p, hp⟩ : ∃ p, p = w.heap.size := ⟨_, rfl⟩
  have HN := Lib.hid hp
  rw [← hp] at HP
  clear hA hea hC hec wx w1 w2 w3 hz hp
  go_enter Try.func3, Try.ntmps3
  go_upto_region 1 with (fail)
  rw [← HN.out]
  generalize w.alloc (.cells #[.int .i64 x.nx, .int .i64 x.cv] 23) = wp at *
  go_wp2_with fail
  refine HNS.out.mono ?_
  rintro e w1 ⟨g, rfl, hs, hb⟩
  have HW := Lib.hid (show Wr w wp.heap.size g [(p, x)] w1 from ⟨hs, fun q hq => by
    obtain rfl : q = (p, x) := by simpa using hq
    exact ⟨HP.out.up hb, by have := HP.out.lt; have := hs.1; show p ≠ g; omega, by rw [← HN.out]; exact Nat.le_refl _⟩, HB0.out.trans (hb.mono HB0.out.size), by have := hs.1; have := HB0.out.size; omega, HB0.out.size⟩)
  clear hs hb HNS HP HB0
  go_wp2_with fail
  refine (HBE.out _).mono ?_
  rintro e w2 ⟨rfl, hb⟩
  have HW := Lib.hid ((HW.out.below hb).box A 23)
  obtain ⟨b1, hq⟩ : ∃ q, q = w2.heap.size := ⟨_, rfl⟩
  rw [← hq] at HW
  clear hb
  go_upto_region 3 with (fail)
  rw [← hq]
  clear hq
  generalize w2.alloc (.cells #[.int .i64 A.nx, .int .i64 A.cv] 23) = w2a at *
  go_wp2_with fail
  refine (HBR.out _).mono ?_
  rintro e w3 ⟨rfl, hb⟩
  have HW := Lib.hid ((HW.out.below hb).box A 23)
  obtain ⟨b2, hq⟩ : ∃ q, q = w3.heap.size := ⟨_, rfl⟩
  rw [← hq] at HW
  clear hb
  go_upto_region 4 with (fail)
  rw [← hq]
  clear hq
  generalize w3.alloc (.cells #[.int .i64 A.nx, .int .i64 A.cv] 23) = w3a at *
  obtain ⟨x0, x1, xl, f0, f1⟩ := (HW.out.bx (p, x) (by simp)).1.all
  go_wp2_with fail
  refine (HAD.out _).mono ?_
  rintro e w4 ⟨rfl, hb⟩
  clear x0 x1 xl f0 f1
  have HW := Lib.hid ((HW.out.below hb).box C 23)
  obtain ⟨b3, hq⟩ : ∃ q, q = w4.heap.size := ⟨_, rfl⟩
  rw [← hq] at HW
  clear hb
  go_upto_region 5 with (fail)
  rw [← hq]
  clear hq
  generalize w4.alloc (.cells #[.int .i64 C.nx, .int .i64 C.cv] 23) = w4a at *
  obtain ⟨x0, x1, xl, f0, f1⟩ := (HW.out.bx (p, x) (by simp)).1.all
  go_wp2_with fail
  refine (HAR.out _).mono ?_
  rintro e w5 ⟨rfl, hb⟩
  clear x0 x1 xl f0 f1
  have HW := Lib.hid ((HW.out.below hb).box C 23)
  obtain ⟨b4, hq⟩ : ∃ q, q = w5.heap.size := ⟨_, rfl⟩
  rw [← hq] at HW
  clear hb
  go_upto_region 6 with (fail)
  rw [← hq]
  clear hq
  generalize w5.alloc (.cells #[.int .i64 C.nx, .int .i64 C.cv] 23) = w5a at *
  go_wp2_with fail
  refine (n_any wp.heap.size g _ HW.out.src 65537 (by omega) (by omega)).mono ?_
  rintro e w6 ⟨n, rfl, -, -, hs, hg⟩
  have HW := Lib.hid (HW.out.turn hs hg)
  clear hs hg
  have HPK := Lib.hid (pick_any wp.heap.size g (w6.alloc (.cells #[.int .i64 0, .int .i64 1, .int .i64 60000, .int .i64 65535, .int .i64 65536, .int .i64 (-1)] 3)) (HW.out.src.alloc (.cells #[.int .i64 0, .int .i64 1, .int .i64 60000, .int .i64 65535, .int .i64 65536, .int .i64 (-1)] 3)) w6.heap.size 6 [0, 1, 60000, 65535, 65536, -1] rfl (by simp) (by have := HW.out.src.2.1; omega) (by omega) (by omega) (by
    intro j hj
    have h6 : j < 6 := hj
    match j, h6 with
    | 0, _ => simp [go_sem]
    | 1, _ => simp [go_sem]
    | 2, _ => simp [go_sem]
    | 3, _ => simp [go_sem]
    | 4, _ => simp [go_sem]
    | 5, _ => simp [go_sem]))
  have HW := Lib.hid (HW.out.below ((Below.refl _ _).alloc (Nat.le_refl _) (.cells #[.int .i64 0, .int .i64 1, .int .i64 60000, .int .i64 65535, .int .i64 65536, .int .i64 (-1)] 3)))
  go_wp2_with fail
  refine HPK.out.mono ?_
  rintro e w7 ⟨k, rfl, -, hs, hg⟩
  have HW := Lib.hid ((HW.out.turn hs hg).box ⟨n, k⟩ 23)
  obtain ⟨b5, hq⟩ : ∃ q, q = w7.heap.size := ⟨_, rfl⟩
  rw [← hq] at HW
  clear hs hg HPK
  go_upto_region 7 with (fail)
  rw [← hq]
  clear hq
  generalize w7.alloc (.cells #[.int .i64 n, .int .i64 k] 23) = w7a at *
  go_wp2_with fail
  refine (span_any wp.heap.size g _ HW.out.src).mono ?_
  rintro e w8 ⟨lo2, hi2, rfl, -, -, -, hs, hg⟩
  have HW := Lib.hid (HW.out.turn hs hg)
  clear hs hg
  have HAV := Lib.hid (HAV.out ⟨n, k⟩ lo2 hi2)
  have HRV := Lib.hid (HRV.out ⟨n, k⟩ lo2 hi2)
  obtain ⟨P, hP⟩ : ∃ A, A = adW ⟨n, k⟩ lo2 hi2 := ⟨_, rfl⟩
  obtain ⟨ep, hep⟩ : ∃ A, A = adWE ⟨n, k⟩ lo2 hi2 := ⟨_, rfl⟩
  rw [← hP, ← hep] at HAV HRV
  have hEP := HEQ.out P
  clear hP hep HEQ
  obtain ⟨x0, x1, xl, f0, f1⟩ := (HW.out.bx (b5, ⟨n, k⟩) (by simp)).1.all
  go_wp2_with fail
  refine (HAV.out _).mono ?_
  rintro e w9 ⟨rfl, hb⟩
  clear x0 x1 xl f0 f1
  have HW := Lib.hid ((HW.out.below hb).box P 23)
  obtain ⟨b6, hq⟩ : ∃ q, q = w9.heap.size := ⟨_, rfl⟩
  rw [← hq] at HW
  clear hb
  go_upto_region 9 with (fail)
  rw [← hq]
  clear hq
  generalize w9.alloc (.cells #[.int .i64 P.nx, .int .i64 P.cv] 23) = w9a at *
  obtain ⟨x0, x1, xl, f0, f1⟩ := (HW.out.bx (b5, ⟨n, k⟩) (by simp)).1.all
  go_wp2_with fail
  refine (HRV.out _).mono ?_
  rintro e w10 ⟨rfl, hb⟩
  clear x0 x1 xl f0 f1
  have HW := Lib.hid ((HW.out.below hb).box P 23)
  obtain ⟨b7, hq⟩ : ∃ q, q = w10.heap.size := ⟨_, rfl⟩
  rw [← hq] at HW
  clear hb
  go_upto_region 10 with (fail)
  rw [← hq]
  clear hq
  generalize w10.alloc (.cells #[.int .i64 P.nx, .int .i64 P.cv] 23) = w10a at *
  have HOX := Lib.hid (HOV.out x)
  have HRX := Lib.hid (HRO.out x)
  have HOY := Lib.hid (HOV.out ⟨n, k⟩)
  have HRY := Lib.hid (HRO.out ⟨n, k⟩)
  obtain ⟨o1, ho1⟩ : ∃ o, o = ovB x := ⟨_, rfl⟩
  obtain ⟨o2, ho2⟩ : ∃ o, o = ovB ⟨n, k⟩ := ⟨_, rfl⟩
  rw [← ho1] at HOX HRX
  rw [← ho2] at HOY HRY
  clear ho1 ho2 HOV HRO HBE HBR HAD HAR HAV HRV HN
  have HW := Lib.hid HW.out.drew
  have HS := Lib.hid HW.out.s16
  have hda : decide (ea = ea) = true := by simp
  have hdc : decide (ec = ec) = true := by simp
  have hdp : decide (ep = ep) = true := by simp
  have hea : (ea == ea) = true := by simp
  have hec : (ec == ec) = true := by simp
  have hep : (ep == ep) = true := by simp
  have ho1 : (o1 == o1) = true := by simp
  have ho2 : (o2 == o2) = true := by simp
  go_region_held3 (fun W => S16 p b1 b2 b3 b4 b5 b6 b7 x A C ⟨n, k⟩ P W)
    (first | with_reducible exact HS.out)
    (first
    | (go_at_call 14; (first | (with_reducible refine (HOX.out _).mono ?_) | (with_reducible refine (HOY.out _).mono ?_)); rintro e v1 ⟨rfl, hb⟩; have HW := Lib.hid (HW.out.below hb); have HS := Lib.hid HW.out.s16; clear hb)
    | (go_at_call 15; (first | (with_reducible refine (HRX.out _).mono ?_) | (with_reducible refine (HRY.out _).mono ?_)); rintro e v1 ⟨rfl, hb⟩; have HW := Lib.hid (HW.out.below hb); have HS := Lib.hid HW.out.s16; clear hb)
    | (go_at_call 16; (with_reducible refine (HAW.out _).mono ?_); rintro e v1 ⟨rfl, hb⟩; have HW := Lib.hid (HW.out.below hb); have HS := Lib.hid HW.out.s16; clear hb))
  all_goals
    have HF := Lib.hid HW.out.bel
    clear HW HS
    go_wp2
    go_ret
    exact ⟨rfl, HF.out⟩

/-! The row's step, as the guide's shell has it. -/
namespace walkRaw
open Go.ChangeShapes Go.WideShapes Go.ChangeAt
open Go.ChangeMaps (open_string shut_string)
theorem own : ownKnob Try.prog.godebug = none := by kernel_rfl
theorem laidOut : laidOutB Try.prog = true := by kernel_rfl

set_option maxRecDepth 100000 in
theorem lifted (os : Os) (started : os.Started) (H : Type) (enc : TypeId × Value → H) :
    ReturnsInHanded {} Try.checked os 3 .any (Rows.walkRawSpec.pre6 enc Try.prog Try.f3 Rows.walkRawRow.domain false) (Rows.walkRawSpec.post enc Try.prog Try.f3 false true false false) := by
  refine returnsInHanded_of_change (C := Try.checked) own started (by kernel_rfl) Try.func3
    (ChangeSpec.witness6 (enc := enc) (C := Try.checked) false ⟨#[], #[.agg #[.int .i64 0, .int .i64 0], .int .i64 0, .int .i64 0, .int .i64 0, .slice none 0 0], []⟩ 8 (by kernel_rfl) (by kernel_rfl) (by kernel_rfl) (by kernel_rfl)) ?_
  intro W base args ds gs before hval0 hW hcnd _
  have hval : ∀ (j : Nat) t v, Try.f3.params[j]? = some t → args[j]? = some v → Value.okWide Try.prog W .any base t v := hval0
  have hW' := hW
  obtain ⟨p, q, hA0, hV, rfl, hfz, hnd⟩ := hW
  have hA : DataW.TrodAll enc Try.prog W 0 (fun _ => true) true Try.f3.params.toList args.toList ds p := hA0
  rw [Try.params3] at hA hval
  obtain ⟨v0, vs0, d0, ds0, p0, q0, hargs, rfl, rfl, h0, r0⟩ := trodAll_cons hA
  obtain ⟨v1, vs1, d1, ds1, p1, q1, rfl, rfl, rfl, h1, r1⟩ := trodAll_cons r0
  obtain ⟨v2, vs2, d2, ds2, p2, q2, rfl, rfl, rfl, h2, r2⟩ := trodAll_cons r1
  obtain ⟨v3, vs3, d3, ds3, p3, q3, rfl, rfl, rfl, h3, r3⟩ := trodAll_cons r2
  obtain ⟨v4, vs4, d4, ds4, p4, q4, rfl, rfl, rfl, h4, r4⟩ := trodAll_cons r3
  obtain ⟨rfl, rfl, rfl⟩ := trodAll_nil r4
  obtain rfl : args = #[v0, v1, v2, v3, v4] := by cases args; simp_all
  obtain ⟨rfl, rfl⟩ := trodVars_none hV
  obtain ⟨a0, rfl, rfl, rfl, w0⟩ := open_walk (hval 0 23 v0 rfl rfl) h0
  obtain ⟨a1, rfl, rfl, rfl, w1⟩ := open_int Try.underlying3 (hval 1 3 v1 rfl rfl) h1
  obtain ⟨a2, rfl, rfl, rfl, w2⟩ := open_int Try.underlying3 (hval 2 3 v2 rfl rfl) h2
  obtain ⟨a3, rfl, rfl, rfl, w3⟩ := open_int Try.underlying3 (hval 3 3 v3 rfl rfl) h3
  obtain ⟨a4, len4, cap4, rfl⟩ := okWide_slice Try.underlying24 (hval 4 24 v4 rfl rfl)
  have k4 := h4
  have lt4 : ∀ x ∈ p4, x.block < W.heap.size := by obtain ⟨m, hm⟩ := k4; exact DataW.trod_lt m _ _ _ hm
  obtain ⟨z4, w4⟩ : ∃ zs, Ns W W.heap.size (.slice a4 len4 cap4) zs := by
    obtain ⟨fuel, hf⟩ := h4
    rcases open_ints Try.underlying24 Try.underlying3 (by kernel_rfl) hf with ⟨hcs, _⟩ | ⟨x, l, c, zs, hcs, _, hl, hm, hz, _, hcell, hwz⟩
    · simp [Value.cells] at hcs
      obtain ⟨rfl, rfl, rfl⟩ := hcs
      exact ⟨[], Ns.nil⟩
    · simp [Value.cells] at hcs
      obtain ⟨rfl, rfl, rfl⟩ := hcs
      exact Ns.of_cells hl hm (by simpa using hz) hcell hwz
  clear hA0 hval0
  refine (WalkRaw_walk W a0 w0 a1 w1 a2 w2 a3 w3 a4 len4 cap4 z4 w4).mono fun e W' ⟨he, bel⟩ => ?_
  subst he
  exact ⟨_, rfl, _, _, _, [], _, [], hW', trodAll_mk1 (shut_bool Try.underlying4 _), (trodAll_cons_mk (shut_walk a0 w0) (trodAll_cons_mk (shut_int Try.underlying3 w1) (trodAll_cons_mk (shut_int Try.underlying3 w2) (trodAll_cons_mk (shut_int Try.underlying3 w3) (trodAll_cons_mk (Below.trod laidOut (by kernel_rfl) (of_decide_eq_true (by kernel_rfl)) k4 bel lt4) trodAll_mk0))))), rfl, bel.frame _, fun h => by cases h⟩

theorem over : Rows.walkRawRow.holds Try.pinned (OpenSpec.ofChange Rows.walkRawSpec) :=
  OpenClaim.holds_of_wide 3 Try.f3 rfl rfl rfl rfl rfl rfl rfl ⟨rfl, rfl, rfl, rfl, rfl⟩ rfl rfl rfl rfl rfl (by kernel_rfl) Try.func3 (by kernel_rfl)
    (of_decide_eq_true (by kernel_rfl)) (by unfold Func.isWrapper; first | (rw [if_pos (by decide +kernel)]; kernel_rfl) | (rw [if_neg (by decide +kernel)]; exact ⟨rfl, rfl⟩))
    (fun os started H enc _ => lifted os started H enc)

/-- The statement. -/
theorem proved : Rows.WalkRawSaid := over
#print axioms proved
end walkRaw
end Go.Proofs.Ytkecnihgjepfeaa
