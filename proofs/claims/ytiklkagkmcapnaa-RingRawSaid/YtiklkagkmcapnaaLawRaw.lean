/- What is proved here: shardqueuelaw04.RingRaw returns true for every input and leaves its arguments as they were. No condition. -/
import Derived.Test.YtiklkagkmcapnaaJ25
import Derived.Test.YtiklkagkmcapnaaJ22
import Derived.ProofKit
import Derived.OpenShut
import Derived.ShutString
import Derived.ChangeOld
namespace Go.Proofs.Ytiklkagkmcapnaa
open Go.RowKit
set_option linter.unusedVariables false

theorem aw_len {n : Nat} (h : ¬ (20 : Int) < (n : Int)) : n ≤ 20 := by omega
set_option maxHeartbeats 16000000 in
set_option maxRecDepth 20000 in
theorem RingRaw_walk (w : World) (A : Option Addr) (n c : Nat) (hd sz : Int) (cs : List Msg) (hv : Ls w w.heap.size (.slice A n c) cs) (M : Msg) (hM : M.wf) (id : Int) (hid : (Lit.int .i64 id).wf = true) (k : Int) (hk : (Lit.int .i64 k).wf = true)
    (A0 : Option Addr) (n0 c0 : Nat) (l : List Msg) (hv0 : Ls w w.heap.size (.slice A0 n0 c0) l) (cp : Int) (hcp : (Lit.int .i64 cp).wf = true) :
    Calls Try.prog 3 #[.agg #[.slice A n c, .int .i64 hd, .int .i64 sz], M.v, .int .i64 id, .int .i64 k, .slice A0 n0 c0, .int .i64 cp] w fun e w' => e = .returned (.bool true) ∧ Below w.heap.size w w' := by
  have HV := Lib.hid hv
  have HV0 := Lib.hid hv0
  have HN := Lib.hid (fun w => gnew_any cp w)
  have HRN := Lib.hid (fun w => rnew4_any cp w)
  have HAG := Lib.hid (fun W (h : Ls W W.heap.size (.slice A n c) cs) (h0 : Ls W W.heap.size (.slice A0 n0 c0) l) => agrees_any A n c cs hd sz M id k A0 n0 c0 l W h h0)
  clear hv hv0 hM hid hk hcp
  generalize nwC cp = d at *
  generalize nwE cp = x at *
  by_cases h1 : (20 : Int) < (n : Int)
  · go_enter Try.func3, Try.ntmps3
    have HB := Lib.hid (RmAt.start w A n c hd sz M 24 26).rg.bel
    go_wp2
    go_ret
    exact ⟨rfl, HB.out⟩
  · by_cases h2 : (20 : Int) < (n0 : Int)
    · go_enter Try.func3, Try.ntmps3
      have HB := Lib.hid (RmAt.start w A n c hd sz M 24 26).rg.bel
      go_wp2
      go_ret
      exact ⟨rfl, HB.out⟩
    · have h1' := aw_len h1
      have h2' := aw_len h2
      go_enter Try.func3, Try.ntmps3
      go_wp2_with fail
      have HS := Lib.hid (RmAt.start w A n c hd sz M 24 26)
      obtain ⟨p, hp⟩ : ∃ p, p = w.heap.size := ⟨_, rfl⟩
      obtain ⟨q, hq⟩ : ∃ q, q = w.heap.size + 1 := ⟨_, rfl⟩
      rw [← hq, ← hp] at HS ⊢
      clear hp hq
      refine (HN.out _).mono ?_
      rintro e w1 ⟨A1, c1, rfl, hnw1, hl1, hb1⟩
      have HS1 := Lib.hid ((HS.out.below hb1).alloc (.cells #[.slice A1 d.length c1, .int .i64 0, .int .i64 0] 24))
      have HA1 := Lib.hid (RB.fresh w1 A1 d.length c1 0 0 24)
      have HL1 := Lib.hid ((hl1.alloc (Nat.le_refl _) (.cells #[.slice A1 d.length c1, .int .i64 0, .int .i64 0] 24)).more (show w1.heap.size ≤ (w1.alloc (.cells #[.slice A1 d.length c1, .int .i64 0, .int .i64 0] 24)).heap.size by simp))
      clear hnw1 hl1 hb1
      go_wp2_with fail
      refine (HRN.out _).mono ?_
      rintro e w2 ⟨A2, c2, rfl, hnw2, hl2, hb2⟩
      have HS2 := Lib.hid ((HS1.out.below hb2).alloc (.cells #[.slice A2 d.length c2, .int .i64 0, .int .i64 0] 24))
      have HL1' := Lib.hid ((HL1.out.up hb2).alloc (Nat.le_refl _) (.cells #[.slice A2 d.length c2, .int .i64 0, .int .i64 0] 24))
      have HL2 := Lib.hid (hl2.alloc (Nat.le_refl _) (.cells #[.slice A2 d.length c2, .int .i64 0, .int .i64 0] 24))
      obtain ⟨s0, s1, s2, s3, s4, s5, sl⟩ := (HA1.out.below hb2 HA1.out.lt).facts
      clear hnw2 hl2 hb2
      go_wp2_with fail
      refine (gsame_yes _ _ _ _ _ _ _ _ _ _ _ _ (by simp) (by simp) HL1'.out HL2.out).mono ?_
      rintro e w3 ⟨rfl, hb3⟩
      have HS3 := Lib.hid (HS2.out.below hb3)
      clear hb3 s0 s1 s2 s3 s4 s5 sl HS1 HS2 HL1 HL1' HL2 HA1
      obtain ⟨⟨r0, r1, r2, hpl⟩, ⟨m0, m1, m2, m3, m4, m5, m6⟩, hql⟩ := HS3.out.facts
      go_wp2_with fail
      refine (HAG.out _ (HV.out.up HS3.out.rg.bel) (HV0.out.up HS3.out.rg.bel)).mono ?_
      rintro e w4 ⟨rfl, hb⟩
      have HB4 := Lib.hid (btr HS3.out.rg.bel hb)
      clear hb r0 r1 r2 hpl m0 m1 m2 m3 m4 m5 m6 hql
      go_wp2_with fail
      refine (awake4_any _).mono ?_
      rintro e w5 ⟨rfl, hb⟩
      have HB5 := Lib.hid (btr HB4.out hb)
      clear hb
      go_wp2
      go_ret
      exact ⟨rfl, HB5.out⟩
/-! The row's step, as the guide's shell has it. -/
namespace ringRaw
open Go.ChangeShapes Go.WideShapes Go.ChangeAt
open Go.ChangeMaps (open_string shut_string)
theorem own : ownKnob Try.prog.godebug = none := by kernel_rfl
theorem laidOut : laidOutB Try.prog = true := by kernel_rfl

set_option maxRecDepth 100000 in
theorem lifted (os : Os) (started : os.Started) (H : Type) (enc : TypeId × Value → H) :
    ReturnsInHanded {} Try.checked os 3 .any (Rows.ringRawSpec.pre6 enc Try.prog Try.f3 Rows.ringRawRow.domain false) (Rows.ringRawSpec.post enc Try.prog Try.f3 false true false false) := by
  refine returnsInHanded_of_change (C := Try.checked) own started (by kernel_rfl) Try.func3
    (ChangeSpec.witness6 (enc := enc) (C := Try.checked) false ⟨#[], #[.agg #[.slice none 0 0, .int .i64 0, .int .i64 0], .agg #[.int .i64 0, .int .i64 0, .int .i64 0, .int .i64 0, .int .i64 0, .int .i64 0, .string ByteArray.empty], .int .i64 0, .int .i64 0, .slice none 0 0, .int .i64 0], []⟩ 8 (by kernel_rfl) (by kernel_rfl) (by kernel_rfl) (by kernel_rfl)) ?_
  intro W base args ds gs before hval0 hW hcnd _
  have hval : ∀ (j : Nat) t v, Try.f3.params[j]? = some t → args[j]? = some v → Value.okWide Try.prog W .any base t v := hval0
  have hW' := hW
  obtain ⟨p, q, hA0, hV, rfl, hfz, hnd⟩ := hW
  have hA : DataW.TrodAll enc Try.prog W 0 (fun _ => true) true Try.f3.params.toList args.toList ds p := hA0
  rw [Try.params3] at hA hval
  obtain ⟨v0, vs0, d0, ds0, p0, q0, hargs, rfl, rfl, h0, r0⟩ := trodAll_cons hA
  obtain ⟨v1, vs1, d1, ds1, p1, q1, rfl, rfl, rfl, h1, r1⟩ := trodAll_cons r0
  obtain ⟨v2, vs2, d2, ds2, p2, q2, rfl, rfl, rfl, h2, r2⟩ := trodAll_cons r1
  obtain ⟨v3, vs3, d3, ds3, p3, q3, rfl, rfl, rfl, h3, r3⟩ := trodAll_cons r2
  obtain ⟨v4, vs4, d4, ds4, p4, q4, rfl, rfl, rfl, h4, r4⟩ := trodAll_cons r3
  obtain ⟨v5, vs5, d5, ds5, p5, q5, rfl, rfl, rfl, h5, r5⟩ := trodAll_cons r4
  obtain ⟨rfl, rfl, rfl⟩ := trodAll_nil r5
  obtain rfl : args = #[v0, v1, v2, v3, v4, v5] := by cases args; simp_all
  obtain ⟨rfl, rfl⟩ := trodVars_none hV
  have k0 := h0
  have lt0 : ∀ x ∈ p0, x.block < W.heap.size := by obtain ⟨m, hm⟩ := k0; exact DataW.trod_lt m _ _ _ hm
  obtain ⟨a0, len0, cap0, hd0, sz0, z0, rfl, w0⟩ := open_ring (hval 0 24 v0 rfl rfl) h0
  obtain ⟨a1, rfl, rfl, rfl, w1⟩ := open_msg (hval 1 26 v1 rfl rfl) h1
  obtain ⟨a2, rfl, rfl, rfl, w2⟩ := open_int Try.underlying3 (hval 2 3 v2 rfl rfl) h2
  obtain ⟨a3, rfl, rfl, rfl, w3⟩ := open_int Try.underlying3 (hval 3 3 v3 rfl rfl) h3
  obtain ⟨a4, len4, cap4, rfl⟩ := okWide_slice Try.underlying22 (hval 4 22 v4 rfl rfl)
  have k4 := h4
  have lt4 : ∀ x ∈ p4, x.block < W.heap.size := by obtain ⟨m, hm⟩ := k4; exact DataW.trod_lt m _ _ _ hm
  obtain ⟨z4, w4⟩ : ∃ zs, Ls W W.heap.size (.slice a4 len4 cap4) zs := by
    obtain ⟨fuel, hf⟩ := h4
    obtain ⟨A, n, c, l, hcs, hl⟩ := open_msgs hf
    simp [Value.cells] at hcs
    obtain ⟨rfl, rfl, rfl⟩ := hcs
    exact ⟨l, hl⟩
  obtain ⟨a5, rfl, rfl, rfl, w5⟩ := open_int Try.underlying3 (hval 5 3 v5 rfl rfl) h5
  clear hA0 hval0
  refine (RingRaw_walk W a0 len0 cap0 hd0 sz0 z0 w0 a1 w1 a2 w2 a3 w3 a4 len4 cap4 z4 w4 a5 w5).mono fun e W' ⟨he, bel⟩ => ?_
  subst he
  exact ⟨_, rfl, _, _, _, [], _, [], hW', trodAll_mk1 (shut_bool Try.underlying4 _), (trodAll_cons_mk (Below.trod laidOut (by kernel_rfl) (of_decide_eq_true (by kernel_rfl)) k0 bel lt0) (trodAll_cons_mk (shut_msg a1 w1) (trodAll_cons_mk (shut_int Try.underlying3 w2) (trodAll_cons_mk (shut_int Try.underlying3 w3) (trodAll_cons_mk (Below.trod laidOut (by kernel_rfl) (of_decide_eq_true (by kernel_rfl)) k4 bel lt4) (trodAll_cons_mk (shut_int Try.underlying3 w5) trodAll_mk0)))))), rfl, bel.frame _, fun h => by cases h⟩

theorem over : Rows.ringRawRow.holds Try.pinned (OpenSpec.ofChange Rows.ringRawSpec) :=
  OpenClaim.holds_of_wide 3 Try.f3 rfl rfl rfl rfl rfl rfl rfl ⟨rfl, rfl, rfl, rfl, rfl⟩ rfl rfl rfl rfl rfl (by kernel_rfl) Try.func3 (by kernel_rfl)
    (of_decide_eq_true (by kernel_rfl)) (by unfold Func.isWrapper; first | (rw [if_pos (by decide +kernel)]; kernel_rfl) | (rw [if_neg (by decide +kernel)]; exact ⟨rfl, rfl⟩))
    (fun os started H enc _ => lifted os started H enc)

/-- The statement. -/
theorem proved : Rows.RingRawSaid := over
#print axioms proved
end ringRaw
end Go.Proofs.Ytiklkagkmcapnaa
