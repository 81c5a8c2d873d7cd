/- What is proved here: shardqueuelaw02.DigestInto returns true for every input: Into gives a route of the span, and again the same. No condition. -/
import Derived.Test.YtboencbblplhbaaAwd
import Derived.ProofKit
import Derived.OpenShut
import Derived.ShutString
import Derived.ChangeOld
namespace Go.Proofs.Ytboencbblplhbaa
open Go.RowKit
set_option linter.unusedVariables false

/-- What Into answers over a span of routes. -/
theorem intoF_span (r l h : Int) (r0 : 0 ≤ r) (r1 : r ≤ 65535) (l0 : 0 ≤ l) (h1 : h ≤ 65535) (lh : l ≤ h) :
    l ≤ intoF r l h ∧ intoF r l h ≤ h ∧ (l ≤ r → r ≤ h → intoF r l h = r) := by
  have hA : areB r l h = true := decide_eq_true ⟨⟨r0, r1⟩, ⟨l0, by omega⟩, ⟨by omega, h1⟩⟩
  unfold intoF
  rw [if_pos ⟨hA, lh⟩]
  have hm0 : 0 ≤ r % (h - l + 1) := Int.emod_nonneg _ (by omega)
  have hm1 : r % (h - l + 1) < h - l + 1 := Int.emod_lt_of_pos _ (by omega)
  split <;> omega

theorem intoF_twice (r l h : Int) (r0 : 0 ≤ r) (r1 : r ≤ 65535) (l0 : 0 ≤ l) (h1 : h ≤ 65535) (lh : l ≤ h) : intoF (intoF r l h) l h = intoF r l h := by
  obtain ⟨a, b, _⟩ := intoF_span r l h r0 r1 l0 h1 lh
  exact (intoF_span _ l h (by omega) (by omega) l0 h1 lh).2.2 a b

set_option maxHeartbeats 2000000 in
theorem DigestInto_walk (w : World) (a0 : Int) (w0 : (Lit.int .i64 a0).wf = true) (a1 : Int) (w1 : (Lit.int .i64 a1).wf = true) (a2 : Int) (w2 : (Lit.int .i64 a2).wf = true) :
    Calls Try.prog 5 #[.int .i64 a0, .int .i64 a1, .int .i64 a2] w fun e w' => e = .returned (.bool true) ∧ Below w.heap.size w w' := by
  have HA := Lib.hid (fun w => awake2_any w)
  obtain ⟨r, hr, r0, r1⟩ : ∃ r, bits .and .i64 a0 65535 = r ∧ 0 ≤ r ∧ r ≤ 65535 := ⟨_, and_ffff a0, by omega, by omega⟩
  obtain ⟨l, hl, l0, l1⟩ : ∃ l, bits .and .i64 a1 65535 = l ∧ 0 ≤ l ∧ l ≤ 65535 := ⟨_, and_ffff a1, by omega, by omega⟩
  obtain ⟨h, hh, h0, h1⟩ : ∃ h, bits .and .i64 a2 65535 = h ∧ 0 ≤ h ∧ h ≤ 65535 := ⟨_, and_ffff a2, by omega, by omega⟩
  clear w0 w1 w2
  by_cases hlh : h < l
  · have HI := Lib.hid (fun w => into_any r h l w)
    have HJ := Lib.hid (fun w => into_any (intoF r h l) h l w)
    rw [intoF_twice r h l r0 r1 h0 l1 (by omega)] at HJ
    obtain ⟨s0, s1, s2⟩ := intoF_span r h l r0 r1 h0 l1 (by omega)
    obtain ⟨x, hx⟩ : ∃ x, x = intoF r h l := ⟨_, rfl⟩
    rw [← hx] at HI HJ s0 s1 s2
    clear hx
    by_cases c0 : r < h
    · clear s2
      go_enter Try.func5, Try.ntmps5
      go_wp2_with fail
      refine (HI.out _).mono ?_
      rintro e w1 ⟨rfl, hb⟩
      have HB1 := Lib.hid hb
      clear hb
      go_wp2_with fail
      refine (HJ.out _).mono ?_
      rintro e w2 ⟨rfl, hb⟩
      have HB2 := Lib.hid (HB1.out.trans (hb.mono HB1.out.size))
      clear hb HB1
      go_wp2_with fail
      refine (HA.out _).mono ?_
      rintro e w3 ⟨rfl, hb⟩
      have HB3 := Lib.hid (HB2.out.trans (hb.mono HB2.out.size))
      clear hb HB2
      go_wp2
      go_ret
      exact ⟨rfl, HB3.out⟩
    by_cases c1 : l < r
    · clear s2
      go_enter Try.func5, Try.ntmps5
      go_wp2_with fail
      refine (HI.out _).mono ?_
      rintro e w1 ⟨rfl, hb⟩
      have HB1 := Lib.hid hb
      clear hb
      go_wp2_with fail
      refine (HJ.out _).mono ?_
      rintro e w2 ⟨rfl, hb⟩
      have HB2 := Lib.hid (HB1.out.trans (hb.mono HB1.out.size))
      clear hb HB1
      go_wp2_with fail
      refine (HA.out _).mono ?_
      rintro e w3 ⟨rfl, hb⟩
      have HB3 := Lib.hid (HB2.out.trans (hb.mono HB2.out.size))
      clear hb HB2
      go_wp2
      go_ret
      exact ⟨rfl, HB3.out⟩
    · obtain rfl := s2 (by omega) (by omega)
      go_enter Try.func5, Try.ntmps5
      go_wp2_with fail
      refine (HI.out _).mono ?_
      rintro e w1 ⟨rfl, hb⟩
      have HB1 := Lib.hid hb
      clear hb
      go_wp2_with fail
      refine (HJ.out _).mono ?_
      rintro e w2 ⟨rfl, hb⟩
      have HB2 := Lib.hid (HB1.out.trans (hb.mono HB1.out.size))
      clear hb HB1
      go_wp2_with fail
      refine (HA.out _).mono ?_
      rintro e w3 ⟨rfl, hb⟩
      have HB3 := Lib.hid (HB2.out.trans (hb.mono HB2.out.size))
      clear hb HB2
      go_wp2
      go_ret
      exact ⟨rfl, HB3.out⟩
  · have HI := Lib.hid (fun w => into_any r l h w)
    have HJ := Lib.hid (fun w => into_any (intoF r l h) l h w)
    rw [intoF_twice r l h r0 r1 l0 h1 (by omega)] at HJ
    obtain ⟨s0, s1, s2⟩ := intoF_span r l h r0 r1 l0 h1 (by omega)
    obtain ⟨x, hx⟩ : ∃ x, x = intoF r l h := ⟨_, rfl⟩
    rw [← hx] at HI HJ s0 s1 s2
    clear hx
    by_cases c0 : r < l
    · clear s2
      go_enter Try.func5, Try.ntmps5
      go_wp2_with fail
      refine (HI.out _).mono ?_
      rintro e w1 ⟨rfl, hb⟩
      have HB1 := Lib.hid hb
      clear hb
      go_wp2_with fail
      refine (HJ.out _).mono ?_
      rintro e w2 ⟨rfl, hb⟩
      have HB2 := Lib.hid (HB1.out.trans (hb.mono HB1.out.size))
      clear hb HB1
      go_wp2_with fail
      refine (HA.out _).mono ?_
      rintro e w3 ⟨rfl, hb⟩
      have HB3 := Lib.hid (HB2.out.trans (hb.mono HB2.out.size))
      clear hb HB2
      go_wp2
      go_ret
      exact ⟨rfl, HB3.out⟩
    by_cases c1 : h < r
    · clear s2
      go_enter Try.func5, Try.ntmps5
      go_wp2_with fail
      refine (HI.out _).mono ?_
      rintro e w1 ⟨rfl, hb⟩
      have HB1 := Lib.hid hb
      clear hb
      go_wp2_with fail
      refine (HJ.out _).mono ?_
      rintro e w2 ⟨rfl, hb⟩
      have HB2 := Lib.hid (HB1.out.trans (hb.mono HB1.out.size))
      clear hb HB1
      go_wp2_with fail
      refine (HA.out _).mono ?_
      rintro e w3 ⟨rfl, hb⟩
      have HB3 := Lib.hid (HB2.out.trans (hb.mono HB2.out.size))
      clear hb HB2
      go_wp2
      go_ret
      exact ⟨rfl, HB3.out⟩
    · obtain rfl := s2 (by omega) (by omega)
      go_enter Try.func5, Try.ntmps5
      go_wp2_with fail
      refine (HI.out _).mono ?_
      rintro e w1 ⟨rfl, hb⟩
      have HB1 := Lib.hid hb
      clear hb
      go_wp2_with fail
      refine (HJ.out _).mono ?_
      rintro e w2 ⟨rfl, hb⟩
      have HB2 := Lib.hid (HB1.out.trans (hb.mono HB1.out.size))
      clear hb HB1
      go_wp2_with fail
      refine (HA.out _).mono ?_
      rintro e w3 ⟨rfl, hb⟩
      have HB3 := Lib.hid (HB2.out.trans (hb.mono HB2.out.size))
      clear hb HB2
      go_wp2
      go_ret
      exact ⟨rfl, HB3.out⟩

/-! The row's step, as the guide's shell has it. -/
namespace digestInto
open Go.ChangeShapes Go.WideShapes Go.ChangeAt
open Go.ChangeMaps (open_string shut_string)
theorem own : ownKnob Try.prog.godebug = none := by kernel_rfl
theorem laidOut : laidOutB Try.prog = true := by kernel_rfl

set_option maxRecDepth 100000 in
theorem lifted (os : Os) (started : os.Started) (H : Type) (enc : TypeId × Value → H) :
    ReturnsInHanded {} Try.checked os 5 .any (Rows.digestIntoSpec.pre6 enc Try.prog Try.f5 Rows.digestIntoRow.domain false) (Rows.digestIntoSpec.post enc Try.prog Try.f5 false true false false) := by
  refine returnsInHanded_of_change (C := Try.checked) own started (by kernel_rfl) Try.func5
    (ChangeSpec.witness6 (enc := enc) (C := Try.checked) false ⟨#[], #[.int .i64 0, .int .i64 0, .int .i64 0], []⟩ 8 (by kernel_rfl) (by kernel_rfl) (by kernel_rfl) (by kernel_rfl)) ?_
  intro W base args ds gs before hval0 hW hcnd _
  have hval : ∀ (j : Nat) t v, Try.f5.params[j]? = some t → args[j]? = some v → Value.okWide Try.prog W .any base t v := hval0
  have hW' := hW
  obtain ⟨p, q, hA0, hV, rfl, hfz, hnd⟩ := hW
  have hA : DataW.TrodAll enc Try.prog W 0 (fun _ => true) true Try.f5.params.toList args.toList ds p := hA0
  rw [Try.params5] at hA hval
  obtain ⟨v0, vs0, d0, ds0, p0, q0, hargs, rfl, rfl, h0, r0⟩ := trodAll_cons hA
  obtain ⟨v1, vs1, d1, ds1, p1, q1, rfl, rfl, rfl, h1, r1⟩ := trodAll_cons r0
  obtain ⟨v2, vs2, d2, ds2, p2, q2, rfl, rfl, rfl, h2, r2⟩ := trodAll_cons r1
  obtain ⟨rfl, rfl, rfl⟩ := trodAll_nil r2
  obtain rfl : args = #[v0, v1, v2] := by cases args; simp_all
  obtain ⟨rfl, rfl⟩ := trodVars_none hV
  obtain ⟨a0, rfl, rfl, rfl, w0⟩ := open_int Try.underlying3 (hval 0 3 v0 rfl rfl) h0
  obtain ⟨a1, rfl, rfl, rfl, w1⟩ := open_int Try.underlying3 (hval 1 3 v1 rfl rfl) h1
  obtain ⟨a2, rfl, rfl, rfl, w2⟩ := open_int Try.underlying3 (hval 2 3 v2 rfl rfl) h2
  clear hA0 hval0
  simp only [List.append_nil] at hW'
  refine (DigestInto_walk W a0 w0 a1 w1 a2 w2).mono fun e W' ⟨he, bel⟩ => ?_
  subst he
  exact ⟨_, rfl, _, _, _, [], _, [], hW', trodAll_mk1 (shut_bool Try.underlying4 _), (trodAll_cons_mk (shut_int Try.underlying3 w0) (trodAll_cons_mk (shut_int Try.underlying3 w1) (trodAll_cons_mk (shut_int Try.underlying3 w2) trodAll_mk0))), rfl, bel.frame _, fun h => by cases h⟩

theorem over : Rows.digestIntoRow.holds Try.pinned (OpenSpec.ofChange Rows.digestIntoSpec) :=
  OpenClaim.holds_of_wide 5 Try.f5 rfl rfl rfl rfl rfl rfl rfl ⟨rfl, rfl, rfl, rfl, rfl⟩ rfl rfl rfl rfl rfl (by kernel_rfl) Try.func5 (by kernel_rfl)
    (of_decide_eq_true (by kernel_rfl)) (by unfold Func.isWrapper; first | (rw [if_pos (by decide +kernel)]; kernel_rfl) | (rw [if_neg (by decide +kernel)]; exact ⟨rfl, rfl⟩))
    (fun os started H enc _ => lifted os started H enc)

/-- The statement. -/
theorem proved : Rows.DigestIntoSaid := over
#print axioms proved
end digestInto
end Go.Proofs.Ytboencbblplhbaa
