/- What is proved here: shardqueuelaw03.MessageValidates returns true for every input and leaves its arguments as they were. No condition. -/
import Derived.Test.YtjiampelmiaflaaAwm
import Derived.Test.YtjiampelmiaflaaSmk
import Derived.Test.YtjiampelmiaflaaOpn
import Derived.Test.YtjiampelmiaflaaEqm
import Derived.Test.YtjiampelmiaflaaMed
import Derived.Test.YtjiampelmiaflaaMdd
import Derived.ProofKit
import Derived.OpenShut
import Derived.ShutString
import Derived.ChangeOld
namespace Go.Proofs.Ytjiampelmiaflaa
open Go.RowKit
set_option linter.unusedVariables false

/-- Three messages that lie in blocks. -/
abbrev S3 (w : World) (g : Nat) (M : Msg) (p q : Nat) (X : Msg) (W : World) : Prop := W.cell? ⟨g, 0, none⟩ = some (.int .i64 M.id) ∧ W.cell? ⟨g, 1, none⟩ = some (.int .i64 M.rt) ∧ W.cell? ⟨g, 2, none⟩ = some (.int .i64 M.ep) ∧ W.cell? ⟨g, 3, none⟩ = some (.int .i64 M.ct) ∧ W.cell? ⟨g, 4, none⟩ = some (.int .i64 M.gn) ∧ W.cell? ⟨g, 5, none⟩ = some (.int .i64 M.st) ∧ W.cell? ⟨g, 6, none⟩ = some (.string M.bd) ∧ W.cell? ⟨p, 0, none⟩ = some (.int .i64 X.id) ∧ W.cell? ⟨p, 1, none⟩ = some (.int .i64 X.rt) ∧ W.cell? ⟨p, 2, none⟩ = some (.int .i64 X.ep) ∧ W.cell? ⟨p, 3, none⟩ = some (.int .i64 X.ct) ∧ W.cell? ⟨p, 4, none⟩ = some (.int .i64 X.gn) ∧ W.cell? ⟨p, 5, none⟩ = some (.int .i64 X.st) ∧ W.cell? ⟨p, 6, none⟩ = some (.string X.bd) ∧ W.cell? ⟨q, 0, none⟩ = some (.int .i64 X.id) ∧ W.cell? ⟨q, 1, none⟩ = some (.int .i64 X.rt) ∧ W.cell? ⟨q, 2, none⟩ = some (.int .i64 X.ep) ∧ W.cell? ⟨q, 3, none⟩ = some (.int .i64 X.ct) ∧ W.cell? ⟨q, 4, none⟩ = some (.int .i64 X.gn) ∧ W.cell? ⟨q, 5, none⟩ = some (.int .i64 X.st) ∧ W.cell? ⟨q, 6, none⟩ = some (.string X.bd) ∧ Hid (MAt W g M.nth M.bd ∧ MAt W p X.nth X.bd ∧ MAt W q X.nth X.bd ∧ Below w.heap.size w W)
section
variable {w W W' : World} {g p q : Nat} {M X : Msg}
theorem s3_mk (h : MAt W g M.nth M.bd) (h' : MAt W p X.nth X.bd) (h'' : MAt W q X.nth X.bd) (hb : Below w.heap.size w W) : S3 w g M p q X W := by
  obtain ⟨⟨a0, a1, a2, a3, a4, a5, a6⟩, _⟩ := h.facts
  obtain ⟨⟨b0, b1, b2, b3, b4, b5, b6⟩, _⟩ := h'.facts
  obtain ⟨⟨c0, c1, c2, c3, c4, c5, c6⟩, _⟩ := h''.facts
  exact ⟨a0, a1, a2, a3, a4, a5, a6, b0, b1, b2, b3, b4, b5, b6, c0, c1, c2, c3, c4, c5, c6, Lib.hid ⟨h, h', h'', hb⟩⟩
theorem s3_hid (h : S3 w g M p q X W) : MAt W g M.nth M.bd ∧ MAt W p X.nth X.bd ∧ MAt W q X.nth X.bd ∧ Below w.heap.size w W := h.2.2.2.2.2.2.2.2.2.2.2.2.2.2.2.2.2.2.2.2.2.out
theorem s3_keep (h : S3 w g M p q X W) (hb : Below W.heap.size W W') : S3 w g M p q X W' := by
  obtain ⟨h1, h2, h3, h4⟩ := s3_hid h
  exact s3_mk (h1.below hb h1.1) (h2.below hb h2.1) (h3.below hb h3.1) (h4.trans (hb.mono h4.size))
theorem s3_drew (h : S3 w g M p q X W) : S3 w g M p q X W.drew := s3_keep h ((Below.refl _ _).drew)
theorem s3_bel (h : S3 w g M p q X W) : Below w.heap.size w W := (s3_hid h).2.2.2
end

attribute [local go_sem ↓] Go.wp_at_zero Go.wp_at_succ
set_option maxHeartbeats 16000000 in
theorem MessageValidates_walk (w : World) (M : Msg) (hM : M.wf) (i : Int) (hi : (Lit.int .i64 i).wf = true) (r : Int) (hr : (Lit.int .i64 r).wf = true) (e : Int) (he : (Lit.int .i64 e).wf = true) (n : Int) (hn : (Lit.int .i64 n).wf = true) (b : ByteArray) (hb : b.size ≤ maxLen) :
    Calls Try.prog 3 #[M.v, .int .i64 i, .int .i64 r, .int .i64 e, .int .i64 n, .string b] w fun e w' => e = .returned (.bool true) ∧ Below w.heap.size w w' := by
  have HB0 := Lib.hid ((Below.refl w.heap.size w).alloc (Nat.le_refl _) (.cells M.cs 23))
  clear hM hi hr he hn hb
  by_cases l1 : (100 : Int) < (M.bd.size : Int)
  · go_enter Try.func3, Try.ntmps3
    go_wp2
    go_ret
    exact ⟨rfl, HB0.out⟩
  by_cases l2 : (100 : Int) < (b.size : Int)
  · go_enter Try.func3, Try.ntmps3
    go_wp2
    go_ret
    exact ⟨rfl, HB0.out⟩
  have HG := Lib.hid (MAt.fresh (f := M.nth) w M.id M.rt M.ep M.ct M.gn M.st M.bd 23 rfl rfl rfl rfl rfl rfl)
  have HN := Lib.hid (fun w => new_any i r e n b w)
  have HR := Lib.hid (fun w => rnew_any i r e n b w)
  generalize ckM ⟨i, r, e, 0, 0, n, b⟩ = X at *
  generalize vf ⟨i, r, e, 0, 0, n, b⟩ = k at *
  have HV := Lib.hid (fun w => validate_any M w)
  have HW := Lib.hid (fun w => rvalidate_any M w)
  generalize vf M = k' at *
  have heq := eqm X
  obtain ⟨g, hg⟩ : ∃ g, g = w.heap.size := ⟨_, rfl⟩
  rw [← hg] at HG
  have HGG := Lib.hid hg
  clear hg
  go_enter Try.func3, Try.ntmps3
  go_wp2_with fail
  refine (HN.out _).mono ?_
  rintro e1 w1 ⟨rfl, hw1⟩
  have HW1 := Lib.hid (HB0.out.trans (hw1.mono HB0.out.size))
  have HG1 := Lib.hid ((HG.out.below hw1 HG.out.1).alloc (.cells X.cs 23))
  have HP1 := Lib.hid (MAt.fresh (f := X.nth) w1 X.id X.rt X.ep X.ct X.gn X.st X.bd 23 rfl rfl rfl rfl rfl rfl)
  have HW2 := Lib.hid (HW1.out.alloc HW1.out.size (.cells X.cs 23))
  obtain ⟨p, hp⟩ : ∃ p, p = w1.heap.size := ⟨_, rfl⟩
  rw [← hp] at HP1
  have HPP := Lib.hid hp
  clear hw1 hp
  go_wp2_with fail
  rw [← HPP.out]
  refine (HR.out _).mono ?_
  rintro e1 w2 ⟨rfl, hw2⟩
  have HW3 := Lib.hid (HW2.out.trans (hw2.mono HW2.out.size))
  have HG3 := Lib.hid ((HG1.out.below hw2 HG1.out.1).alloc (.cells X.cs 23))
  have HP3 := Lib.hid ((HP1.out.below hw2 HP1.out.1).alloc (.cells X.cs 23))
  have HQ3 := Lib.hid (MAt.fresh (f := X.nth) w2 X.id X.rt X.ep X.ct X.gn X.st X.bd 23 rfl rfl rfl rfl rfl rfl)
  have HW4 := Lib.hid (HW3.out.alloc HW3.out.size (.cells X.cs 23))
  obtain ⟨q, hq⟩ : ∃ q, q = w2.heap.size := ⟨_, rfl⟩
  rw [← hq] at HQ3
  have HQQ := Lib.hid hq
  have HS := Lib.hid (s3_mk HG3.out HP3.out HQ3.out HW4.out)
  clear hw2 hq
  go_wp2
  rw [← HQQ.out, ← HGG.out]
  generalize w2.alloc (.cells #[.int .i64 X.id, .int .i64 X.rt, .int .i64 X.ep, .int .i64 X.ct, .int .i64 X.gn, .int .i64 X.st, .string X.bd] 23) = W at *
  go_region_held3 (fun W' => W'.cell? ⟨g, 0, none⟩ = some (.int .i64 M.id) ∧ W'.cell? ⟨g, 1, none⟩ = some (.int .i64 M.rt) ∧ W'.cell? ⟨g, 2, none⟩ = some (.int .i64 M.ep) ∧ W'.cell? ⟨g, 3, none⟩ = some (.int .i64 M.ct) ∧ W'.cell? ⟨g, 4, none⟩ = some (.int .i64 M.gn) ∧ W'.cell? ⟨g, 5, none⟩ = some (.int .i64 M.st) ∧ W'.cell? ⟨g, 6, none⟩ = some (.string M.bd) ∧ W'.cell? ⟨p, 0, none⟩ = some (.int .i64 X.id) ∧ W'.cell? ⟨p, 1, none⟩ = some (.int .i64 X.rt) ∧ W'.cell? ⟨p, 2, none⟩ = some (.int .i64 X.ep) ∧ W'.cell? ⟨p, 3, none⟩ = some (.int .i64 X.ct) ∧ W'.cell? ⟨p, 4, none⟩ = some (.int .i64 X.gn) ∧ W'.cell? ⟨p, 5, none⟩ = some (.int .i64 X.st) ∧ W'.cell? ⟨p, 6, none⟩ = some (.string X.bd) ∧ W'.cell? ⟨q, 0, none⟩ = some (.int .i64 X.id) ∧ W'.cell? ⟨q, 1, none⟩ = some (.int .i64 X.rt) ∧ W'.cell? ⟨q, 2, none⟩ = some (.int .i64 X.ep) ∧ W'.cell? ⟨q, 3, none⟩ = some (.int .i64 X.ct) ∧ W'.cell? ⟨q, 4, none⟩ = some (.int .i64 X.gn) ∧ W'.cell? ⟨q, 5, none⟩ = some (.int .i64 X.st) ∧ W'.cell? ⟨q, 6, none⟩ = some (.string X.bd) ∧ Hid (MAt W' g M.nth M.bd ∧ MAt W' p X.nth X.bd ∧ MAt W' q X.nth X.bd ∧ Below w.heap.size w W'))
    ((first | exact HS.out | (refine s3_keep (w := w) (g := g) (M := M) (p := p) (q := q) (X := X) ?_ hb; assumption) | (refine s3_drew (w := w) (g := g) (M := M) (p := p) (q := q) (X := X) ?_; assumption)))
    (first
      | (go_at_call 10; refine (HV.out _).mono ?_; rintro e1 w5 ⟨rfl, hb⟩)
      | (go_at_call 11; refine (HW.out _).mono ?_; rintro e1 w5 ⟨rfl, hb⟩)
      | (go_at_call 12; refine (awake3_any _).mono ?_; rintro e1 w5 ⟨rfl, hb⟩))
  go_wp2
  go_ret
  refine ⟨?_, ?_⟩
  · rfl
  · exact s3_bel (g := g) (M := M) (p := p) (q := q) (X := X) (by assumption)

/-! The row's step, as the guide's shell has it. -/
namespace messageValidates
open Go.ChangeShapes Go.WideShapes Go.ChangeAt
open Go.ChangeMaps (open_string shut_string)
theorem own : ownKnob Try.prog.godebug = none := by kernel_rfl
theorem laidOut : laidOutB Try.prog = true := by kernel_rfl

set_option maxRecDepth 100000 in
theorem lifted (os : Os) (started : os.Started) (H : Type) (enc : TypeId × Value → H) :
    ReturnsInHanded {} Try.checked os 3 .any (Rows.messageValidatesSpec.pre6 enc Try.prog Try.f3 Rows.messageValidatesRow.domain false) (Rows.messageValidatesSpec.post enc Try.prog Try.f3 false true false false) := by
  refine returnsInHanded_of_change (C := Try.checked) own started (by kernel_rfl) Try.func3
    (ChangeSpec.witness6 (enc := enc) (C := Try.checked) false ⟨#[], #[.agg #[.int .i64 0, .int .i64 0, .int .i64 0, .int .i64 0, .int .i64 0, .int .i64 0, .string ByteArray.empty], .int .i64 0, .int .i64 0, .int .i64 0, .int .i64 0, .string ByteArray.empty], []⟩ 8 (by kernel_rfl) (by kernel_rfl) (by kernel_rfl) (by kernel_rfl)) ?_
  intro W base args ds gs before hval0 hW hcnd _
  have hval : ∀ (j : Nat) t v, Try.f3.params[j]? = some t → args[j]? = some v → Value.okWide Try.prog W .any base t v := hval0
  have hW' := hW
  obtain ⟨p, q, hA0, hV, rfl, hfz, hnd⟩ := hW
  have hA : DataW.TrodAll enc Try.prog W 0 (fun _ => true) true Try.f3.params.toList args.toList ds p := hA0
  rw [Try.params3] at hA hval
  obtain ⟨v0, vs0, d0, ds0, p0, q0, hargs, rfl, rfl, h0, r0⟩ := trodAll_cons hA
  obtain ⟨v1, vs1, d1, ds1, p1, q1, rfl, rfl, rfl, h1, r1⟩ := trodAll_cons r0
  obtain ⟨v2, vs2, d2, ds2, p2, q2, rfl, rfl, rfl, h2, r2⟩ := trodAll_cons r1
  obtain ⟨v3, vs3, d3, ds3, p3, q3, rfl, rfl, rfl, h3, r3⟩ := trodAll_cons r2
  obtain ⟨v4, vs4, d4, ds4, p4, q4, rfl, rfl, rfl, h4, r4⟩ := trodAll_cons r3
  obtain ⟨v5, vs5, d5, ds5, p5, q5, rfl, rfl, rfl, h5, r5⟩ := trodAll_cons r4
  obtain ⟨rfl, rfl, rfl⟩ := trodAll_nil r5
  obtain rfl : args = #[v0, v1, v2, v3, v4, v5] := by cases args; simp_all
  obtain ⟨rfl, rfl⟩ := trodVars_none hV
  obtain ⟨a0, rfl, rfl, rfl, w0⟩ := open_msg (hval 0 23 v0 rfl rfl) h0
  obtain ⟨a1, rfl, rfl, rfl, w1⟩ := open_int Try.underlying3 (hval 1 3 v1 rfl rfl) h1
  obtain ⟨a2, rfl, rfl, rfl, w2⟩ := open_int Try.underlying3 (hval 2 3 v2 rfl rfl) h2
  obtain ⟨a3, rfl, rfl, rfl, w3⟩ := open_int Try.underlying3 (hval 3 3 v3 rfl rfl) h3
  obtain ⟨a4, rfl, rfl, rfl, w4⟩ := open_int Try.underlying3 (hval 4 3 v4 rfl rfl) h4
  obtain ⟨a5, rfl, rfl, rfl, w5⟩ := open_string Try.underlying9 (hval 5 9 v5 rfl rfl) h5
  clear hA0 hval0
  simp only [List.append_nil] at hW'
  refine (MessageValidates_walk W a0 w0 a1 w1 a2 w2 a3 w3 a4 w4 a5 w5).mono fun e W' ⟨he, bel⟩ => ?_
  subst he
  exact ⟨_, rfl, _, _, _, [], _, [], hW', trodAll_mk1 (shut_bool Try.underlying4 _), (trodAll_cons_mk (shut_msg a0 w0) (trodAll_cons_mk (shut_int Try.underlying3 w1) (trodAll_cons_mk (shut_int Try.underlying3 w2) (trodAll_cons_mk (shut_int Try.underlying3 w3) (trodAll_cons_mk (shut_int Try.underlying3 w4) (trodAll_cons_mk (shut_string Try.underlying9 w5) trodAll_mk0)))))), rfl, bel.frame _, fun h => by cases h⟩

theorem over : Rows.messageValidatesRow.holds Try.pinned (OpenSpec.ofChange Rows.messageValidatesSpec) :=
  OpenClaim.holds_of_wide 3 Try.f3 rfl rfl rfl rfl rfl rfl rfl ⟨rfl, rfl, rfl, rfl, rfl⟩ rfl rfl rfl rfl rfl (by kernel_rfl) Try.func3 (by kernel_rfl)
    (of_decide_eq_true (by kernel_rfl)) (by unfold Func.isWrapper; first | (rw [if_pos (by decide +kernel)]; kernel_rfl) | (rw [if_neg (by decide +kernel)]; exact ⟨rfl, rfl⟩))
    (fun os started H enc _ => lifted os started H enc)

/-- The statement. -/
theorem proved : Rows.MessageValidatesSaid := over
#print axioms proved
end messageValidates
end Go.Proofs.Ytjiampelmiaflaa
