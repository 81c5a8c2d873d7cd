/- What is proved here: shardqueuelaw03.MessageStates returns true for every input and leaves its arguments as they were. No condition. -/
import Derived.Test.YtjiampelmiaflaaAwm
import Derived.Test.YtjiampelmiaflaaSmk
import Derived.Test.YtjiampelmiaflaaOpn
import Derived.ProofKit
import Derived.OpenShut
import Derived.ShutString
import Derived.ChangeOld
namespace Go.Proofs.Ytjiampelmiaflaa
open Go.RowKit
set_option linter.unusedVariables false

attribute [local go_sem ↓] Go.wp_at_zero Go.wp_at_succ
set_option maxHeartbeats 8000000 in
theorem MessageStates_walk (w : World) (M : Msg) (hM : M.wf) (k : Int) (hk : (Lit.int .i64 k).wf = true) (l : Int) (hl : (Lit.int .i64 l).wf = true) :
    Calls Try.prog 4 #[M.v, .int .i64 k, .int .i64 l] w fun e w' => e = .returned (.bool true) ∧ Below w.heap.size w w' := by
  have h1 : puF M M.ep = false := decide_eq_false (by omega)
  have h2 : spF M M.ct = true := decide_eq_true (Int.le_refl _)
  clear hM hk hl
  have HS := Lib.hid (sm_fresh M w 23)
  go_enter Try.func4, Try.ntmps4
  go_wp2
  generalize w.alloc (.cells #[.int .i64 M.id, .int .i64 M.rt, .int .i64 M.ep, .int .i64 M.ct, .int .i64 M.gn, .int .i64 M.st, .string M.bd] 23) = W at *
  go_region_held3 (fun W' => W'.cell? ⟨w.heap.size, 0, none⟩ = some (.int .i64 M.id) ∧ W'.cell? ⟨w.heap.size, 1, none⟩ = some (.int .i64 M.rt) ∧ W'.cell? ⟨w.heap.size, 2, none⟩ = some (.int .i64 M.ep) ∧ W'.cell? ⟨w.heap.size, 3, none⟩ = some (.int .i64 M.ct) ∧ W'.cell? ⟨w.heap.size, 4, none⟩ = some (.int .i64 M.gn) ∧ W'.cell? ⟨w.heap.size, 5, none⟩ = some (.int .i64 M.st) ∧ W'.cell? ⟨w.heap.size, 6, none⟩ = some (.string M.bd) ∧ Hid (w.heap.size < W'.heap.size ∧ Below w.heap.size w W'))
    ((first | exact HS.out | (refine sm_keep (w := w) (g := w.heap.size) (M := M) ?_ hb; assumption) | (refine sm_drew (w := w) (g := w.heap.size) (M := M) ?_; assumption)))
    (first
      | (go_at_call 13; refine (purged_any M _ _).mono ?_; rintro e w1 ⟨rfl, hb⟩)
      | (go_at_call 14; refine (rpurged_any M _ _).mono ?_; rintro e w1 ⟨rfl, hb⟩)
      | (go_at_call 15; refine (spent_any M _ _).mono ?_; rintro e w1 ⟨rfl, hb⟩)
      | (go_at_call 16; refine (rspent_any M _ _).mono ?_; rintro e w1 ⟨rfl, hb⟩)
      | (go_at_call 17; refine (receivable_any M _ _ _).mono ?_; rintro e w1 ⟨rfl, hb⟩)
      | (go_at_call 18; refine (rreceivable_any M _ _ _).mono ?_; rintro e w1 ⟨rfl, hb⟩)
      | (go_at_call 12; refine (awake3_any _).mono ?_; rintro e w1 ⟨rfl, hb⟩))
  go_wp2
  go_ret
  refine ⟨?_, ?_⟩
  · rfl
  · exact sm_bel (g := w.heap.size) (M := M) (by assumption)

/-! The row's step, as the guide's shell has it. -/
namespace messageStates
open Go.ChangeShapes Go.WideShapes Go.ChangeAt
open Go.ChangeMaps (open_string shut_string)
theorem own : ownKnob Try.prog.godebug = none := by kernel_rfl
theorem laidOut : laidOutB Try.prog = true := by kernel_rfl

set_option maxRecDepth 100000 in
theorem lifted (os : Os) (started : os.Started) (H : Type) (enc : TypeId × Value → H) :
    ReturnsInHanded {} Try.checked os 4 .any (Rows.messageStatesSpec.pre6 enc Try.prog Try.f4 Rows.messageStatesRow.domain false) (Rows.messageStatesSpec.post enc Try.prog Try.f4 false true false false) := by
  refine returnsInHanded_of_change (C := Try.checked) own started (by kernel_rfl) Try.func4
    (ChangeSpec.witness6 (enc := enc) (C := Try.checked) false ⟨#[], #[.agg #[.int .i64 0, .int .i64 0, .int .i64 0, .int .i64 0, .int .i64 0, .int .i64 0, .string ByteArray.empty], .int .i64 0, .int .i64 0], []⟩ 8 (by kernel_rfl) (by kernel_rfl) (by kernel_rfl) (by kernel_rfl)) ?_
  intro W base args ds gs before hval0 hW hcnd _
  have hval : ∀ (j : Nat) t v, Try.f4.params[j]? = some t → args[j]? = some v → Value.okWide Try.prog W .any base t v := hval0
  have hW' := hW
  obtain ⟨p, q, hA0, hV, rfl, hfz, hnd⟩ := hW
  have hA : DataW.TrodAll enc Try.prog W 0 (fun _ => true) true Try.f4.params.toList args.toList ds p := hA0
  rw [Try.params4] at hA hval
  obtain ⟨v0, vs0, d0, ds0, p0, q0, hargs, rfl, rfl, h0, r0⟩ := trodAll_cons hA
  obtain ⟨v1, vs1, d1, ds1, p1, q1, rfl, rfl, rfl, h1, r1⟩ := trodAll_cons r0
  obtain ⟨v2, vs2, d2, ds2, p2, q2, rfl, rfl, rfl, h2, r2⟩ := trodAll_cons r1
  obtain ⟨rfl, rfl, rfl⟩ := trodAll_nil r2
  obtain rfl : args = #[v0, v1, v2] := by cases args; simp_all
  obtain ⟨rfl, rfl⟩ := trodVars_none hV
  obtain ⟨a0, rfl, rfl, rfl, w0⟩ := open_msg (hval 0 23 v0 rfl rfl) h0
  obtain ⟨a1, rfl, rfl, rfl, w1⟩ := open_int Try.underlying3 (hval 1 3 v1 rfl rfl) h1
  obtain ⟨a2, rfl, rfl, rfl, w2⟩ := open_int Try.underlying3 (hval 2 3 v2 rfl rfl) h2
  clear hA0 hval0
  simp only [List.append_nil] at hW'
  refine (MessageStates_walk W a0 w0 a1 w1 a2 w2).mono fun e W' ⟨he, bel⟩ => ?_
  subst he
  exact ⟨_, rfl, _, _, _, [], _, [], hW', trodAll_mk1 (shut_bool Try.underlying4 _), (trodAll_cons_mk (shut_msg a0 w0) (trodAll_cons_mk (shut_int Try.underlying3 w1) (trodAll_cons_mk (shut_int Try.underlying3 w2) trodAll_mk0))), rfl, bel.frame _, fun h => by cases h⟩

theorem over : Rows.messageStatesRow.holds Try.pinned (OpenSpec.ofChange Rows.messageStatesSpec) :=
  OpenClaim.holds_of_wide 4 Try.f4 rfl rfl rfl rfl rfl rfl rfl ⟨rfl, rfl, rfl, rfl, rfl⟩ rfl rfl rfl rfl rfl (by kernel_rfl) Try.func4 (by kernel_rfl)
    (of_decide_eq_true (by kernel_rfl)) (by unfold Func.isWrapper; first | (rw [if_pos (by decide +kernel)]; kernel_rfl) | (rw [if_neg (by decide +kernel)]; exact ⟨rfl, rfl⟩))
    (fun os started H enc _ => lifted os started H enc)

/-- The statement. -/
theorem proved : Rows.MessageStatesSaid := over
#print axioms proved
end messageStates
end Go.Proofs.Ytjiampelmiaflaa
