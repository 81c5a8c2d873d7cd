/- What is proved here: shardqueuelaw06.LeaseRaw returns true for every input and leaves its arguments as they were. No condition. -/
import Derived.Test.YtjclhlejbidpgaaGreatJ31
import Derived.Test.YtjclhlejbidpgaaGreatJ32
import Derived.Test.YtjclhlejbidpgaaGreatJ33
import Derived.ProofKit
import Derived.OpenShut
import Derived.ShutString
import Derived.ChangeOld
namespace Go.Proofs.YtjclhlejbidpgaaGreat
open Go.RowKit
set_option linter.unusedVariables false

set_option maxHeartbeats 4000000 in
theorem LeaseRaw_walk (w : World) (a0 : Option Addr) (l0 c0 : Nat) (l : List Le) (a1 : Option Addr) (l1 c1 : Nat) (k : List Du) (hl : El w w.heap.size (.slice a0 l0 c0) l) (hk : Dl w w.heap.size (.slice a1 l1 c1) k) (M : Msg) (hM : M.wf) (id : Int) (wi : (Lit.int .i64 id).wf = true) (dl : Int) (wd : (Lit.int .i64 dl).wf = true) (now : Int) (wn : (Lit.int .i64 now).wf = true) (ep : Int) (we : (Lit.int .i64 ep).wf = true) :
    Calls Tryz.prog 3 #[tv a0 l0 c0 a1 l1 c1, M.v, .int .i64 id, .int .i64 dl, .int .i64 now, .int .i64 ep] w fun e w' => e = .returned (.bool true) ∧ Below w.heap.size w w' := by
  have HB := Lib.hid (((Below.refl w.heap.size w).alloc (Nat.le_refl _) (.cells #[.slice a0 l0 c0, .slice a1 l1 c1] 25)).alloc (by simp) (.cells #[.int .i64 M.id, .int .i64 M.rt, .int .i64 M.ep, .int .i64 M.ct, .int .i64 M.gn, .int .i64 M.st, .string M.bd] 27))
  have hs : w.heap.size ≤ ((w.alloc (.cells #[.slice a0 l0 c0, .slice a1 l1 c1] 25)).alloc (.cells #[.int .i64 M.id, .int .i64 M.rt, .int .i64 M.ep, .int .i64 M.ct, .int .i64 M.gn, .int .i64 M.st, .string M.bd] 27)).heap.size := by simp; omega
  have HV := Lib.hid (((hl.alloc (Nat.le_refl _) (.cells #[.slice a0 l0 c0, .slice a1 l1 c1] 25)).alloc (by simp) (.cells #[.int .i64 M.id, .int .i64 M.rt, .int .i64 M.ep, .int .i64 M.ct, .int .i64 M.gn, .int .i64 M.st, .string M.bd] 27)).more hs)
  have HK := Lib.hid (((hk.alloc (Nat.le_refl _) (.cells #[.slice a0 l0 c0, .slice a1 l1 c1] 25)).alloc (by simp) (.cells #[.int .i64 M.id, .int .i64 M.rt, .int .i64 M.ep, .int .i64 M.ct, .int .i64 M.gn, .int .i64 M.st, .string M.bd] 27)).more hs)
  have HA := Lib.hid (fun W h1 h2 => agrees6_any a0 l0 c0 l a1 l1 c1 k M id dl now ep W h1 h2)
  have hmx : (l0 : Int) ≤ 9223372036854775807 := by have := hl.len; unfold maxLen at this; omega
  have hmy : (l1 : Int) ≤ 9223372036854775807 := by have := hk.len; unfold maxLen at this; omega
  clear hl hk wi wd wn we hM hs
  by_cases h20 : (20 : Int) < (l0 : Int)
  · go_enter Tryz.func3, Tryz.ntmps3
    go_wp2
    go_ret
    exact ⟨rfl, HB.out⟩
  by_cases h21 : (20 : Int) < (l1 : Int)
  · go_enter Tryz.func3, Tryz.ntmps3
    go_wp2
    go_ret
    exact ⟨rfl, HB.out⟩
  · go_enter Tryz.func3, Tryz.ntmps3
    go_wp2_with fail
    refine (HA.out _ HV.out HK.out).mono ?_
    rintro e w1 ⟨rfl, hb⟩
    have HB1 := Lib.hid (HB.out.trans (hb.mono HB.out.size))
    clear hb
    go_wp2_with fail
    refine (awake6_any _).mono ?_
    rintro e w2 ⟨rfl, hb⟩
    have HB2 := Lib.hid (HB1.out.trans (hb.mono HB1.out.size))
    clear hb
    go_wp2
    go_ret
    exact ⟨rfl, HB2.out⟩
/-! The row's step, as the guide's shell has it. -/
namespace leaseRaw
open Go.ChangeShapes Go.WideShapes Go.ChangeAt
open Go.ChangeMaps (open_string shut_string)
theorem own : ownKnob Tryz.prog.godebug = none := by kernel_rfl
theorem laidOut : laidOutB Tryz.prog = true := by kernel_rfl

set_option maxRecDepth 100000 in
theorem lifted (os : Os) (started : os.Started) (H : Type) (enc : TypeId × Value → H) :
    ReturnsInHanded {} Tryz.checked os 3 .any (Rows.leaseRawSpec.pre6 enc Tryz.prog Tryz.f3 Rows.leaseRawRow.domain false) (Rows.leaseRawSpec.post enc Tryz.prog Tryz.f3 false true false false) := by
  refine returnsInHanded_of_change (C := Tryz.checked) own started (by kernel_rfl) Tryz.func3
    (ChangeSpec.witness6 (enc := enc) (C := Tryz.checked) false ⟨#[], #[.agg #[.slice none 0 0, .slice none 0 0], .agg #[.int .i64 0, .int .i64 0, .int .i64 0, .int .i64 0, .int .i64 0, .int .i64 0, .string ByteArray.empty], .int .i64 0, .int .i64 0, .int .i64 0, .int .i64 0], []⟩ 8 (by kernel_rfl) (by kernel_rfl) (by kernel_rfl) (by kernel_rfl)) ?_
  intro W base args ds gs before hval0 hW hcnd _
  have hval : ∀ (j : Nat) t v, Tryz.f3.params[j]? = some t → args[j]? = some v → Value.okWide Tryz.prog W .any base t v := hval0
  have hW' := hW
  obtain ⟨p, q, hA0, hV, rfl, hfz, hnd⟩ := hW
  have hA : DataW.TrodAll enc Tryz.prog W 0 (fun _ => true) true Tryz.f3.params.toList args.toList ds p := hA0
  rw [Tryz.params3] at hA hval
  obtain ⟨v0, vs0, d0, ds0, p0, q0, hargs, rfl, rfl, h0, r0⟩ := trodAll_cons hA
  obtain ⟨v1, vs1, d1, ds1, p1, q1, rfl, rfl, rfl, h1, r1⟩ := trodAll_cons r0
  obtain ⟨v2, vs2, d2, ds2, p2, q2, rfl, rfl, rfl, h2, r2⟩ := trodAll_cons r1
  obtain ⟨v3, vs3, d3, ds3, p3, q3, rfl, rfl, rfl, h3, r3⟩ := trodAll_cons r2
  obtain ⟨v4, vs4, d4, ds4, p4, q4, rfl, rfl, rfl, h4, r4⟩ := trodAll_cons r3
  obtain ⟨v5, vs5, d5, ds5, p5, q5, rfl, rfl, rfl, h5, r5⟩ := trodAll_cons r4
  obtain ⟨rfl, rfl, rfl⟩ := trodAll_nil r5
  obtain rfl : args = #[v0, v1, v2, v3, v4, v5] := by cases args; simp_all
  obtain ⟨rfl, rfl⟩ := trodVars_none hV
  have k0 := h0
  have lt0 : ∀ x ∈ p0, x.block < W.heap.size := by obtain ⟨m, hm⟩ := k0; exact DataW.trod_lt m _ _ _ hm
  obtain ⟨a0, len0, cap0, b0, lem0, cam0, z0, y0, rfl, w0, u0⟩ := open_table (hval 0 25 v0 rfl rfl) h0
  obtain ⟨a1, rfl, rfl, rfl, w1⟩ := open_msg (hval 1 27 v1 rfl rfl) h1
  obtain ⟨a2, rfl, rfl, rfl, w2⟩ := open_int Tryz.underlying3 (hval 2 3 v2 rfl rfl) h2
  obtain ⟨a3, rfl, rfl, rfl, w3⟩ := open_int Tryz.underlying3 (hval 3 3 v3 rfl rfl) h3
  obtain ⟨a4, rfl, rfl, rfl, w4⟩ := open_int Tryz.underlying3 (hval 4 3 v4 rfl rfl) h4
  obtain ⟨a5, rfl, rfl, rfl, w5⟩ := open_int Tryz.underlying3 (hval 5 3 v5 rfl rfl) h5
  clear hA0 hval0
  refine (LeaseRaw_walk W a0 len0 cap0 z0 b0 lem0 cam0 y0 w0 u0 a1 w1 a2 w2 a3 w3 a4 w4 a5 w5).mono fun e W' ⟨he, bel⟩ => ?_
  subst he
  exact ⟨_, rfl, _, _, _, [], _, [], hW', trodAll_mk1 (shut_bool Tryz.underlying4 _), (trodAll_cons_mk (Below.trod laidOut (by kernel_rfl) (of_decide_eq_true (by kernel_rfl)) k0 bel lt0) (trodAll_cons_mk (shut_msg a1 w1) (trodAll_cons_mk (shut_int Tryz.underlying3 w2) (trodAll_cons_mk (shut_int Tryz.underlying3 w3) (trodAll_cons_mk (shut_int Tryz.underlying3 w4) (trodAll_cons_mk (shut_int Tryz.underlying3 w5) trodAll_mk0)))))), rfl, bel.frame _, fun h => by cases h⟩

theorem over : Rows.leaseRawRow.holds Tryz.pinned (OpenSpec.ofChange Rows.leaseRawSpec) :=
  OpenClaim.holds_of_wide 3 Tryz.f3 rfl rfl rfl rfl rfl rfl rfl ⟨rfl, rfl, rfl, rfl, rfl⟩ rfl rfl rfl rfl rfl (by kernel_rfl) Tryz.func3 (by kernel_rfl)
    (of_decide_eq_true (by kernel_rfl)) (by unfold Func.isWrapper; first | (rw [if_pos (by decide +kernel)]; kernel_rfl) | (rw [if_neg (by decide +kernel)]; exact ⟨rfl, rfl⟩))
    (fun os started H enc _ => lifted os started H enc)

/-- The statement. -/
theorem proved : Rows.LeaseRawSaid := over
#print axioms proved
end leaseRaw
end Go.Proofs.YtjclhlejbidpgaaGreat
