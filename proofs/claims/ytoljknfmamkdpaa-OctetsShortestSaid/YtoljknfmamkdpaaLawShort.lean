/- What is proved here: shardqueuelaw01.OctetsShortest returns true for every input and leaves its argument as it was: a form of groups that is read is the one that is written. No condition. -/
import Derived.Test.YtoljknfmamkdpaaGrp
import Derived.ProofKit
import Derived.OpenShut
import Derived.ShutString
import Derived.ChangeOld
namespace Go.Proofs.Ytoljknfmamkdpaa
open Go.RowKit
set_option linter.unusedVariables false

theorem getvar_none (A : Option Addr) (l c : Nat) (bs : List UInt8) (w : World) (hv : Bs w w.heap.size (.slice A l c) bs) (hl : l ≤ 1099511627776) (h : gv 6 0 0 bs = none) :
    Calls Try.prog 17 #[.slice A l c, .int .i64 0] w fun e w' => e = .returned (.tuple #[.int .i64 0, .int .i64 0, .int .i64 8]) ∧ w = w' := by
  refine (getvar_any A l c bs 0 w hv hl (by omega)).mono fun e w' ⟨he, hw⟩ => ⟨?_, hw⟩
  rw [List.drop_zero, h] at he
  exact he
theorem getvar_some (A : Option Addr) (l c : Nat) (bs : List UInt8) (n k : Nat) (w : World) (hv : Bs w w.heap.size (.slice A l c) bs) (hl : l ≤ 1099511627776) (h : gv 6 0 0 bs = some (n, k)) :
    Calls Try.prog 17 #[.slice A l c, .int .i64 0] w fun e w' => e = .returned (.tuple #[.int .i64 n, .int .i64 k, .int .i64 0]) ∧ w = w' := by
  refine (getvar_any A l c bs 0 w hv hl (by omega)).mono fun e w' ⟨he, hw⟩ => ⟨?_, hw⟩
  rw [List.drop_zero, h] at he
  rw [he]
  simp

set_option maxHeartbeats 4000000 in
set_option maxRecDepth 20000 in
theorem OctetsShortest_walk (w : World) (a0 : Option Addr) (l c : Nat) (bs : List UInt8) (hv : Bs w w.heap.size (.slice a0 l c) bs) :
    Calls Try.prog 7 #[.slice a0 l c] w fun e w' => e = .returned (.bool true) ∧ Below w.heap.size w w' := by
  obtain ⟨hbl, hlc, hm⟩ := hv.len
  by_cases hl : (20 : Int) < l
  · clear hv hbl hlc hm
    go_enter Try.func7, Try.ntmps7
    go_wp2
    go_ret
    exact ⟨rfl, Below.refl _ _⟩
  · rcases hr : gv 6 0 0 bs with _ | ⟨n, k⟩
    · have HC := Lib.hid (getvar_none a0 l c bs w hv (by omega) hr)
      clear hv hbl hlc hm hr
      go_enter Try.func7, Try.ntmps7
      go_wp2_with fail
      refine HC.out.mono ?_
      rintro e w1 ⟨rfl, rfl⟩
      go_wp2_with fail
      refine (awake_any _).mono ?_
      rintro e w4 ⟨rfl, hb4⟩
      have HB4 := Lib.hid hb4
      clear hb4
      go_wp2
      go_ret
      exact ⟨rfl, HB4.out⟩
    · obtain ⟨hk1, hk2, hn, ht⟩ := gv_start bs n k hr
      have HC := Lib.hid (getvar_some a0 l c bs n k w hv (by omega) hr)
      have hk1' : (1 : Int) ≤ k := by omega
      have hk2' : (k : Int) ≤ l := by omega
      have hkl : k ≤ l := by omega
      obtain ⟨i0, hi0, hz0, hz1, hz2⟩ := info_parts info_u8
      obtain ⟨A', hcut, hv'⟩ := run_upto (P := Try.prog) 22 5 i0 Try.underlying22 hi0 hz1 hv .i64 k hkl
      rw [ht] at hv'
      have HP := Lib.hid (putvar_ok none 0 0 [] n w Bs.nil (by simp) hn)
      have HV := Lib.hid hv'
      clear hv hbl hlc hm hr hn ht hk1 hk2 hz0 hz1 hz2 hi0 hv'
      go_enter Try.func7, Try.ntmps7
      go_wp2_with fail
      refine HC.out.mono ?_
      rintro e w1 ⟨rfl, rfl⟩
      go_wp2_with fail
      refine HP.out.mono ?_
      rintro e w1 ⟨v1, rfl, ho1, hb1⟩
      have HB1 := Lib.hid hb1
      have HO1 := Lib.hid (Bs.of_own ho1)
      have HV1 := Lib.hid ((HV.out.below hb1).more hb1.size)
      clear ho1 hb1
      go_wp2_with fail
      refine (same_any _ _ _ _ _ HO1.out HV1.out).mono ?_
      rintro e w3 ⟨rfl, rfl⟩
      go_wp2_with fail
      refine (awake_any _).mono ?_
      rintro e w4 ⟨rfl, hb4⟩
      have HB4 := Lib.hid hb4
      clear hb4
      go_wp2
      go_ret
      exact ⟨rfl, HB1.out.trans (HB4.out.mono HB1.out.size)⟩

/-! The row's step, as the guide's shell has it. -/
namespace octetsShortest
open Go.ChangeShapes Go.WideShapes Go.ChangeAt
open Go.ChangeMaps (open_string shut_string)
theorem own : ownKnob Try.prog.godebug = none := by kernel_rfl
theorem laidOut : laidOutB Try.prog = true := by kernel_rfl

set_option maxRecDepth 100000 in
theorem lifted (os : Os) (started : os.Started) (H : Type) (enc : TypeId × Value → H) :
    ReturnsInHanded {} Try.checked os 7 .any (Rows.octetsShortestSpec.pre6 enc Try.prog Try.f7 Rows.octetsShortestRow.domain false) (Rows.octetsShortestSpec.post enc Try.prog Try.f7 false true false false) := by
  refine returnsInHanded_of_change (C := Try.checked) own started (by kernel_rfl) Try.func7
    (ChangeSpec.witness6 (enc := enc) (C := Try.checked) false ⟨#[], #[.slice none 0 0], []⟩ 8 (by kernel_rfl) (by kernel_rfl) (by kernel_rfl) (by kernel_rfl)) ?_
  intro W base args ds gs before hval0 hW hcnd _
  have hval : ∀ (j : Nat) t v, Try.f7.params[j]? = some t → args[j]? = some v → Value.okWide Try.prog W .any base t v := hval0
  have hW' := hW
  obtain ⟨p, q, hA0, hV, rfl, hfz, hnd⟩ := hW
  have hA : DataW.TrodAll enc Try.prog W 0 (fun _ => true) true Try.f7.params.toList args.toList ds p := hA0
  rw [Try.params7] at hA hval
  obtain ⟨v0, vs0, d0, ds0, p0, q0, hargs, rfl, rfl, h0, r0⟩ := trodAll_cons hA
  obtain ⟨rfl, rfl, rfl⟩ := trodAll_nil r0
  obtain rfl : args = #[v0] := by cases args; simp_all
  obtain ⟨rfl, rfl⟩ := trodVars_none hV
  obtain ⟨a0, len0, cap0, rfl⟩ := okWide_slice Try.underlying22 (hval 0 22 v0 rfl rfl)
  have k0 := h0
  have lt0 : ∀ x ∈ p0, x.block < W.heap.size := by obtain ⟨m, hm⟩ := k0; exact DataW.trod_lt m _ _ _ hm
  obtain ⟨z0, w0⟩ : ∃ zs, Bs W W.heap.size (.slice a0 len0 cap0) zs := by
    obtain ⟨fuel, hf⟩ := h0
    rcases open_ints Try.underlying22 Try.underlying5 (by kernel_rfl) hf with ⟨hcs, _⟩ | ⟨x, l, c, zs, hcs, _, hl, hm, hz, _, hcell, hwz⟩
    · simp [Value.cells] at hcs
      obtain ⟨rfl, rfl, rfl⟩ := hcs
      exact ⟨[], Bs.nil⟩
    · simp [Value.cells] at hcs
      obtain ⟨rfl, rfl, rfl⟩ := hcs
      exact Bs.of_cells hl hm (by simpa using hz) hcell hwz
  clear hA0 hval0
  refine (OctetsShortest_walk W a0 len0 cap0 z0 w0).mono fun e W' ⟨he, bel⟩ => ?_
  subst he
  exact ⟨_, rfl, _, _, _, [], _, [], hW', trodAll_mk1 (shut_bool Try.underlying4 _), (trodAll_cons_mk (Below.trod laidOut (by kernel_rfl) (of_decide_eq_true (by kernel_rfl)) k0 bel lt0) trodAll_mk0), rfl, bel.frame _, fun h => by cases h⟩

theorem over : Rows.octetsShortestRow.holds Try.pinned (OpenSpec.ofChange Rows.octetsShortestSpec) :=
  OpenClaim.holds_of_wide 7 Try.f7 rfl rfl rfl rfl rfl rfl rfl ⟨rfl, rfl, rfl, rfl, rfl⟩ rfl rfl rfl rfl rfl (by kernel_rfl) Try.func7 (by kernel_rfl)
    (of_decide_eq_true (by kernel_rfl)) (by unfold Func.isWrapper; first | (rw [if_pos (by decide +kernel)]; kernel_rfl) | (rw [if_neg (by decide +kernel)]; exact ⟨rfl, rfl⟩))
    (fun os started H enc _ => lifted os started H enc)

/-- The statement. -/
theorem proved : Rows.OctetsShortestSaid := over
#print axioms proved
end octetsShortest
end Go.Proofs.Ytoljknfmamkdpaa
