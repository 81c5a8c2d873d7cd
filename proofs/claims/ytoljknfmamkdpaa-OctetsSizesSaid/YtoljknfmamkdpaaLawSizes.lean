/- What is proved here: shardqueuelaw01.OctetsSizes returns true for every input and leaves its argument as it was: each size holds exactly the numbers below its power of 256. No condition. -/
import Derived.Test.YtoljknfmamkdpaaPut
import Derived.ProofKit
import Derived.OpenShut
import Derived.ShutString
import Derived.ChangeOld
namespace Go.Proofs.Ytoljknfmamkdpaa
open Go.RowKit
set_option linter.unusedVariables false

theorem be_top (s q : Nat) (h1 : 1 ≤ s) (h2 : s ≤ 4) (hq : 2 ^ (8 * s) = q + 1) : be s q = List.replicate s 255 := by
  refine List.ext_getElem (by simp [be_length]) fun j hj _ => ?_
  rw [be_length] at hj
  rw [be_get s q j hj, List.getElem_replicate]
  have hd : q / 2 ^ (8 * (s - 1 - j)) % 256 = 255 := by
    obtain rfl | rfl | rfl | rfl : s = 1 ∨ s = 2 ∨ s = 3 ∨ s = 4 := by omega
    · obtain rfl : j = 0 := by omega
      omega
    · obtain rfl | rfl : j = 0 ∨ j = 1 := by omega
      all_goals omega
    · obtain rfl | rfl | rfl : j = 0 ∨ j = 1 ∨ j = 2 := by omega
      all_goals omega
    · obtain rfl | rfl | rfl | rfl : j = 0 ∨ j = 1 ∨ j = 2 ∨ j = 3 := by omega
      all_goals omega
  apply UInt8.toNat_inj.1
  simpa using hd

theorem pow_le32 (s : Nat) (h1 : 1 ≤ s) (h2 : s ≤ 4) : 256 ≤ 2 ^ (8 * s) ∧ 2 ^ (8 * s) ≤ 4294967296 := by
  match s, h1, h2 with
  | 1, _, _ => decide
  | 2, _, _ => decide
  | 3, _, _ => decide
  | 4, _, _ => decide

theorem and_3 (n : Int) : bits .and .i64 n 3 = n % 4 := by
  have h3 : (BitVec.ofInt 64 3).toNat = 2 ^ 2 - 1 := by decide
  have key : (BitVec.ofInt 64 n &&& BitVec.ofInt 64 3).toNat = (n % ((2 ^ 64 : Nat) : Int)).toNat % 2 ^ 2 := by
    rw [BitVec.toNat_and, BitVec.toNat_ofInt, h3, Nat.and_two_pow_sub_one_eq_mod]
  show IntKind.i64.wrap ((BitVec.ofInt 64 n &&& BitVec.ofInt 64 3).toNat : Nat) = n % 4
  rw [key, IntKind.wrap_i64]
  omega

set_option maxHeartbeats 2000000 in
set_option maxRecDepth 20000 in
theorem OctetsSizes_walk (a0 : Int) (w0 : (Lit.int .i64 a0).wf = true) (w : World) :
    Calls Try.prog 8 #[.int .i64 a0] w fun e w' => e = .returned (.bool true) ∧ Below w.heap.size w w' := by
  obtain ⟨r, hr, hr1⟩ : ∃ r : Nat, bits .and .i64 a0 3 = (r : Int) ∧ r ≤ 3 := ⟨(a0 % 4).toNat, by rw [and_3]; omega, by omega⟩
  obtain ⟨s, hs, h1, h2⟩ : ∃ s : Nat, 1 + (r : Int) = (s : Int) ∧ (1 : Int) ≤ s ∧ (s : Int) ≤ 4 := ⟨1 + r, by omega, by omega, by omega⟩
  have hpow := pow_le32 s (by omega) (by omega)
  obtain ⟨q, hq⟩ : ∃ q, 2 ^ (8 * s) = q + 1 := ⟨2 ^ (8 * s) - 1, by omega⟩
  have hE : wrap64 (2 ^ (8 * s)) = (q : Int) + 1 := by
    have : (2 : Int) ^ (8 * s) = ((2 ^ (8 * s) : Nat) : Int) := by simp
    rw [this, hq]
    unfold wrap64
    omega
  have hq1 : (q : Int) ≤ 4294967295 := by omega
  have c1 := Lib.hid (put_ok none 0 0 [] q s w Bs.nil (by simp) h1 (by omega) (by omega))
  have c2 := fun w => put_bad (.slice none 0 0) (q + 1) s w (Or.inr (Or.inr (Or.inr (by
    rw [Int.toNat_natCast]
    have : (2 : Int) ^ (8 * s) = ((2 ^ (8 * s) : Nat) : Int) := by simp
    rw [this, hq]; omega))))
  have c3 := fun w => put_bad (.slice none 0 0) (-1) s w (Or.inr (Or.inr (Or.inl (by omega))))
  have C2 := Lib.hid c2
  have C3 := Lib.hid c3
  have HT := Lib.hid (be_top s q (by omega) (by omega) hq)
  clear hpow hq w0 c2 c3 hr1
  have HA := Lib.hid (fun w => awake_any w)
  go_enter Try.func8, Try.ntmps8
  go_wp2_with fail
  refine c1.out.mono ?_
  rintro e w1 ⟨v1, rfl, hown, hb⟩
  rw [HT.out] at hown
  have hl : ([] ++ List.replicate s (255 : UInt8)).length = s := by simp
  rw [hl] at hown
  obtain ⟨A1, c, rfl⟩ := own_form hown
  have HO := Lib.hid (Bs.of_own hown)
  have HB := Lib.hid hb
  clear hown hb hl
  go_wp2_with fail
  refine (C2.out _).mono ?_
  rintro e w2 ⟨rfl, rfl⟩
  go_wp2_with fail
  refine (C3.out _).mono ?_
  rintro e w3 ⟨rfl, rfl⟩
  go_wp2_with fail
  go_loop [10] (fun i => ∃ k : Nat, k ≤ s ∧ i = .int .i64 k) (fun i => s - (intOf i).toNat)
  case atStart => exact ⟨0, Nat.zero_le _, rfl⟩
  case round =>
    obtain ⟨k, hk, rfl⟩ := hrel
    by_cases hlt : k < s
    · obtain ⟨b, o, rfl, _, hb, hc⟩ := HO.out.at_ hlt
      have he : (List.replicate s (255 : UInt8))[k]'(by simpa using hlt) = 255 := List.getElem_replicate _
      have hc' : w1.cell? ⟨b, o + k, none⟩ = some (.int .u8 255) := by
        rw [hc]
        simp
      clear hc he
      go_wp2
      go_round
      case rel => exact ⟨k + 1, by omega, by go_num⟩
      case measure => simp [intOf]; omega
    · go_wp2_with fail
      refine (HA.out _).mono ?_
      rintro e w4 ⟨rfl, hb4⟩
      have HB4 := Lib.hid hb4
      clear hb4
      go_wp2
      go_ret
      exact ⟨rfl, HB.out.trans (HB4.out.mono HB.out.size)⟩

/-! The row's step, as the guide's shell has it. -/
namespace octetsSizes
open Go.ChangeShapes Go.WideShapes Go.ChangeAt
open Go.ChangeMaps (open_string shut_string)
theorem own : ownKnob Try.prog.godebug = none := by kernel_rfl
theorem laidOut : laidOutB Try.prog = true := by kernel_rfl

set_option maxRecDepth 100000 in
theorem lifted (os : Os) (started : os.Started) (H : Type) (enc : TypeId × Value → H) :
    ReturnsInHanded {} Try.checked os 8 .any (Rows.octetsSizesSpec.pre6 enc Try.prog Try.f8 Rows.octetsSizesRow.domain false) (Rows.octetsSizesSpec.post enc Try.prog Try.f8 false true false false) := by
  refine returnsInHanded_of_change (C := Try.checked) own started (by kernel_rfl) Try.func8
    (ChangeSpec.witness6 (enc := enc) (C := Try.checked) false ⟨#[], #[.int .i64 0], []⟩ 8 (by kernel_rfl) (by kernel_rfl) (by kernel_rfl) (by kernel_rfl)) ?_
  intro W base args ds gs before hval0 hW hcnd _
  have hval : ∀ (j : Nat) t v, Try.f8.params[j]? = some t → args[j]? = some v → Value.okWide Try.prog W .any base t v := hval0
  have hW' := hW
  obtain ⟨p, q, hA0, hV, rfl, hfz, hnd⟩ := hW
  have hA : DataW.TrodAll enc Try.prog W 0 (fun _ => true) true Try.f8.params.toList args.toList ds p := hA0
  rw [Try.params8] at hA hval
  obtain ⟨v0, vs0, d0, ds0, p0, q0, hargs, rfl, rfl, h0, r0⟩ := trodAll_cons hA
  obtain ⟨rfl, rfl, rfl⟩ := trodAll_nil r0
  obtain rfl : args = #[v0] := by cases args; simp_all
  obtain ⟨rfl, rfl⟩ := trodVars_none hV
  obtain ⟨a0, rfl, rfl, rfl, w0⟩ := open_int Try.underlying3 (hval 0 3 v0 rfl rfl) h0
  clear hA0 hval0
  simp only [List.append_nil] at hW'
  refine (OctetsSizes_walk a0 w0 W).mono fun e W' ⟨he, bel⟩ => ?_
  subst he
  exact ⟨_, rfl, _, _, _, [], _, [], hW', trodAll_mk1 (shut_bool Try.underlying4 _), (trodAll_cons_mk (shut_int Try.underlying3 w0) trodAll_mk0), rfl, bel.frame _, fun h => by cases h⟩

theorem over : Rows.octetsSizesRow.holds Try.pinned (OpenSpec.ofChange Rows.octetsSizesSpec) :=
  OpenClaim.holds_of_wide 8 Try.f8 rfl rfl rfl rfl rfl rfl rfl ⟨rfl, rfl, rfl, rfl, rfl⟩ rfl rfl rfl rfl rfl (by kernel_rfl) Try.func8 (by kernel_rfl)
    (of_decide_eq_true (by kernel_rfl)) (by unfold Func.isWrapper; first | (rw [if_pos (by decide +kernel)]; kernel_rfl) | (rw [if_neg (by decide +kernel)]; exact ⟨rfl, rfl⟩))
    (fun os started H enc _ => lifted os started H enc)

/-- The statement. -/
theorem proved : Rows.OctetsSizesSaid := over
#print axioms proved
end octetsSizes
end Go.Proofs.Ytoljknfmamkdpaa
