/- What is proved here: shardqueueref02.Into, digest.Route and shardqueueref02.Route, by one contract each for all arguments. -/
import Derived.Test.YtboencbblplhbaaDgt
namespace Go.Proofs.Ytboencbblplhbaa
open Go.RowKit
set_option linter.unusedVariables false

theorem intoF_out (r l h : Int) (hb : r < 0 ∨ 65535 < r ∨ l < 0 ∨ 65535 < h ∨ h < l) : intoF r l h = 0 := by
  unfold intoF
  rw [if_neg]
  rintro ⟨h1, h2⟩
  obtain ⟨⟨r0, r1⟩, ⟨l0, l1⟩, ⟨h0, h1⟩⟩ := of_decide_eq_true h1
  omega

theorem rinto_out (r l h : Int) (w : World) (hb : r < 0 ∨ 65535 < r ∨ l < 0 ∨ 65535 < h ∨ h < l) :
    Calls Try.prog 16 #[.int .i64 r, .int .i64 l, .int .i64 h] w fun e w' => e = .returned (.int .i64 0) ∧ w = w' := by
  by_cases b0 : r < 0
  · clear hb
    go_enter Try.func16, Try.ntmps16
    go_wp2
    go_ret
    exact ⟨rfl, rfl⟩
  by_cases b1 : 65535 < r
  · clear hb
    go_enter Try.func16, Try.ntmps16
    go_wp2
    go_ret
    exact ⟨rfl, rfl⟩
  by_cases b2 : l < 0
  · clear hb
    go_enter Try.func16, Try.ntmps16
    go_wp2
    go_ret
    exact ⟨rfl, rfl⟩
  by_cases b3 : 65535 < h
  · clear hb
    go_enter Try.func16, Try.ntmps16
    go_wp2
    go_ret
    exact ⟨rfl, rfl⟩
  have b4 : h < l := by omega
  clear hb
  go_enter Try.func16, Try.ntmps16
  go_wp2
  go_ret
  exact ⟨rfl, rfl⟩

set_option maxHeartbeats 1000000 in
theorem rinto_any (r l h : Int) (w : World) :
    Calls Try.prog 16 #[.int .i64 r, .int .i64 l, .int .i64 h] w fun e w' => e = .returned (.int .i64 (intoF r l h)) ∧ w = w' := by
  by_cases hb : r < 0 ∨ 65535 < r ∨ l < 0 ∨ 65535 < h ∨ h < l
  · rw [intoF_out r l h hb]; exact rinto_out r l h w hb
  · have r0 : 0 ≤ r := by omega
    have r1 : r ≤ 65535 := by omega
    have l0 : 0 ≤ l := by omega
    have h1 : h ≤ 65535 := by omega
    have lh : l ≤ h := by omega
    have hA : areB r l h = true := decide_eq_true ⟨⟨r0, r1⟩, ⟨l0, by omega⟩, ⟨by omega, h1⟩⟩
    clear hb
    by_cases hin : l ≤ r ∧ r ≤ h
    · have HF := Lib.hid (show intoF r l h = r by unfold intoF; rw [if_pos ⟨hA, by omega⟩, if_pos hin])
      obtain ⟨g0, g1⟩ := hin
      clear hA
      go_enter Try.func16, Try.ntmps16
      go_wp2
      go_ret
      exact ⟨by rw [HF.out]; rfl, rfl⟩
    · have HF := Lib.hid (show intoF r l h = l + r % (h - l + 1) by unfold intoF; rw [if_pos ⟨hA, by omega⟩, if_neg hin])
      clear hA
      have hm0 : 0 ≤ r % (h - l + 1) := Int.emod_nonneg _ (by omega)
      have hm1 : r % (h - l + 1) < h - l + 1 := Int.emod_lt_of_pos _ (by omega)
      by_cases hlr : l ≤ r
      · have hrh : ¬ r ≤ h := fun g => hin ⟨hlr, g⟩
        clear hin
        go_enter Try.func16, Try.ntmps16
        go_wp2
        go_ret
        exact ⟨by rw [HF.out]; rfl, rfl⟩
      · clear hin
        go_enter Try.func16, Try.ntmps16
        go_wp2
        go_ret
        exact ⟨by rw [HF.out]; rfl, rfl⟩

/-- What Route returns. -/
def rtx (h : Nat) : Nat := (h / 65536) ^^^ (h % 65536)
def rtF (id : Int) : Int := if 0 ≤ id ∧ id ≤ 1073741824 then (rtx (fnv (be 4 id.toNat)) : Int) else 0

theorem rtx_bits (h : Nat) (hh : h < 4294967296) : bits .xor .i64 ((h : Int) / 65536) ((h : Int) % 65536) = (rtx h : Int) := by
  have := xor_i64 (h / 65536) (h % 65536) (by omega) (by omega)
  unfold rtx
  rw [← this]
  congr 1
theorem rtx_lt (h : Nat) (hh : h < 4294967296) : rtx h < 65536 := Nat.xor_lt_two_pow (n := 16) (by omega) (by omega)

theorem route_no (id : Int) (w : World) (hb : id < 0 ∨ 1073741824 < id) :
    Calls Try.prog 13 #[.int .i64 id] w fun e w' => e = .returned (.int .i64 0) ∧ Below w.heap.size w w' := by
  by_cases b0 : id < 0
  · clear hb
    go_enter Try.func13, Try.ntmps13
    go_wp2
    go_ret
    exact ⟨rfl, Below.refl _ _⟩
  have b1 : 1073741824 < id := by omega
  clear hb
  go_enter Try.func13, Try.ntmps13
  go_wp2
  go_ret
  exact ⟨rfl, Below.refl _ _⟩

theorem rroute_no (id : Int) (w : World) (hb : id < 0 ∨ 1073741824 < id) :
    Calls Try.prog 14 #[.int .i64 id] w fun e w' => e = .returned (.int .i64 0) ∧ Below w.heap.size w w' := by
  by_cases b0 : id < 0
  · clear hb
    go_enter Try.func14, Try.ntmps14
    go_wp2
    go_ret
    exact ⟨rfl, Below.refl _ _⟩
  have b1 : 1073741824 < id := by omega
  clear hb
  go_enter Try.func14, Try.ntmps14
  go_wp2
  go_ret
  exact ⟨rfl, Below.refl _ _⟩

theorem pt4 (id : Int) (h0 : 0 ≤ id) (h1 : id ≤ 1073741824) : ptE id 4 = 0 ∧ ptB [] id 4 = be 4 id.toNat := by
  have hk : ptOk id 4 = true := by
    refine decide_eq_true ⟨by omega, by omega, h0, ?_⟩
    rw [show (2 : Int) ^ (8 * (4 : Int).toNat) = 4294967296 by decide]
    omega
  unfold ptE ptB
  rw [if_pos hk, if_pos hk]
  exact ⟨rfl, rfl⟩

theorem route_yes (id : Int) (w : World) (h0 : 0 ≤ id) (h1 : id ≤ 1073741824) :
    Calls Try.prog 13 #[.int .i64 id] w fun e w' => e = .returned (.int .i64 (rtx (fnv (be 4 id.toNat)))) ∧ Below w.heap.size w w' := by
  have HC := Lib.hid (put_all none 0 0 [] id 4 w Bs.nil (by simp))
  have HP := Lib.hid (pt4 id h0 h1)
  have HL := Lib.hid (be_length 4 id.toNat)
  go_enter Try.func13, Try.ntmps13
  go_wp2_with fail
  refine HC.out.mono ?_
  rintro e w1 ⟨v1, rfl, hv, hb⟩
  obtain ⟨e0, e1⟩ := HP.out
  rw [e1] at hv
  rw [e0]
  obtain ⟨A1, c1, rfl, _, _, _⟩ := (show _ from hv)
  have HV := Lib.hid hv
  have HB := Lib.hid hb
  clear hv hb e0 e1
  go_wp2_with fail
  refine (sum_any _ _ _ _ _ HV.out (by rw [HL.out]; omega)).mono ?_
  rintro e w2 ⟨rfl, rfl⟩
  obtain ⟨h, hh⟩ : ∃ h, h = fnv (be 4 id.toNat) := ⟨_, rfl⟩
  have h32 : h < 4294967296 := by rw [hh]; exact fnv_lt _
  rw [← hh]
  have hx := rtx_bits h h32
  have h32' : (h : Int) ≤ 4294967295 := by omega
  have HH := Lib.hid hh
  clear hh h32
  go_wp2
  go_ret
  exact ⟨by rw [← HH.out]; rfl, HB.out⟩

theorem rroute_yes (id : Int) (w : World) (h0 : 0 ≤ id) (h1 : id ≤ 1073741824) :
    Calls Try.prog 14 #[.int .i64 id] w fun e w' => e = .returned (.int .i64 (rtx (fnv (be 4 id.toNat)))) ∧ Below w.heap.size w w' := by
  have HC := Lib.hid (rput_all none 0 0 [] id 4 w Bs.nil (by simp))
  have HP := Lib.hid (pt4 id h0 h1)
  have HL := Lib.hid (be_length 4 id.toNat)
  go_enter Try.func14, Try.ntmps14
  go_wp2_with fail
  refine HC.out.mono ?_
  rintro e w1 ⟨v1, rfl, hv, hb⟩
  obtain ⟨e0, e1⟩ := HP.out
  rw [e1] at hv
  rw [e0]
  obtain ⟨A1, c1, rfl, _, _, _⟩ := (show _ from hv)
  have HV := Lib.hid hv
  have HB := Lib.hid hb
  clear hv hb e0 e1
  go_wp2_with fail
  refine (rsum_any _ _ _ _ _ HV.out (by rw [HL.out]; omega)).mono ?_
  rintro e w2 ⟨rfl, rfl⟩
  obtain ⟨h, hh⟩ : ∃ h, h = fnv (be 4 id.toNat) := ⟨_, rfl⟩
  have h32 : h < 4294967296 := by rw [hh]; exact fnv_lt _
  rw [← hh]
  have hx := rtx_bits h h32
  have ha := and_ffff (h : Int)
  have h32' : (h : Int) ≤ 4294967295 := by omega
  have HH := Lib.hid hh
  clear hh h32
  go_wp2
  go_ret
  exact ⟨by rw [← HH.out]; rfl, HB.out⟩

theorem route_any (id : Int) (w : World) : Calls Try.prog 13 #[.int .i64 id] w fun e w' => e = .returned (.int .i64 (rtF id)) ∧ Below w.heap.size w w' := by
  by_cases h : 0 ≤ id ∧ id ≤ 1073741824
  · rw [show rtF id = (rtx (fnv (be 4 id.toNat)) : Int) from if_pos h]; exact route_yes id w h.1 h.2
  · rw [show rtF id = 0 from if_neg h]; exact route_no id w (by omega)
theorem rroute_any (id : Int) (w : World) : Calls Try.prog 14 #[.int .i64 id] w fun e w' => e = .returned (.int .i64 (rtF id)) ∧ Below w.heap.size w w' := by
  by_cases h : 0 ≤ id ∧ id ≤ 1073741824
  · rw [show rtF id = (rtx (fnv (be 4 id.toNat)) : Int) from if_pos h]; exact rroute_yes id w h.1 h.2
  · rw [show rtF id = 0 from if_neg h]; exact rroute_no id w (by omega)

theorem rtF_lt (id : Int) : 0 ≤ rtF id ∧ rtF id ≤ 65535 := by
  by_cases h : 0 ≤ id ∧ id ≤ 1073741824
  · rw [show rtF id = (rtx (fnv (be 4 id.toNat)) : Int) from if_pos h]
    have := rtx_lt _ (fnv_lt (be 4 id.toNat))
    omega
  · rw [show rtF id = 0 from if_neg h]; omega
end Go.Proofs.Ytboencbblplhbaa
