/- What is proved here: octets.GetVar, by one contract for all arguments. -/
import Derived.Test.YtjiampelmiaflaaBas
import Derived.Test.YtjiampelmiaflaaGrd
namespace Go.Proofs.Ytjiampelmiaflaa
open Go.RowKit
set_option linter.unusedVariables false

theorem getvar_bad (A : Option Addr) (l c : Nat) (at_ : Int) (w : World) (h : at_ < 0) :
    Calls Try.prog 50 #[.slice A l c, .int .i64 at_] w fun e w' => e = .returned (.tuple #[.int .i64 0, .int .i64 0, .int .i64 1]) ∧ w = w' := by
  go_enter Try.func50, Try.ntmps50
  go_wp2
  go_ret3
  exact ⟨rfl, rfl⟩

set_option maxHeartbeats 4000000 in
set_option maxRecDepth 20000 in
theorem getvar_any (A : Option Addr) (l c : Nat) (bs : List UInt8) (at_ : Nat) (w : World) (hv : Bs w w.heap.size (.slice A l c) bs) (hl : l ≤ 1099511627776) (h63 : at_ ≤ 9223372036854775807) :
    Calls Try.prog 50 #[.slice A l c, .int .i64 at_] w fun e w' =>
      GvEnd at_ (gv 6 0 0 (bs.drop at_)) e ∧ w = w' := by
  obtain ⟨i0, hi0, hz0, hz1, hz2⟩ := info_parts info_u8
  obtain ⟨hn, hlc, hc⟩ := hv.len
  obtain ⟨k, hk, hkl⟩ : ∃ k : Nat, min (at_ : Int) (l : Int) = (k : Int) ∧ k ≤ l := ⟨min at_ l, by omega, by omega⟩
  obtain ⟨A', hcut, hv'⟩ := run_cut (P := Try.prog) 41 5 i0 Try.underlying41 hi0 hz1 hv .i64 k hkl
  have hdrop : bs.drop k = bs.drop at_ := by
    by_cases h : at_ ≤ l
    · rw [show k = at_ by omega]
    · rw [List.drop_of_length_le (by omega), List.drop_of_length_le (by omega)]
  rw [hdrop] at hv'
  obtain ⟨xs, hxs⟩ : ∃ xs, xs = bs.drop at_ := ⟨_, rfl⟩
  rw [← hxs] at hv' ⊢
  have hlx : (xs.length : Int) + at_ ≤ 1099511627776 ∨ xs = [] := by
    by_cases h : at_ ≤ l
    · left; rw [hxs, List.length_drop]; omega
    · right; rw [hxs]; exact List.drop_of_length_le (by omega)
  have hl' : (l : Int) ≤ 1099511627776 := by omega
  have hc' : (c : Int) ≤ 9223372036854775807 := by unfold maxLen at hc; omega
  have hlc' : (l : Int) ≤ c := by omega
  have h0 : (0 : Int) ≤ at_ := by omega
  have h63' : (at_ : Int) ≤ 9223372036854775807 := by omega
  obtain ⟨m, hm⟩ : ∃ m, m = l - k := ⟨_, rfl⟩
  obtain ⟨d, hd⟩ : ∃ d, d = c - k := ⟨_, rfl⟩
  rw [← hm, ← hd] at hv' hcut
  have hmx := hv'.len.1
  have HM := Lib.hid hmx
  have HX := Lib.hid hlx
  have HV := Lib.hid hv'
  have hm' : (m : Int) ≤ 1099511627776 := by omega
  clear hv hl h63 hn hc hlc hv' hdrop hxs hm hd hmx hlx
  go_enter Try.func50, Try.ntmps50
  go_wp2
  clear hcut hk
  go_loop [4, 8, 9, 18] (fun n _ _ i => ∃ k N : Nat, k ≤ 6 ∧ k ≤ m ∧ i = .int .i64 k ∧ n = .int .i64 N ∧ N < 2 ^ (7 * k) ∧ gv 6 0 0 xs = gv (6 - k) k N (xs.drop k)) (fun _ _ _ i => 6 - (intOf i).toNat)
  case atStart => exact ⟨0, 0, by omega, by omega, rfl, rfl, by simp, rfl⟩
  case round =>
    obtain ⟨k, N, hk6, hkm, rfl, rfl, hN, hg⟩ := hrel
    by_cases h6 : k < 6
    · by_cases hkm' : k < m
      · obtain ⟨b, o, rfl, _, hb, hcell⟩ := HV.out.at_ hkm'
        have hst := gv_step xs k N h6 hb
        rw [← hg] at hst
        obtain ⟨g, hgx⟩ : ∃ g, g = xs[k] := ⟨_, rfl⟩
        rw [← hgx] at hcell hst
        obtain ⟨P, hP⟩ : ∃ P, P = 2 ^ (7 * k) := ⟨_, rfl⟩
        have hPI : (2 : Int) ^ (7 * k) = (P : Int) := by rw [hP]; simp
        obtain ⟨T, hT, hTI, hNT, b3, hW1, hW2, b6⟩ := gv_num g.toNat P N k g.toNat_lt hP h6 hN
        rw [← hP, hT] at hst
        have b7 : (at_ : Int) + k ≤ 1099511627775 := by
          have := HM.out
          rcases HX.out with h | h
          · clear hst hPI hTI hNT hW1 hW2 hT hP hgx hN b3 b6; omega
          · rw [h] at hb; simp at hb
        have b1 : (g.toNat : Int) ≤ 255 := by have := g.toNat_lt; clear hst hPI hTI hNT hW1 hW2 hT hP hgx hN b3 b6 b7; omega
        have b2 : (0 : Int) ≤ g.toNat := Int.natCast_nonneg _
        have b4 : (0 : Int) ≤ (T : Int) := Int.natCast_nonneg _
        have b5 : (0 : Int) ≤ (N : Int) := Int.natCast_nonneg _
        have HS := Lib.hid hst
        have HNT := Lib.hid hNT
        have hk0 : (0 : Int) ≤ k := Int.natCast_nonneg _
        have HX1 := Lib.hid (show wrap64 ((N : Int) + wrap64 (T : Int)) = (N : Int) + T by rw [hW1, hW2])
        clear hg hst hN hgx hP hT hNT hb hW1 hW2 b3 b6
        have hkm2 : ((k : Int) == (m : Int)) = false := by simp; omega
        by_cases hg : (128 : Int) ≤ g.toNat
        · have HS1 := Lib.hid (HS.out.trans (if_pos (by omega)))
          go_wp2
          go_round
          case rel => exact ⟨k + 1, N + T, by omega, by omega, by go_num, by rw [HX1.out]; go_num, HNT.out, HS1.out⟩
          case measure => simp [intOf]; omega
        · have HS1 := Lib.hid (HS.out.trans (if_neg (by omega)))
          by_cases hk1 : (0 : Int) < k
          · by_cases hz : (g.toNat : Int) = 0
            · have HS2 := Lib.hid (HS1.out.trans (if_pos (Or.inl ⟨by omega, by omega⟩)))
              have hz2 : ((g.toNat : Int) == 0) = true := by simp; omega
              clear hz
              go_wp2
              go_ret3
              exact ⟨by rw [HS2.out]; rfl, rfl⟩
            · have hz2 : ((g.toNat : Int) == 0) = false := by simp; omega
              by_cases hmax : (1099511627776 : Int) < wrap64 ((N : Int) + wrap64 (T : Int))
              · have HS2 := Lib.hid (HS1.out.trans (if_pos (Or.inr (by rw [HX1.out] at hmax; omega))))
                go_wp2
                go_ret3
                exact ⟨by rw [HS2.out]; rfl, rfl⟩
              · have HS2 := Lib.hid (HS1.out.trans (if_neg (by rw [HX1.out] at hmax; omega)))
                go_wp2
                go_ret3
                refine ⟨?_, rfl⟩
                rw [HS2.out]
                simp [GvEnd, HX1.out]
                omega
          · by_cases hmax : (1099511627776 : Int) < wrap64 ((N : Int) + wrap64 (T : Int))
            · have HS2 := Lib.hid (HS1.out.trans (if_pos (Or.inr (by rw [HX1.out] at hmax; omega))))
              go_wp2
              go_ret3
              exact ⟨by rw [HS2.out]; rfl, rfl⟩
            · have HS2 := Lib.hid (HS1.out.trans (if_neg (by rw [HX1.out] at hmax; omega)))
              go_wp2
              go_ret3
              refine ⟨?_, rfl⟩
              rw [HS2.out]
              simp [GvEnd, HX1.out]
              omega
      · have hkm2 : ((k : Int) == (m : Int)) = true := by simp; omega
        have HS2 := Lib.hid (hg.trans (gv_end xs k N (Or.inr (by have := HM.out; omega))))
        clear hg hN
        go_wp2
        go_ret3
        exact ⟨by rw [HS2.out]; rfl, rfl⟩
    · have HS2 := Lib.hid (hg.trans (gv_end xs k N (Or.inl (by omega))))
      clear hg hN
      go_wp2
      go_ret3
      exact ⟨by rw [HS2.out]; rfl, rfl⟩

theorem getvar_all (A : Option Addr) (l c : Nat) (bs : List UInt8) (at_ : Int) (w : World) (hv : Bs w w.heap.size (.slice A l c) bs) (hl : l ≤ 1099511627776) (h63 : at_ ≤ 9223372036854775807) :
    Calls Try.prog 50 #[.slice A l c, .int .i64 at_] w fun e w' =>
      e = .returned (.tuple #[.int .i64 (gvR at_ bs).1, .int .i64 (gvR at_ bs).2.1, .int .i64 (gvR at_ bs).2.2]) ∧ w = w' := by
  by_cases h : at_ < 0
  · refine (getvar_bad A l c at_ w h).mono fun e w' ⟨he, hw⟩ => ⟨?_, hw⟩
    rw [he]; unfold gvR; rw [if_pos h]
  · obtain ⟨n, rfl⟩ := Int.eq_ofNat_of_zero_le (show 0 ≤ at_ by omega)
    exact (getvar_any A l c bs n w hv hl (by omega)).mono fun e w' ⟨he, hw⟩ => ⟨gvR_end n bs e he, hw⟩
end Go.Proofs.Ytjiampelmiaflaa
