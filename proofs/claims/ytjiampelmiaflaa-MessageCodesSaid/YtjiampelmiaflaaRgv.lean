/- What is proved here: shardqueueref01.GetVar, by one contract for all arguments. -/
import Derived.Test.YtjiampelmiaflaaBas
import Derived.Test.YtjiampelmiaflaaGrd
namespace Go.Proofs.Ytjiampelmiaflaa
open Go.RowKit
set_option linter.unusedVariables false

theorem rgetvar_bad (A : Option Addr) (l c : Nat) (at_ : Int) (w : World) (h : at_ < 0) :
    Calls Try.prog 52 #[.slice A l c, .int .i64 at_] w fun e w' => e = .returned (.tuple #[.int .i64 0, .int .i64 0, .int .i64 1]) ∧ w = w' := by
  go_enter Try.func52, Try.ntmps52
  go_wp2
  go_ret3
  exact ⟨rfl, rfl⟩

set_option maxHeartbeats 4000000 in
set_option maxRecDepth 20000 in
theorem rgetvar_any (A : Option Addr) (l c : Nat) (bs : List UInt8) (at_ : Nat) (w : World) (hv : Bs w w.heap.size (.slice A l c) bs) (hl : l ≤ 1099511627776) (h63 : at_ ≤ 9223372036854775807) :
    Calls Try.prog 52 #[.slice A l c, .int .i64 at_] w fun e w' =>
      GvEnd at_ (gv 6 0 0 (bs.drop at_)) e ∧ w = w' := by
  obtain ⟨hn, hlc, hc⟩ := hv.len
  have hl' : (l : Int) ≤ 1099511627776 := by omega
  have h0 : (0 : Int) ≤ at_ := by omega
  have h63' : (at_ : Int) ≤ 9223372036854775807 := by omega
  obtain ⟨xs, hxs⟩ : ∃ xs, xs = bs.drop at_ := ⟨_, rfl⟩
  rw [← hxs]
  have HV := Lib.hid hv
  have HM := Lib.hid hn
  have HXS := Lib.hid hxs
  clear hv hl h63 hn hc hlc hxs
  go_enter Try.func52, Try.ntmps52
  go_wp2
  go_loop [7, 8, 9] (fun n i _ => ∃ k N : Nat, k ≤ 6 ∧ i = .int .i64 k ∧ n = .int .i64 N ∧ N < 2 ^ (7 * k) ∧ gv 6 0 0 xs = gv (6 - k) k N (xs.drop k)) (fun _ i _ => 6 - (intOf i).toNat)
  case atStart => exact ⟨0, 0, by omega, rfl, rfl, by simp, rfl⟩
  case round =>
    obtain ⟨k, N, hk6, rfl, rfl, hN, hg⟩ := hrel
    by_cases h6 : k < 6
    · by_cases hal : at_ < l
      · by_cases hkm' : (k : Int) < (l : Int) - at_
        · have hxl : xs.length + at_ = l := by have := HXS.out; have := HM.out; rw [HXS.out, List.length_drop]; omega
          have hb : k < xs.length := by omega
          have hst := gv_step xs k N h6 hb
          rw [← hg] at hst
          obtain ⟨b, o, rfl, _, hb2, hcell⟩ := HV.out.at_ (show at_ + k < l by omega)
          have hgx' : bs[at_ + k] = xs[k] := by
            have h1 : xs[k]? = bs[at_ + k]? := by rw [HXS.out, List.getElem?_drop]
            rw [List.getElem?_eq_getElem hb, List.getElem?_eq_getElem hb2] at h1
            exact (Option.some.inj h1).symm
          rw [hgx'] at hcell
          obtain ⟨g, hgx⟩ : ∃ g, g = xs[k] := ⟨_, rfl⟩
          rw [← hgx] at hcell hst
          obtain ⟨P, hP⟩ : ∃ P, P = 2 ^ (7 * k) := ⟨_, rfl⟩
          have hPI : (2 : Int) ^ (7 * k) = (P : Int) := by rw [hP]; simp
          obtain ⟨T, hT, hTI, hNT, b3, hW1, hW2, b6⟩ := gv_num g.toNat P N k g.toNat_lt hP h6 hN
          have hOr := gv_or g.toNat P N k T hP hT hN (by clear hTI hPI hT hP hN hNT hst; omega)
          rw [← hP, hT] at hst
          have b7 : (at_ : Int) + k ≤ 1099511627775 := by clear hst hPI hTI hNT hW1 hW2 hT hP hgx hN b3 b6 hOr; omega
          have b1 : (g.toNat : Int) ≤ 255 := by have := g.toNat_lt; clear hst hPI hTI hNT hW1 hW2 hT hP hgx hN b3 b6 b7 hOr; omega
          have b2 : (0 : Int) ≤ g.toNat := Int.natCast_nonneg _
          have b4 : (0 : Int) ≤ (T : Int) := Int.natCast_nonneg _
          have b5 : (0 : Int) ≤ (N : Int) := Int.natCast_nonneg _
          have HS := Lib.hid hst
          have HNT := Lib.hid hNT
          have hk0 : (0 : Int) ≤ k := Int.natCast_nonneg _
          have hand := i64_and127 (g.toNat : Int)
          have HX1 := Lib.hid (show bits .or .i64 (N : Int) (wrap64 (T : Int)) = (N : Int) + T by rw [hW1, hOr])
          clear hg hst hN hgx hgx' hP hT hNT hb hb2 hW1 hW2 b3 b6 hxl hOr
          by_cases hg : (128 : Int) ≤ g.toNat
          · have HS1 := Lib.hid (HS.out.trans (if_pos (by omega)))
            go_wp2
            go_round
            case rel => exact ⟨k + 1, N + T, by omega, by go_num, by rw [HX1.out]; go_num, HNT.out, HS1.out⟩
            case measure => simp [intOf]; omega
          · have HS1 := Lib.hid (HS.out.trans (if_neg (by omega)))
            by_cases hk1 : (0 : Int) < k
            · by_cases hz : (g.toNat : Int) = 0
              · have HS2 := Lib.hid (HS1.out.trans (if_pos (Or.inl ⟨by omega, by omega⟩)))
                have hz2 : ((g.toNat : Int) == 0) = true := by simp; omega
                clear hz
                go_wp2
                go_ret3
                exact ⟨by rw [HS2.out]; rfl, rfl⟩
              · have hz2 : ((g.toNat : Int) == 0) = false := by simp; omega
                by_cases hmax : (1099511627776 : Int) < bits .or .i64 (N : Int) (wrap64 (T : Int))
                · have HS2 := Lib.hid (HS1.out.trans (if_pos (Or.inr (by rw [HX1.out] at hmax; omega))))
                  go_wp2
                  go_ret3
                  exact ⟨by rw [HS2.out]; rfl, rfl⟩
                · have HS2 := Lib.hid (HS1.out.trans (if_neg (by rw [HX1.out] at hmax; omega)))
                  go_wp2
                  go_ret3
                  refine ⟨?_, rfl⟩
                  rw [HS2.out]
                  simp [GvEnd, HX1.out]
                  omega
            · by_cases hmax : (1099511627776 : Int) < bits .or .i64 (N : Int) (wrap64 (T : Int))
              · have HS2 := Lib.hid (HS1.out.trans (if_pos (Or.inr (by rw [HX1.out] at hmax; omega))))
                go_wp2
                go_ret3
                exact ⟨by rw [HS2.out]; rfl, rfl⟩
              · have HS2 := Lib.hid (HS1.out.trans (if_neg (by rw [HX1.out] at hmax; omega)))
                go_wp2
                go_ret3
                refine ⟨?_, rfl⟩
                rw [HS2.out]
                simp [GvEnd, HX1.out]
                omega
        · have HS2 := Lib.hid (hg.trans (gv_end xs k N (Or.inr (by have := HM.out; rw [HXS.out, List.length_drop]; omega))))
          clear hg hN
          go_wp2
          go_ret3
          exact ⟨by rw [HS2.out]; rfl, rfl⟩
      · have HS2 := Lib.hid (hg.trans (gv_end xs k N (Or.inr (by have := HM.out; rw [HXS.out, List.length_drop]; omega))))
        clear hg hN
        go_wp2
        go_ret3
        exact ⟨by rw [HS2.out]; rfl, rfl⟩
    · have HS2 := Lib.hid (hg.trans (gv_end xs k N (Or.inl (by omega))))
      clear hg hN
      go_wp2
      go_ret3
      exact ⟨by rw [HS2.out]; rfl, rfl⟩

theorem rgetvar_all (A : Option Addr) (l c : Nat) (bs : List UInt8) (at_ : Int) (w : World) (hv : Bs w w.heap.size (.slice A l c) bs) (hl : l ≤ 1099511627776) (h63 : at_ ≤ 9223372036854775807) :
    Calls Try.prog 52 #[.slice A l c, .int .i64 at_] w fun e w' =>
      e = .returned (.tuple #[.int .i64 (gvR at_ bs).1, .int .i64 (gvR at_ bs).2.1, .int .i64 (gvR at_ bs).2.2]) ∧ w = w' := by
  by_cases h : at_ < 0
  · refine (rgetvar_bad A l c at_ w h).mono fun e w' ⟨he, hw⟩ => ⟨?_, hw⟩
    rw [he]; unfold gvR; rw [if_pos h]
  · obtain ⟨n, rfl⟩ := Int.eq_ofNat_of_zero_le (show 0 ≤ at_ by omega)
    exact (rgetvar_any A l c bs n w hv hl (by omega)).mono fun e w' ⟨he, hw⟩ => ⟨gvR_end n bs e he, hw⟩
end Go.Proofs.Ytjiampelmiaflaa
