/- What is proved here: octets.Get and shardqueueref01.Get read a number of a size, both by the same plain function. -/
import Derived.Test.YtoljknfmamkdpaaRpt
import Derived.Test.YtoljknfmamkdpaaBit
namespace Go.Proofs.Ytoljknfmamkdpaa
open Go.RowKit
set_option linter.unusedVariables false

/-- The number that bytes stand for, the highest one first. -/
def num (bs : List UInt8) : Nat := bs.foldl (fun n x => n * 256 + x.toNat) 0
theorem num_snoc (bs : List UInt8) (x : UInt8) : num (bs ++ [x]) = num bs * 256 + x.toNat := by simp [num]
theorem num_from : ∀ (bs : List UInt8) (a : Nat), bs.foldl (fun n x => n * 256 + x.toNat) a + 1 ≤ (a + 1) * 2 ^ (8 * bs.length)
  | [], a => by simp
  | x :: r, a => by
    have h := num_from r (a * 256 + x.toNat)
    have hx := x.toNat_lt
    rw [List.foldl_cons, List.length_cons, show 8 * (r.length + 1) = 8 * r.length + 8 by omega, Nat.pow_add, Nat.mul_comm (2 ^ (8 * r.length)), ← Nat.mul_assoc]
    exact Nat.le_trans h (Nat.mul_le_mul_right _ (by omega))
theorem num_lt (bs : List UInt8) : num bs < 2 ^ (8 * bs.length) := by
  have := num_from bs 0
  unfold num
  omega
theorem num_le (bs : List UInt8) (h : bs.length ≤ 5) : num bs < 1099511627776 :=
  Nat.lt_of_lt_of_le (num_lt bs) (Nat.le_trans (Nat.pow_le_pow_right (by omega) (show 8 * bs.length ≤ 40 by omega)) (by decide))

/-- What Get returns. -/
def gtR (at_ s : Int) (bs : List UInt8) : Int × Int :=
  if s < 1 ∨ 6 < s ∨ at_ < 0 then (0, 1) else if (bs.length : Int) < at_ + s then (0, 8) else (num ((bs.drop at_.toNat).take s.toNat), 0)

theorem or_byte (N g : Nat) (hN : N < 1099511627776) (hg : g < 256) : bits .or .i64 ((N : Int) * 256) (g : Int) = (N : Int) * 256 + g :=
  or_join 8 _ _ (by omega) (by omega) (by omega) (by omega) (by omega) (by omega)

set_option maxHeartbeats 4000000 in
set_option maxRecDepth 20000 in
theorem get_ok (A : Option Addr) (l c : Nat) (bs : List UInt8) (at_ s : Nat) (w : World) (hv : Bs w w.heap.size (.slice A l c) bs) (hl : l ≤ 1099511627776) (hs1 : 1 ≤ (s : Int)) (hs2 : (s : Int) ≤ 6) (hat : (at_ : Int) + s ≤ l) :
    Calls Try.prog 11 #[.slice A l c, .int .i64 at_, .int .i64 s] w fun e w' => e = .returned (.tuple #[.int .i64 (num ((bs.drop at_).take s)), .int .i64 0]) ∧ w = w' := by
  obtain ⟨i0, hi0, hz0, hz1, hz2⟩ := info_parts info_u8
  obtain ⟨hn, hlc, hm⟩ := hv.len
  have h0 : (0 : Int) ≤ at_ := by omega
  have hl' : (l : Int) ≤ 1099511627776 := by omega
  obtain ⟨t, ht⟩ : ∃ t : Nat, t = at_ + s := ⟨_, rfl⟩
  have hsum : (at_ : Int) + s = (t : Int) := by omega
  obtain ⟨A', hcut, hv'⟩ := run_window (P := Try.prog) 22 5 i0 Try.underlying22 hi0 hz1 hv .i64 .i64 at_ t (by omega) (by omega)
  have hts : t - at_ = s := by omega
  rw [hts] at hcut hv'
  obtain ⟨d, hd⟩ : ∃ d, d = c - at_ := ⟨_, rfl⟩
  rw [← hd] at hv' hcut
  obtain ⟨xs, hxs⟩ : ∃ xs, xs = (bs.drop at_).take s := ⟨_, rfl⟩
  rw [← hxs] at hv' ⊢
  have hxl : s = xs.length := hv'.len.1
  have HX := Lib.hid hxl
  have HV := Lib.hid hv'
  have hgt : ¬ ((l : Int) - s < at_) := by omega
  clear hv hl hn hlc hm hv' hd hxs ht hts hz0 hz1 hz2 hi0 hxl
  go_enter Try.func11, Try.ntmps11
  go_wp2_with fail
  refine (issize_yes _ _ hs1 hs2).mono ?_
  rintro e w1 ⟨rfl, rfl⟩
  go_wp2
  clear hcut hsum
  go_loop [8, 10, 31] (fun n _ i => ∃ k : Nat, k ≤ s ∧ i = .int .i64 k ∧ n = .int .i64 (num (xs.take k))) (fun _ _ i => s - (intOf i).toNat)
  case atStart => exact ⟨0, Nat.zero_le _, rfl, rfl⟩
  case round =>
    obtain ⟨k, hk, rfl, rfl⟩ := hrel
    by_cases hlt : k < s
    · obtain ⟨b, o, rfl, _, hb, hcell⟩ := HV.out.at_ hlt
      have hle := num_le (xs.take k) (by simp; omega)
      have htk := List.take_succ_eq_append_getElem hb
      obtain ⟨g, hgx⟩ : ∃ g, g = xs[k] := ⟨_, rfl⟩
      rw [← hgx] at hcell htk
      have HN := Lib.hid (show num (xs.take (k + 1)) = num (xs.take k) * 256 + g.toNat by rw [htk, num_snoc])
      obtain ⟨N, hN⟩ : ∃ N, N = num (xs.take k) := ⟨_, rfl⟩
      rw [← hN] at HN hle ⊢
      have hor := or_byte N g.toNat hle g.toNat_lt
      have b1 : (g.toNat : Int) ≤ 255 := by have := g.toNat_lt; clear hor; omega
      have b2 : (0 : Int) ≤ g.toNat := Int.natCast_nonneg _
      have b3 : (N : Int) ≤ 1099511627775 := by clear hor; omega
      have b4 : (0 : Int) ≤ (N : Int) := Int.natCast_nonneg _
      clear hle htk hgx hN hb
      go_wp2
      go_round
      case rel => exact ⟨k + 1, by omega, by go_num, by rw [HN.out]; go_num⟩
      case measure => simp [intOf]; omega
    · obtain rfl : k = s := by omega
      have HE := Lib.hid (show xs.take k = xs from List.take_of_length_le (by have := HX.out; omega))
      go_wp2
      go_ret2
      exact ⟨by rw [HE.out]; rfl, rfl⟩

theorem get_bad (A : Option Addr) (l c : Nat) (at_ s : Int) (w : World) (h : s < 1 ∨ 6 < s ∨ at_ < 0) :
    Calls Try.prog 11 #[.slice A l c, .int .i64 at_, .int .i64 s] w fun e w' => e = .returned (.tuple #[.int .i64 0, .int .i64 1]) ∧ w = w' := by
  by_cases hs : s < 1 ∨ 6 < s
  · clear h
    go_enter Try.func11, Try.ntmps11
    go_wp2_with fail
    refine (issize_no _ _ hs).mono ?_
    rintro e w1 ⟨rfl, rfl⟩
    clear hs
    go_wp2
    go_ret2
    exact ⟨rfl, rfl⟩
  · have hs1 : 1 ≤ s := by omega
    have hs2 : s ≤ 6 := by omega
    have hn : at_ < 0 := by omega
    clear h hs
    go_enter Try.func11, Try.ntmps11
    go_wp2_with fail
    refine (issize_yes _ _ hs1 hs2).mono ?_
    rintro e w1 ⟨rfl, rfl⟩
    go_wp2
    go_ret2
    exact ⟨rfl, rfl⟩

theorem get_short (A : Option Addr) (l c : Nat) (at_ s : Int) (w : World) (hl : (l : Int) ≤ 1099511627776) (hs1 : 1 ≤ s) (hs2 : s ≤ 6) (h0 : 0 ≤ at_) (h : (l : Int) - s < at_) :
    Calls Try.prog 11 #[.slice A l c, .int .i64 at_, .int .i64 s] w fun e w' => e = .returned (.tuple #[.int .i64 0, .int .i64 8]) ∧ w = w' := by
  go_enter Try.func11, Try.ntmps11
  go_wp2_with fail
  refine (issize_yes _ _ hs1 hs2).mono ?_
  rintro e w1 ⟨rfl, rfl⟩
  go_wp2
  go_ret2
  exact ⟨rfl, rfl⟩

theorem get_all (A : Option Addr) (l c : Nat) (bs : List UInt8) (at_ s : Int) (w : World) (hv : Bs w w.heap.size (.slice A l c) bs) (hl : l ≤ 1099511627776) :
    Calls Try.prog 11 #[.slice A l c, .int .i64 at_, .int .i64 s] w fun e w' => e = .returned (.tuple #[.int .i64 (gtR at_ s bs).1, .int .i64 (gtR at_ s bs).2]) ∧ w = w' := by
  have hn := hv.len.1
  unfold gtR
  by_cases h : s < 1 ∨ 6 < s ∨ at_ < 0
  · rw [if_pos h]
    exact get_bad A l c at_ s w h
  · rw [if_neg h]
    by_cases h2 : (bs.length : Int) < at_ + s
    · rw [if_pos h2]
      exact get_short A l c at_ s w (by omega) (by omega) (by omega) (by omega) (by omega)
    · rw [if_neg h2]
      obtain ⟨m, rfl⟩ := Int.eq_ofNat_of_zero_le (show 0 ≤ at_ by omega)
      obtain ⟨t, rfl⟩ := Int.eq_ofNat_of_zero_le (show 0 ≤ s by omega)
      rw [Int.toNat_natCast, Int.toNat_natCast]
      exact get_ok A l c bs m t w hv hl (by omega) (by omega) (by omega)

set_option maxHeartbeats 4000000 in
set_option maxRecDepth 20000 in
theorem rget_ok (A : Option Addr) (l c : Nat) (bs : List UInt8) (at_ s : Nat) (w : World) (hv : Bs w w.heap.size (.slice A l c) bs) (hl : l ≤ 1099511627776) (hs1 : 1 ≤ (s : Int)) (hs2 : (s : Int) ≤ 6) (hat : (at_ : Int) + s ≤ l) :
    Calls Try.prog 12 #[.slice A l c, .int .i64 at_, .int .i64 s] w fun e w' => e = .returned (.tuple #[.int .i64 (num ((bs.drop at_).take s)), .int .i64 0]) ∧ w = w' := by
  obtain ⟨hn, hlc, hm⟩ := hv.len
  have h0 : (0 : Int) ≤ at_ := by omega
  have hl' : (l : Int) ≤ 1099511627776 := by omega
  obtain ⟨xs, hxs⟩ : ∃ xs, xs = (bs.drop at_).take s := ⟨_, rfl⟩
  rw [← hxs]
  have hxl : xs.length = s := by rw [hxs]; simp; omega
  have HX := Lib.hid hxl
  have HXS := Lib.hid hxs
  have HV := Lib.hid hv
  have hg1 : ¬ ((l : Int) - at_ < s) := by omega
  have hg2 : ¬ (l < at_) := by omega
  clear hv hl hn hlc hm hxs hxl
  go_enter Try.func12, Try.ntmps12
  go_wp2
  go_loop [8, 9] (fun n i => ∃ k : Nat, k ≤ s ∧ i = .int .i64 k ∧ n = .int .i64 (num (xs.take k))) (fun _ i => s - (intOf i).toNat)
  case atStart => exact ⟨0, Nat.zero_le _, rfl, rfl⟩
  case round =>
    obtain ⟨k, hk, rfl, rfl⟩ := hrel
    by_cases hlt : k < s
    · obtain ⟨b, o, rfl, _, hb2, hcell⟩ := HV.out.at_ (show at_ + k < l by omega)
      have hb : k < xs.length := by have := HX.out; omega
      have hgx' : bs[at_ + k] = xs[k] := by
        have h1 : xs[k]? = bs[at_ + k]? := by rw [HXS.out, List.getElem?_take_of_lt hlt, List.getElem?_drop]
        rw [List.getElem?_eq_getElem hb, List.getElem?_eq_getElem hb2] at h1
        exact (Option.some.inj h1).symm
      rw [hgx'] at hcell
      have hle := num_le (xs.take k) (by simp; omega)
      have htk := List.take_succ_eq_append_getElem hb
      obtain ⟨g, hgx⟩ : ∃ g, g = xs[k] := ⟨_, rfl⟩
      rw [← hgx] at hcell htk
      have HN := Lib.hid (show num (xs.take (k + 1)) = num (xs.take k) * 256 + g.toNat by rw [htk, num_snoc])
      obtain ⟨N, hN⟩ : ∃ N, N = num (xs.take k) := ⟨_, rfl⟩
      rw [← hN] at HN hle ⊢
      have hor := or_byte N g.toNat hle g.toNat_lt
      have b1 : (g.toNat : Int) ≤ 255 := by have := g.toNat_lt; clear hor; omega
      have b2 : (0 : Int) ≤ g.toNat := Int.natCast_nonneg _
      have b3 : (N : Int) ≤ 1099511627775 := by clear hor; omega
      have b4 : (0 : Int) ≤ (N : Int) := Int.natCast_nonneg _
      clear hle htk hgx hgx' hN hb hb2
      go_wp2
      go_round
      case rel => exact ⟨k + 1, by omega, by go_num, by rw [HN.out]; go_num⟩
      case measure => simp [intOf]; omega
    · obtain rfl : k = s := by omega
      have HE := Lib.hid (show xs.take k = xs from List.take_of_length_le (by have := HX.out; omega))
      go_wp2
      go_ret2
      exact ⟨by rw [HE.out]; rfl, rfl⟩

theorem rget_bad (A : Option Addr) (l c : Nat) (at_ s : Int) (w : World) (h : s < 1 ∨ 6 < s ∨ at_ < 0) :
    Calls Try.prog 12 #[.slice A l c, .int .i64 at_, .int .i64 s] w fun e w' => e = .returned (.tuple #[.int .i64 0, .int .i64 1]) ∧ w = w' := by
  by_cases hs : s < 1
  · clear h
    go_enter Try.func12, Try.ntmps12
    go_wp2
    go_ret2
    exact ⟨rfl, rfl⟩
  · by_cases hs2 : 6 < s
    · clear h
      go_enter Try.func12, Try.ntmps12
      go_wp2
      go_ret2
      exact ⟨rfl, rfl⟩
    · have hn : at_ < 0 := by omega
      clear h
      go_enter Try.func12, Try.ntmps12
      go_wp2
      go_ret2
      exact ⟨rfl, rfl⟩

theorem rget_short (A : Option Addr) (l c : Nat) (at_ : Nat) (s : Int) (w : World) (hl : (l : Int) ≤ 1099511627776) (hs1 : 1 ≤ s) (hs2 : s ≤ 6) (h0 : (0 : Int) ≤ at_) (h : (l : Int) - at_ < s) :
    Calls Try.prog 12 #[.slice A l c, .int .i64 at_, .int .i64 s] w fun e w' => e = .returned (.tuple #[.int .i64 0, .int .i64 8]) ∧ w = w' := by
  by_cases hal : l < at_
  · clear h
    go_enter Try.func12, Try.ntmps12
    go_wp2
    go_ret2
    exact ⟨rfl, rfl⟩
  · go_enter Try.func12, Try.ntmps12
    go_wp2
    go_ret2
    exact ⟨rfl, rfl⟩

theorem rget_all (A : Option Addr) (l c : Nat) (bs : List UInt8) (at_ s : Int) (w : World) (hv : Bs w w.heap.size (.slice A l c) bs) (hl : l ≤ 1099511627776) :
    Calls Try.prog 12 #[.slice A l c, .int .i64 at_, .int .i64 s] w fun e w' => e = .returned (.tuple #[.int .i64 (gtR at_ s bs).1, .int .i64 (gtR at_ s bs).2]) ∧ w = w' := by
  have hn := hv.len.1
  unfold gtR
  by_cases h : s < 1 ∨ 6 < s ∨ at_ < 0
  · rw [if_pos h]
    exact rget_bad A l c at_ s w h
  · rw [if_neg h]
    obtain ⟨m, rfl⟩ := Int.eq_ofNat_of_zero_le (show 0 ≤ at_ by omega)
    by_cases h2 : (bs.length : Int) < m + s
    · rw [if_pos h2]
      exact rget_short A l c m s w (by omega) (by omega) (by omega) (by omega) (by omega)
    · rw [if_neg h2]
      obtain ⟨t, rfl⟩ := Int.eq_ofNat_of_zero_le (show 0 ≤ s by omega)
      rw [Int.toNat_natCast, Int.toNat_natCast]
      exact rget_ok A l c bs m t w hv hl (by omega) (by omega) (by omega)
end Go.Proofs.Ytoljknfmamkdpaa
