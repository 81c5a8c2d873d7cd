/- What is proved here: octets.Get and shardqueueref01.Get read a number of a size, both by the same plain function; (plain functions) the bytes of a receipt handle, and what is read back from bytes; (plain functions) one byte that differs makes another hash, and a receipt handle with one changed byte is not read. -/
import Derived.Test.YtkkgfnncdaiooaaJ01
import Derived.Test.YtkkgfnncdaiooaaJ02
namespace Go.Proofs.Ytkkgfnncdaiooaa
open Go.RowKit
set_option linter.unusedVariables false

/-- The number that bytes stand for, the highest one first. -/
def num (bs : List UInt8) : Nat := bs.foldl (fun n x => n * 256 + x.toNat) 0
theorem num_snoc (bs : List UInt8) (x : UInt8) : num (bs ++ [x]) = num bs * 256 + x.toNat := by simp [num]
theorem num_from : ∀ (bs : List UInt8) (a : Nat), bs.foldl (fun n x => n * 256 + x.toNat) a + 1 ≤ (a + 1) * 2 ^ (8 * bs.length)
  | [], a => by simp
  | x :: r, a => by
    have h := num_from r (a * 256 + x.toNat)
    have hx := x.toNat_lt
    rw [List.foldl_cons, List.length_cons, show 8 * (r.length + 1) = 8 * r.length + 8 by omega, Nat.pow_add, Nat.mul_comm (2 ^ (8 * r.length)), ← Nat.mul_assoc]
    exact Nat.le_trans h (Nat.mul_le_mul_right _ (by omega))
theorem num_lt (bs : List UInt8) : num bs < 2 ^ (8 * bs.length) := by
  have := num_from bs 0
  unfold num
  omega
theorem num_le (bs : List UInt8) (h : bs.length ≤ 5) : num bs < 1099511627776 :=
  Nat.lt_of_lt_of_le (num_lt bs) (Nat.le_trans (Nat.pow_le_pow_right (by omega) (show 8 * bs.length ≤ 40 by omega)) (by decide))

/-- What Get returns. -/
def gtR (at_ s : Int) (bs : List UInt8) : Int × Int :=
  if s < 1 ∨ 6 < s ∨ at_ < 0 then (0, 1) else if (bs.length : Int) < at_ + s then (0, 8) else (num ((bs.drop at_.toNat).take s.toNat), 0)

theorem or_byte (N g : Nat) (hN : N < 1099511627776) (hg : g < 256) : bits .or .i64 ((N : Int) * 256) (g : Int) = (N : Int) * 256 + g :=
  or_join 8 _ _ (by omega) (by omega) (by omega) (by omega) (by omega) (by omega)

set_option maxHeartbeats 4000000 in
set_option maxRecDepth 20000 in
theorem get_ok (A : Option Addr) (l c : Nat) (bs : List UInt8) (at_ s : Nat) (w : World) (hv : Bs w w.heap.size (.slice A l c) bs) (hl : l ≤ 1099511627776) (hs1 : 1 ≤ (s : Int)) (hs2 : (s : Int) ≤ 6) (hat : (at_ : Int) + s ≤ l) :
    Calls Try.prog 20 #[.slice A l c, .int .i64 at_, .int .i64 s] w fun e w' => e = .returned (.tuple #[.int .i64 (num ((bs.drop at_).take s)), .int .i64 0]) ∧ w = w' := by
  obtain ⟨i0, hi0, hz0, hz1, hz2⟩ := info_parts info_u8
  obtain ⟨hn, hlc, hm⟩ := hv.len
  have h0 : (0 : Int) ≤ at_ := by omega
  have hl' : (l : Int) ≤ 1099511627776 := by omega
  obtain ⟨t, ht⟩ : ∃ t : Nat, t = at_ + s := ⟨_, rfl⟩
  have hsum : (at_ : Int) + s = (t : Int) := by omega
  obtain ⟨A', hcut, hv'⟩ := run_window (P := Try.prog) 24 5 i0 Try.underlying24 hi0 hz1 hv .i64 .i64 at_ t (by omega) (by omega)
  have hts : t - at_ = s := by omega
  rw [hts] at hcut hv'
  obtain ⟨d, hd⟩ : ∃ d, d = c - at_ := ⟨_, rfl⟩
  rw [← hd] at hv' hcut
  obtain ⟨xs, hxs⟩ : ∃ xs, xs = (bs.drop at_).take s := ⟨_, rfl⟩
  rw [← hxs] at hv' ⊢
  have hxl : s = xs.length := hv'.len.1
  have HX := Lib.hid hxl
  have HV := Lib.hid hv'
  have hgt : ¬ ((l : Int) - s < at_) := by omega
  clear hv hl hn hlc hm hv' hd hxs ht hts hz0 hz1 hz2 hi0 hxl
  go_enter Try.func20, Try.ntmps20
  go_wp2_with fail
  refine (issize_yes _ _ hs1 hs2).mono ?_
  rintro e w1 ⟨rfl, rfl⟩
  go_wp2
  clear hcut hsum
  go_loop [8, 10, 31] (fun n _ i => ∃ k : Nat, k ≤ s ∧ i = .int .i64 k ∧ n = .int .i64 (num (xs.take k))) (fun _ _ i => s - (intOf i).toNat)
  case atStart => exact ⟨0, Nat.zero_le _, rfl, rfl⟩
  case round =>
    obtain ⟨k, hk, rfl, rfl⟩ := hrel
    by_cases hlt : k < s
    · obtain ⟨b, o, rfl, _, hb, hcell⟩ := HV.out.at_ hlt
      have hle := num_le (xs.take k) (by simp; omega)
      have htk := List.take_succ_eq_append_getElem hb
      obtain ⟨g, hgx⟩ : ∃ g, g = xs[k] := ⟨_, rfl⟩
      rw [← hgx] at hcell htk
      have HN := Lib.hid (show num (xs.take (k + 1)) = num (xs.take k) * 256 + g.toNat by rw [htk, num_snoc])
      obtain ⟨N, hN⟩ : ∃ N, N = num (xs.take k) := ⟨_, rfl⟩
      rw [← hN] at HN hle ⊢
      have hor := or_byte N g.toNat hle g.toNat_lt
      have b1 : (g.toNat : Int) ≤ 255 := by have := g.toNat_lt; clear hor; omega
      have b2 : (0 : Int) ≤ g.toNat := Int.natCast_nonneg _
      have b3 : (N : Int) ≤ 1099511627775 := by clear hor; omega
      have b4 : (0 : Int) ≤ (N : Int) := Int.natCast_nonneg _
      clear hle htk hgx hN hb
      go_wp2
      go_round
      case rel => exact ⟨k + 1, by omega, by go_num, by rw [HN.out]; go_num⟩
      case measure => simp [intOf]; omega
    · obtain rfl : k = s := by omega
      have HE := Lib.hid (show xs.take k = xs from List.take_of_length_le (by have := HX.out; omega))
      go_wp2
      go_ret2
      exact ⟨by rw [HE.out]; rfl, rfl⟩

theorem get_bad (A : Option Addr) (l c : Nat) (at_ s : Int) (w : World) (h : s < 1 ∨ 6 < s ∨ at_ < 0) :
    Calls Try.prog 20 #[.slice A l c, .int .i64 at_, .int .i64 s] w fun e w' => e = .returned (.tuple #[.int .i64 0, .int .i64 1]) ∧ w = w' := by
  by_cases hs : s < 1 ∨ 6 < s
  · clear h
    go_enter Try.func20, Try.ntmps20
    go_wp2_with fail
    refine (issize_no _ _ hs).mono ?_
    rintro e w1 ⟨rfl, rfl⟩
    clear hs
    go_wp2
    go_ret2
    exact ⟨rfl, rfl⟩
  · have hs1 : 1 ≤ s := by omega
    have hs2 : s ≤ 6 := by omega
    have hn : at_ < 0 := by omega
    clear h hs
    go_enter Try.func20, Try.ntmps20
    go_wp2_with fail
    refine (issize_yes _ _ hs1 hs2).mono ?_
    rintro e w1 ⟨rfl, rfl⟩
    go_wp2
    go_ret2
    exact ⟨rfl, rfl⟩

theorem get_short (A : Option Addr) (l c : Nat) (at_ s : Int) (w : World) (hl : (l : Int) ≤ 1099511627776) (hs1 : 1 ≤ s) (hs2 : s ≤ 6) (h0 : 0 ≤ at_) (h : (l : Int) - s < at_) :
    Calls Try.prog 20 #[.slice A l c, .int .i64 at_, .int .i64 s] w fun e w' => e = .returned (.tuple #[.int .i64 0, .int .i64 8]) ∧ w = w' := by
  go_enter Try.func20, Try.ntmps20
  go_wp2_with fail
  refine (issize_yes _ _ hs1 hs2).mono ?_
  rintro e w1 ⟨rfl, rfl⟩
  go_wp2
  go_ret2
  exact ⟨rfl, rfl⟩

theorem get_all (A : Option Addr) (l c : Nat) (bs : List UInt8) (at_ s : Int) (w : World) (hv : Bs w w.heap.size (.slice A l c) bs) (hl : l ≤ 1099511627776) :
    Calls Try.prog 20 #[.slice A l c, .int .i64 at_, .int .i64 s] w fun e w' => e = .returned (.tuple #[.int .i64 (gtR at_ s bs).1, .int .i64 (gtR at_ s bs).2]) ∧ w = w' := by
  have hn := hv.len.1
  unfold gtR
  by_cases h : s < 1 ∨ 6 < s ∨ at_ < 0
  · rw [if_pos h]
    exact get_bad A l c at_ s w h
  · rw [if_neg h]
    by_cases h2 : (bs.length : Int) < at_ + s
    · rw [if_pos h2]
      exact get_short A l c at_ s w (by omega) (by omega) (by omega) (by omega) (by omega)
    · rw [if_neg h2]
      obtain ⟨m, rfl⟩ := Int.eq_ofNat_of_zero_le (show 0 ≤ at_ by omega)
      obtain ⟨t, rfl⟩ := Int.eq_ofNat_of_zero_le (show 0 ≤ s by omega)
      rw [Int.toNat_natCast, Int.toNat_natCast]
      exact get_ok A l c bs m t w hv hl (by omega) (by omega) (by omega)

set_option maxHeartbeats 4000000 in
set_option maxRecDepth 20000 in
theorem rget_ok (A : Option Addr) (l c : Nat) (bs : List UInt8) (at_ s : Nat) (w : World) (hv : Bs w w.heap.size (.slice A l c) bs) (hl : l ≤ 1099511627776) (hs1 : 1 ≤ (s : Int)) (hs2 : (s : Int) ≤ 6) (hat : (at_ : Int) + s ≤ l) :
    Calls Try.prog 22 #[.slice A l c, .int .i64 at_, .int .i64 s] w fun e w' => e = .returned (.tuple #[.int .i64 (num ((bs.drop at_).take s)), .int .i64 0]) ∧ w = w' := by
  obtain ⟨hn, hlc, hm⟩ := hv.len
  have h0 : (0 : Int) ≤ at_ := by omega
  have hl' : (l : Int) ≤ 1099511627776 := by omega
  obtain ⟨xs, hxs⟩ : ∃ xs, xs = (bs.drop at_).take s := ⟨_, rfl⟩
  rw [← hxs]
  have hxl : xs.length = s := by rw [hxs]; simp; omega
  have HX := Lib.hid hxl
  have HXS := Lib.hid hxs
  have HV := Lib.hid hv
  have hg1 : ¬ ((l : Int) - at_ < s) := by omega
  have hg2 : ¬ (l < at_) := by omega
  clear hv hl hn hlc hm hxs hxl
  go_enter Try.func22, Try.ntmps22
  go_wp2
  go_loop [8, 9] (fun n i => ∃ k : Nat, k ≤ s ∧ i = .int .i64 k ∧ n = .int .i64 (num (xs.take k))) (fun _ i => s - (intOf i).toNat)
  case atStart => exact ⟨0, Nat.zero_le _, rfl, rfl⟩
  case round =>
    obtain ⟨k, hk, rfl, rfl⟩ := hrel
    by_cases hlt : k < s
    · obtain ⟨b, o, rfl, _, hb2, hcell⟩ := HV.out.at_ (show at_ + k < l by omega)
      have hb : k < xs.length := by have := HX.out; omega
      have hgx' : bs[at_ + k] = xs[k] := by
        have h1 : xs[k]? = bs[at_ + k]? := by rw [HXS.out, List.getElem?_take_of_lt hlt, List.getElem?_drop]
        rw [List.getElem?_eq_getElem hb, List.getElem?_eq_getElem hb2] at h1
        exact (Option.some.inj h1).symm
      rw [hgx'] at hcell
      have hle := num_le (xs.take k) (by simp; omega)
      have htk := List.take_succ_eq_append_getElem hb
      obtain ⟨g, hgx⟩ : ∃ g, g = xs[k] := ⟨_, rfl⟩
      rw [← hgx] at hcell htk
      have HN := Lib.hid (show num (xs.take (k + 1)) = num (xs.take k) * 256 + g.toNat by rw [htk, num_snoc])
      obtain ⟨N, hN⟩ : ∃ N, N = num (xs.take k) := ⟨_, rfl⟩
      rw [← hN] at HN hle ⊢
      have hor := or_byte N g.toNat hle g.toNat_lt
      have b1 : (g.toNat : Int) ≤ 255 := by have := g.toNat_lt; clear hor; omega
      have b2 : (0 : Int) ≤ g.toNat := Int.natCast_nonneg _
      have b3 : (N : Int) ≤ 1099511627775 := by clear hor; omega
      have b4 : (0 : Int) ≤ (N : Int) := Int.natCast_nonneg _
      clear hle htk hgx hgx' hN hb hb2
      go_wp2
      go_round
      case rel => exact ⟨k + 1, by omega, by go_num, by rw [HN.out]; go_num⟩
      case measure => simp [intOf]; omega
    · obtain rfl : k = s := by omega
      have HE := Lib.hid (show xs.take k = xs from List.take_of_length_le (by have := HX.out; omega))
      go_wp2
      go_ret2
      exact ⟨by rw [HE.out]; rfl, rfl⟩

theorem rget_bad (A : Option Addr) (l c : Nat) (at_ s : Int) (w : World) (h : s < 1 ∨ 6 < s ∨ at_ < 0) :
    Calls Try.prog 22 #[.slice A l c, .int .i64 at_, .int .i64 s] w fun e w' => e = .returned (.tuple #[.int .i64 0, .int .i64 1]) ∧ w = w' := by
  by_cases hs : s < 1
  · clear h
    go_enter Try.func22, Try.ntmps22
    go_wp2
    go_ret2
    exact ⟨rfl, rfl⟩
  · by_cases hs2 : 6 < s
    · clear h
      go_enter Try.func22, Try.ntmps22
      go_wp2
      go_ret2
      exact ⟨rfl, rfl⟩
    · have hn : at_ < 0 := by omega
      clear h
      go_enter Try.func22, Try.ntmps22
      go_wp2
      go_ret2
      exact ⟨rfl, rfl⟩

theorem rget_short (A : Option Addr) (l c : Nat) (at_ : Nat) (s : Int) (w : World) (hl : (l : Int) ≤ 1099511627776) (hs1 : 1 ≤ s) (hs2 : s ≤ 6) (h0 : (0 : Int) ≤ at_) (h : (l : Int) - at_ < s) :
    Calls Try.prog 22 #[.slice A l c, .int .i64 at_, .int .i64 s] w fun e w' => e = .returned (.tuple #[.int .i64 0, .int .i64 8]) ∧ w = w' := by
  by_cases hal : l < at_
  · clear h
    go_enter Try.func22, Try.ntmps22
    go_wp2
    go_ret2
    exact ⟨rfl, rfl⟩
  · go_enter Try.func22, Try.ntmps22
    go_wp2
    go_ret2
    exact ⟨rfl, rfl⟩

theorem rget_all (A : Option Addr) (l c : Nat) (bs : List UInt8) (at_ s : Int) (w : World) (hv : Bs w w.heap.size (.slice A l c) bs) (hl : l ≤ 1099511627776) :
    Calls Try.prog 22 #[.slice A l c, .int .i64 at_, .int .i64 s] w fun e w' => e = .returned (.tuple #[.int .i64 (gtR at_ s bs).1, .int .i64 (gtR at_ s bs).2]) ∧ w = w' := by
  have hn := hv.len.1
  unfold gtR
  by_cases h : s < 1 ∨ 6 < s ∨ at_ < 0
  · rw [if_pos h]
    exact rget_bad A l c at_ s w h
  · rw [if_neg h]
    obtain ⟨m, rfl⟩ := Int.eq_ofNat_of_zero_le (show 0 ≤ at_ by omega)
    by_cases h2 : (bs.length : Int) < m + s
    · rw [if_pos h2]
      exact rget_short A l c m s w (by omega) (by omega) (by omega) (by omega) (by omega)
    · rw [if_neg h2]
      obtain ⟨t, rfl⟩ := Int.eq_ofNat_of_zero_le (show 0 ≤ s by omega)
      rw [Int.toNat_natCast, Int.toNat_natCast]
      exact rget_ok A l c bs m t w hv hl (by omega) (by omega) (by omega)
end Go.Proofs.Ytkkgfnncdaiooaa
namespace Go.Proofs.Ytkkgfnncdaiooaa
open Go.RowKit
set_option linter.unusedVariables false

/-- A receipt handle's numbers. -/
structure Hq where
  id : Int
  gn : Int
  rt : Int
  ht : Int
abbrev Hq.v (h : Hq) : Value := .agg #[.int .i64 h.id, .int .i64 h.gn, .int .i64 h.rt, .int .i64 h.ht]
abbrev zq : Hq := ⟨0, 0, 0, 0⟩
theorem Hq.ext4 {a b : Hq} (h0 : a.id = b.id) (h1 : a.gn = b.gn) (h2 : a.rt = b.rt) (h3 : a.ht = b.ht) : a = b := by
  cases a; cases b; simp_all
def HqR (h : Hq) : Prop := (1 ≤ h.id ∧ h.id ≤ 1073741824) ∧ (1 ≤ h.gn ∧ h.gn ≤ 65536) ∧ (0 ≤ h.rt ∧ h.rt ≤ 65535) ∧ (0 ≤ h.ht ∧ h.ht ≤ 5)
instance (h : Hq) : Decidable (HqR h) := by unfold HqR; exact inferInstance
/-- The first bytes: in steps. -/
def hq1 (h : Hq) : List UInt8 := [113] ++ be 4 h.id.toNat
def hq2 (h : Hq) : List UInt8 := hq1 h ++ be 3 h.gn.toNat
def hq3 (h : Hq) : List UInt8 := hq2 h ++ be 2 h.rt.toNat
def hq4 (h : Hq) : List UInt8 := hq3 h ++ be 1 h.ht.toNat
def hq12 (h : Hq) : List UInt8 := hq4 h ++ [0]
def hq16 (h : Hq) : List UInt8 := hq12 h ++ be 4 (fnv (90 :: hq12 h))
theorem hq1_len (h : Hq) : (hq1 h).length = 5 := by simp [hq1, be_length]
theorem hq2_len (h : Hq) : (hq2 h).length = 8 := by simp [hq2, hq1_len, be_length]
theorem hq3_len (h : Hq) : (hq3 h).length = 10 := by simp [hq3, hq2_len, be_length]
theorem hq4_len (h : Hq) : (hq4 h).length = 11 := by simp [hq4, hq3_len, be_length]
theorem hq12_len (h : Hq) : (hq12 h).length = 12 := by simp [hq12, hq4_len]
theorem hq16_len (h : Hq) : (hq16 h).length = 16 := by simp [hq16, hq12_len, be_length]
/-- What Encode returns. -/
def hqB (h : Hq) : List UInt8 := if HqR h then hq16 h else []
def hqE (h : Hq) : Int := if HqR h then 0 else 1
theorem hqB_yes {h : Hq} (hr : HqR h) : hqB h = hq16 h := if_pos hr
theorem hqE_yes {h : Hq} (hr : HqR h) : hqE h = 0 := if_pos hr
theorem hqB_no {h : Hq} (hr : ¬ HqR h) : hqB h = [] := if_neg hr
theorem hqE_no {h : Hq} (hr : ¬ HqR h) : hqE h = 1 := if_neg hr
/-- The numbers that Parse reads. -/
def rdq (bs : List UInt8) : Hq := ⟨(gtR 1 4 bs).1, (gtR 5 3 bs).1, (gtR 8 2 bs).1, (gtR 10 1 bs).1⟩
def PqR (bs : List UInt8) : Prop := HqR (rdq bs) ∧ hq16 (rdq bs) = bs
instance (bs : List UInt8) : Decidable (PqR bs) := by unfold PqR; exact inferInstance
/-- What Parse returns. -/
def pqH (bs : List UInt8) : Hq := if PqR bs then rdq bs else zq
def pqE (bs : List UInt8) : Int := if PqR bs then 0 else 8
theorem pq_no {bs : List UInt8} (h : ¬ PqR bs) : pqH bs = zq ∧ pqE bs = 8 := ⟨if_neg h, if_neg h⟩
theorem pq_yes {bs : List UInt8} (h : PqR bs) : pqH bs = rdq bs ∧ pqE bs = 0 := ⟨if_pos h, if_pos h⟩
theorem pqr_len {bs : List UInt8} (h : PqR bs) : bs.length = 16 := by rw [← h.2, hq16_len]

theorem num_be1 (n : Nat) (h : n < 256) : num (be 1 n) = n := by
  have e : be 1 n = [UInt8.ofNat n] := by simp [be, List.range_succ]
  rw [e]
  simp only [num, List.foldl_cons, List.foldl_nil, UInt8.toNat_ofNat', Nat.zero_mul, Nat.zero_add]
  omega
theorem num_be2 (n : Nat) (h : n < 65536) : num (be 2 n) = n := by
  have e : be 2 n = [UInt8.ofNat (n / 256), UInt8.ofNat n] := by simp [be, List.range_succ]
  rw [e]
  simp only [num, List.foldl_cons, List.foldl_nil, UInt8.toNat_ofNat', Nat.zero_mul, Nat.zero_add]
  omega
theorem num_be3 (n : Nat) (h : n < 16777216) : num (be 3 n) = n := by
  have e : be 3 n = [UInt8.ofNat (n / 65536), UInt8.ofNat (n / 256), UInt8.ofNat n] := by simp [be, List.range_succ]
  rw [e]
  simp only [num, List.foldl_cons, List.foldl_nil, UInt8.toNat_ofNat', Nat.zero_mul, Nat.zero_add]
  omega
theorem num_be4 (n : Nat) (h : n < 4294967296) : num (be 4 n) = n := by
  have e : be 4 n = [UInt8.ofNat (n / 16777216), UInt8.ofNat (n / 65536), UInt8.ofNat (n / 256), UInt8.ofNat n] := by simp [be, List.range_succ]
  rw [e]
  simp only [num, List.foldl_cons, List.foldl_nil, UInt8.toNat_ofNat', Nat.zero_mul, Nat.zero_add]
  omega
/-- What is read from a text that is cut out of longer ones. -/
theorem gtR_in (a b c : List UInt8) (p s : Nat) (hp : a.length = p) (hs : b.length = s) (h1 : 1 ≤ s) (h6 : s ≤ 6) : gtR p s (a ++ b ++ c) = ((num b : Int), 0) := by
  subst hp
  subst hs
  unfold gtR
  rw [if_neg (by omega), if_neg (by simp; omega)]
  have e : ((a ++ b ++ c).drop ((a.length : Int)).toNat).take ((b.length : Int)).toNat = b := by
    rw [Int.toNat_natCast, Int.toNat_natCast, List.append_assoc, List.drop_left', List.take_left'] <;> rfl
  rw [e]
theorem rdq_hq (h : Hq) (hr : HqR h) : rdq (hq16 h) = h := by
  obtain ⟨⟨i0, i1⟩, ⟨g0, g1⟩, ⟨r0, r1⟩, t0, t1⟩ := hr
  have e1 : gtR 1 4 (hq16 h) = ((num (be 4 h.id.toNat) : Int), 0) := by
    have := gtR_in [113] (be 4 h.id.toNat) (be 3 h.gn.toNat ++ be 2 h.rt.toNat ++ be 1 h.ht.toNat ++ [0] ++ be 4 (fnv (90 :: hq12 h))) 1 4 rfl (be_length _ _) (by omega) (by omega)
    rw [show [113] ++ be 4 h.id.toNat ++ (be 3 h.gn.toNat ++ be 2 h.rt.toNat ++ be 1 h.ht.toNat ++ [0] ++ be 4 (fnv (90 :: hq12 h))) = hq16 h by simp only [hq16, hq12, hq4, hq3, hq2, hq1, List.append_assoc]] at this
    exact this
  have e2 : gtR 5 3 (hq16 h) = ((num (be 3 h.gn.toNat) : Int), 0) := by
    have := gtR_in (hq1 h) (be 3 h.gn.toNat) (be 2 h.rt.toNat ++ be 1 h.ht.toNat ++ [0] ++ be 4 (fnv (90 :: hq12 h))) 5 3 (hq1_len h) (be_length _ _) (by omega) (by omega)
    rw [show hq1 h ++ be 3 h.gn.toNat ++ (be 2 h.rt.toNat ++ be 1 h.ht.toNat ++ [0] ++ be 4 (fnv (90 :: hq12 h))) = hq16 h by simp only [hq16, hq12, hq4, hq3, hq2, List.append_assoc]] at this
    exact this
  have e3 : gtR 8 2 (hq16 h) = ((num (be 2 h.rt.toNat) : Int), 0) := by
    have := gtR_in (hq2 h) (be 2 h.rt.toNat) (be 1 h.ht.toNat ++ [0] ++ be 4 (fnv (90 :: hq12 h))) 8 2 (hq2_len h) (be_length _ _) (by omega) (by omega)
    rw [show hq2 h ++ be 2 h.rt.toNat ++ (be 1 h.ht.toNat ++ [0] ++ be 4 (fnv (90 :: hq12 h))) = hq16 h by simp only [hq16, hq12, hq4, hq3, List.append_assoc]] at this
    exact this
  have e4 : gtR 10 1 (hq16 h) = ((num (be 1 h.ht.toNat) : Int), 0) := by
    have := gtR_in (hq3 h) (be 1 h.ht.toNat) ([0] ++ be 4 (fnv (90 :: hq12 h))) 10 1 (hq3_len h) (be_length _ _) (by omega) (by omega)
    rw [show hq3 h ++ be 1 h.ht.toNat ++ ([0] ++ be 4 (fnv (90 :: hq12 h))) = hq16 h by simp only [hq16, hq12, hq4, List.append_assoc]] at this
    exact this
  unfold rdq
  rw [e1, e2, e3, e4]
  refine Hq.ext4 ?_ ?_ ?_ ?_
  · show ((num (be 4 h.id.toNat) : Nat) : Int) = h.id
    rw [num_be4 _ (by omega)]; omega
  · show ((num (be 3 h.gn.toNat) : Nat) : Int) = h.gn
    rw [num_be3 _ (by omega)]; omega
  · show ((num (be 2 h.rt.toNat) : Nat) : Int) = h.rt
    rw [num_be2 _ (by omega)]; omega
  · show ((num (be 1 h.ht.toNat) : Nat) : Int) = h.ht
    rw [num_be1 _ (by omega)]; omega
theorem pqr_hq {h : Hq} (hr : HqR h) : PqR (hq16 h) := by
  unfold PqR
  rw [rdq_hq h hr]
  exact ⟨hr, rfl⟩
/-- What is written is read back. -/
theorem pq_hq {h : Hq} (hr : HqR h) : pqH (hq16 h) = h ∧ pqE (hq16 h) = 0 := by
  obtain ⟨h1, h2⟩ := pq_yes (pqr_hq hr)
  rw [rdq_hq h hr] at h1
  exact ⟨h1, h2⟩
/-- Different handles have different texts. -/
theorem hq16_inj {a b : Hq} (ha : HqR a) (hb : HqR b) (e : hq16 a = hq16 b) : a = b := by
  rw [← rdq_hq a ha, e, rdq_hq b hb]
theorem pq_len {bs : List UInt8} (h : bs.length ≠ 16) : pqH bs = zq ∧ pqE bs = 8 := pq_no fun hp => h (pqr_len hp)
end Go.Proofs.Ytkkgfnncdaiooaa
namespace Go.Proofs.Ytkkgfnncdaiooaa
open Go.RowKit
set_option linter.unusedVariables false

theorem xor_back (a c : Nat) : (a ^^^ c) ^^^ c = a := by rw [Nat.xor_assoc, Nat.xor_self, Nat.xor_zero]
theorem xor_front (a c : Nat) : a ^^^ (a ^^^ c) = c := by rw [← Nat.xor_assoc, Nat.xor_self, Nat.zero_xor]

theorem times_back (x : Nat) (hx : x < 4294967296) : (x * 16777619 % 4294967296) * 899433627 % 4294967296 = x := by
  rw [Nat.mod_mul_mod]
  omega
theorem times_odd (x y : Nat) (hx : x < 4294967296) (hy : y < 4294967296) (h : x * 16777619 % 4294967296 = y * 16777619 % 4294967296) : x = y := by
  rw [← times_back x hx, h, times_back y hy]
theorem toNat_byte (n : Nat) (h : n < 256) : (UInt8.ofNat n).toNat = n := by simp; omega

theorem fst1_left (h h' b : Nat) (hh : h < 4294967296) (hh' : h' < 4294967296) (hb : b < 256) (e : fst1 h b = fst1 h' b) : h = h' := by
  have := times_odd (h ^^^ b) (h' ^^^ b) (Nat.xor_lt_two_pow (n := 32) (by omega) (by omega)) (Nat.xor_lt_two_pow (n := 32) (by omega) (by omega)) e
  rw [← xor_back h b, this, xor_back]
theorem fst1_right (h b b' : Nat) (hh : h < 4294967296) (hb : b < 256) (hb' : b' < 256) (e : fst1 h b = fst1 h b') : b = b' := by
  have := times_odd (h ^^^ b) (h ^^^ b') (Nat.xor_lt_two_pow (n := 32) (by omega) (by omega)) (Nat.xor_lt_two_pow (n := 32) (by omega) (by omega)) e
  rw [← xor_front h b, this, xor_front]

theorem fnvOn_inj (bs : List UInt8) (h h' : Nat) (hh : h < 4294967296) (hh' : h' < 4294967296) (e : fnvOn h bs = fnvOn h' bs) : h = h' := by
  induction bs generalizing h h' with
  | nil => exact e
  | cons b r ih => exact fst1_left h h' b.toNat hh hh' (UInt8.toNat_lt b) (ih _ _ (fst1_lt _ _) (fst1_lt _ _) e)

theorem fnvOn_set (bs : List UInt8) (h k : Nat) (z : UInt8) (hh : h < 4294967296) (hk : k < bs.length) (hz : z ≠ bs[k]) : fnvOn h (bs.set k z) ≠ fnvOn h bs := by
  induction bs generalizing h k with
  | nil => simp at hk
  | cons b r ih =>
    cases k with
    | zero =>
      intro e
      have := fst1_right h z.toNat b.toNat hh (UInt8.toNat_lt z) (UInt8.toNat_lt b) (fnvOn_inj r _ _ (fst1_lt _ _) (fst1_lt _ _) e)
      exact hz (UInt8.toNat_inj.1 this)
    | succ k => exact ih (fst1 h b.toNat) k (fst1_lt _ _) (by simpa using hk) (by simpa using hz)

theorem fnv_cons (b : UInt8) (bs : List UInt8) : fnv (b :: bs) = fnvOn (fst1 2166136261 b.toNat) bs := rfl

theorem set_ne (bs : List UInt8) (k : Nat) (z : UInt8) (hk : k < bs.length) (hz : z ≠ bs[k]) : (bs.set k z == bs) = false := by
  have : bs.set k z ≠ bs := fun e => hz (by
    have h := congrArg (fun l => l[k]?) e
    simpa [hk] using h)
  simpa using this

theorem xor_u8 (a b : Nat) (ha : a < 256) (hb : b < 256) : bits .xor .u8 (a : Int) (b : Int) = ((a ^^^ b : Nat) : Int) := by
  have hx : a ^^^ b < 2 ^ 8 := Nat.xor_lt_two_pow (by omega) (by omega)
  have e : ∀ n : Nat, n < 256 → (BitVec.ofInt 8 (n : Int)).toNat = n := fun n hn => by rw [BitVec.ofInt_natCast, BitVec.toNat_ofNat]; exact Nat.mod_eq_of_lt (by omega)
  show IntKind.u8.wrap ((BitVec.ofInt 8 (a : Int) ^^^ BitVec.ofInt 8 (b : Int)).toNat : Int) = _
  rw [BitVec.toNat_xor, e a ha, e b hb]
  unfold IntKind.wrap
  simp [IntKind.bits, IntKind.signed]
  omega

theorem be4_inj {a b : Nat} (ha : a < 4294967296) (hb : b < 4294967296) (e : be 4 a = be 4 b) : a = b := by
  rw [← num_be4 a ha, e, num_be4 b hb]
/-- One byte of a receipt handle that differs: it is not read. -/
theorem forged {h : Hq} (hr : HqR h) (k : Nat) (hk : k < 16) (z : UInt8) (hz : ∀ hk' : k < (hq16 h).length, z ≠ (hq16 h)[k]) : ¬ PqR ((hq16 h).set k z) := by
  rintro ⟨h1, h2⟩
  generalize rdq ((hq16 h).set k z) = g at *
  have l16 := hq16_len h
  have hz' := hz (by omega)
  by_cases hk12 : k < 12
  · have e : (hq16 h).set k z = (hq12 h).set k z ++ be 4 (fnv (90 :: hq12 h)) := by
      unfold hq16
      rw [List.set_append_left _ _ (by rw [hq12_len]; exact hk12)]
    rw [e] at h2
    unfold hq16 at h2
    obtain ⟨h3, h4⟩ := List.append_inj h2 (by rw [List.length_set, hq12_len, hq12_len])
    have h5 := be4_inj (fnv_lt _) (fnv_lt _) h4
    rw [h3, fnv_cons, fnv_cons] at h5
    refine fnvOn_set (hq12 h) _ k z (fst1_lt _ _) (by rw [hq12_len]; exact hk12) ?_ h5
    intro e1
    refine hz' ?_
    rw [e1]
    simp only [hq16]
    rw [List.getElem_append_left (by rw [hq12_len]; exact hk12)]
  · have e : (hq16 h).set k z = hq12 h ++ (be 4 (fnv (90 :: hq12 h))).set (k - 12) z := by
      have := List.set_append_right (s := hq12 h) (t := be 4 (fnv (90 :: hq12 h))) k z (by rw [hq12_len]; omega)
      rw [hq12_len] at this
      exact this
    rw [e] at h2
    unfold hq16 at h2
    obtain ⟨h3, h4⟩ := List.append_inj h2 (by rw [hq12_len, hq12_len])
    rw [h3] at h4
    have h5 : k - 12 < (be 4 (fnv (90 :: hq12 h))).length := by rw [be_length]; omega
    have h6 := congrArg (fun l => l[k - 12]?) h4
    simp only [List.getElem?_set_self h5] at h6
    rw [List.getElem?_eq_getElem h5] at h6
    injection h6 with h6
    refine hz' ?_
    rw [← h6]
    simp only [hq16]
    rw [List.getElem_append_right (by rw [hq12_len]; omega)]
    simp only [hq12_len]
theorem forged_pq {h : Hq} (hr : HqR h) (k : Nat) (hk : k < 16) (z : UInt8) (hz : ∀ hk' : k < (hq16 h).length, z ≠ (hq16 h)[k]) : pqH ((hq16 h).set k z) = zq ∧ pqE ((hq16 h).set k z) = 8 := pq_no (forged hr k hk z hz)
end Go.Proofs.Ytkkgfnncdaiooaa
