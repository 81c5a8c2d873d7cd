/- What is proved here: shardqueueref02.Sum returns the hash of the bytes; shardqueueref01.Put, by one contract for all arguments; shardqueueref02.Check returns the hash of the bytes behind the mark. -/
import Derived.Test.YtkkgfnncdaiooaaJ01
import Derived.Test.YtkkgfnncdaiooaaJ02
import Derived.Laws.ShiftsVarLaws
namespace Go.Proofs.Ytkkgfnncdaiooaa
open Go.RowKit
set_option linter.unusedVariables false

set_option maxRecDepth 20000 in
theorem rsum_any (A : Option Addr) (l c : Nat) (bs : List UInt8) (w : World) (hv : Bs w w.heap.size (.slice A l c) bs) (hl : bs.length ≤ 1099511627776) :
    Calls Try.prog 26 #[.slice A l c] w fun e w' => e = .returned (.int .i64 (fnv bs)) ∧ w = w' := by
  obtain ⟨rfl, hlc, hm⟩ := hv.len
  have hL : (bs.length : Int) ≤ 9223372036854775806 := by omega
  have HV := Lib.hid hv
  have HA := Lib.hid and_ffffffff
  clear hv hlc hm
  go_enter Try.func26, Try.ntmps26
  go_wp2
  go_loop [3, 4] (fun h i => ∃ k : Nat, k ≤ bs.length ∧ i = .int .i64 k ∧ h = .int .i64 (fnv (bs.take k))) (fun _ i => bs.length - (intOf i).toNat)
  case atStart => exact ⟨0, Nat.zero_le _, rfl, rfl⟩
  case round =>
    obtain ⟨k, hk, rfl, rfl⟩ := hrel
    by_cases hlt : k < bs.length
    · obtain ⟨b, o, rfl, _, hb, hc⟩ := HV.out.at_ hlt
      have HT := Lib.hid (fnv_take bs k hlt)
      obtain ⟨h, hh⟩ : ∃ h, h = fnv (bs.take k) := ⟨_, rfl⟩
      obtain ⟨y, hy⟩ : ∃ y, y = bs[k].toNat := ⟨_, rfl⟩
      have h32 : h < 4294967296 := by rw [hh]; exact fnv_lt _
      have y8 : y < 256 := by rw [hy]; exact UInt8.toNat_lt _
      have hx := xor_i64 h y (by omega) (by omega)
      have HX := Lib.hid (show fst1 h y = (h ^^^ y) * 16777619 % 4294967296 from rfl)
      obtain ⟨x, hx'⟩ : ∃ x, x = h ^^^ y := ⟨_, rfl⟩
      have x32 : x < 4294967296 := by rw [hx']; exact Nat.xor_lt_two_pow (n := 32) (by omega) (by omega)
      rw [← hx'] at hx HX
      rw [← hh, ← hy] at HT
      rw [← hy] at hc
      rw [← hh]
      have ha := and_ffffffff ((x : Int) * 16777619)
      have h32' : (h : Int) ≤ 4294967295 := by omega
      have y8' : (y : Int) ≤ 255 := by omega
      have x32' : (x : Int) ≤ 4294967295 := by omega
      clear hx' hh hy h32 y8 x32
      go_wp2
      go_round
      case rel => exact ⟨k + 1, by omega, by go_num, by rw [HT.out, HX.out]; go_num⟩
      case measure => simp [intOf]; omega
    · obtain rfl : k = bs.length := by omega
      go_wp2
      go_ret
      exact ⟨rfl, rfl⟩
end Go.Proofs.Ytkkgfnncdaiooaa
namespace Go.Proofs.Ytkkgfnncdaiooaa
open Go.RowKit
set_option linter.unusedVariables false

set_option maxHeartbeats 2000000 in
set_option maxRecDepth 20000 in
theorem rput_ok (A : Option Addr) (l c : Nat) (bs : List UInt8) (n s : Nat) (w : World) (hv : Bs w w.heap.size (.slice A l c) bs) (hl : bs.length ≤ 1099511627000) (hs1 : 1 ≤ (s : Int)) (hs2 : (s : Int) ≤ 6) (hn : n < 2 ^ (8 * s)) :
    Calls Try.prog 18 #[.slice A l c, .int .i64 n, .int .i64 s] w fun e w' =>
      ∃ v', e = .returned (.tuple #[v', .int .i64 0]) ∧ w'.ownsRow w.heap.size 5 1 v' (bs ++ be s n).length ((bs ++ be s n).map oct) ∧ Below w.heap.size w w' := by
  obtain ⟨i0, hi0, hz0, hz1, hz2⟩ := info_parts info_u8
  have h0 : (0 : Int) ≤ n := by omega
  have hp := pow_le48 s (by omega)
  have hw : ¬ (wrap64 (2 ^ (8 * s)) ≤ (n : Int)) := by
    obtain ⟨h1, h2, h3⟩ := hp
    rw [IntWalk.wrap64_in _ (by omega), ← h3]
    omega
  have hn63 : (n : Int) ≤ 281474976710656 := by
    obtain ⟨h1, h2, h3⟩ := hp
    rw [← h3] at h1
    omega
  obtain ⟨rfl, _, _⟩ := hv.len
  have HR := Lib.hid hv.rd
  have HL := Lib.hid hl
  clear hv hl hn hp
  go_enter Try.func18, Try.ntmps18
  go_wp2_with (at_builtin; refine wpList_append_rd _ rfl _ _ 24 rfl w.heap.size 5 i0 _ 1 1 Try.underlying24 hi0 hz0 hz1 hz2 rfl (by omega) _ _ _ rfl (World.ownsRow_nil _ _ _ _) _ _ _ _ _ rfl HR.out (oct_one _) (by have := HL.out; unfold maxLen; omega) (by have := HL.out; omega) (by omega) ?_; intro v2 w2 hown2 hg2 _)
  simp only [Nat.zero_add, List.nil_append] at hown2
  have HO2 := Lib.hid hown2
  have HB2 := Lib.hid ((Below.refl _ _).grown hg2 (Nat.le_refl _) (fun k hk => (World.ownsRow.lt (World.ownsRow_nil w w.heap.size 5 1) k hk).1))
  clear hown2 hg2 hw
  go_wp2
  go_loopw [8, 9] (fun o i wr => ∃ j : Nat, j ≤ s ∧ i = .int .i64 ((j : Int) - 1) ∧ wr.ownsRow w.heap.size 5 1 o (bs ++ (be s n).take (s - j)).length ((bs ++ (be s n).take (s - j)).map oct) ∧ Below w.heap.size w wr) (fun _ i _ => (intOf i + 1).toNat)
  case atStart => exact ⟨s, Nat.le_refl _, rfl, by simpa using HO2.out, HB2.out⟩
  case round =>
    obtain ⟨j, hj, rfl, hown, hbel⟩ := hrel
    obtain ⟨A6, c6, rfl⟩ := own_form hown
    have HB := Lib.hid hbel
    have hsz := hbel.size
    cases j with
    | zero =>
      have HO := Lib.hid hown
      have HE := Lib.hid (show (be s n).take (s - 0) = be s n from List.take_of_length_le (by rw [be_length]; omega))
      clear hown hbel
      go_wp2
      go_ret2
      exact ⟨_, rfl, by have := HO.out; rw [HE.out] at this; simpa [show min s (be s n).length = (be s n).length by rw [be_length]; omega] using this, HB.out⟩
    | succ j =>
      have hj1 : ((j + 1 : Nat) : Int) - 1 = (j : Int) := by omega
      rw [hj1]
      have HT := Lib.hid (be_take s n j hj)
      have hlen : ((be s n).take (s - (j + 1))).length ≤ 6 := by simp [be_length]; omega
      have HO := Lib.hid hown
      have HE := Lib.hid hlen
      have hj5 : (j : Int) ≤ 5 := by omega
      clear hown hbel hj1 hlen
      go_wp2_with (at_builtin; refine wpList_append_rd _ rfl _ _ 24 rfl w.heap.size 5 i0 _ 1 1 Try.underlying24 hi0 hz0 hz1 hz2 rfl (by omega) _ _ _ rfl (HO.out.alloc _) _ _ _ _ _ rfl (Rd.fresh wr _ _) (by intro u hu; simp at hu; subst hu; rfl) (by have := HE.out; have := HL.out; unfold maxLen; simp at *; omega) (by have := HE.out; have := HL.out; simp at *; omega) (by simp; omega) ?_; intro v3 w3 hown3 hg3 _)
      have HO3 := Lib.hid hown3
      have HB3 := Lib.hid ((HB.out.alloc hsz _).grown hg3 (by simp; omega) (fun g hg => (World.ownsRow.lt HO.out g hg).1))
      clear hown3 hg3
      go_roundw
      case rel =>
        refine ⟨j, by omega, rfl, ?_, HB3.out⟩
        rw [HT.out, ← List.append_assoc, List.map_append, List.map_cons, List.map_nil, oct_mod]
        simpa [Nat.add_assoc] using HO3.out
      case measure => simp [intOf]

theorem rput_bad (v : Value) (n s : Int) (w : World) (h : s < 1 ∨ 6 < s ∨ n < 0 ∨ 2 ^ (8 * s.toNat) ≤ n) :
    Calls Try.prog 18 #[v, .int .i64 n, .int .i64 s] w fun e w' => e = .returned (.tuple #[.slice none 0 0, .int .i64 1]) ∧ w = w' := by
  by_cases hs : s < 1
  · clear h
    go_enter Try.func18, Try.ntmps18
    go_wp2
    go_ret2
    exact ⟨rfl, rfl⟩
  · by_cases hs2 : 6 < s
    · clear h
      go_enter Try.func18, Try.ntmps18
      go_wp2
      go_ret2
      exact ⟨rfl, rfl⟩
    · by_cases hn : n < 0
      · clear h
        go_enter Try.func18, Try.ntmps18
        go_wp2
        go_ret2
        exact ⟨rfl, rfl⟩
      · have h' : 2 ^ (8 * s.toNat) ≤ n := by omega
        obtain ⟨S, rfl⟩ := Int.eq_ofNat_of_zero_le (show 0 ≤ s by omega)
        rw [Int.toNat_natCast] at h'
        have hp := pow_le48 S (by omega)
        have hw : wrap64 (2 ^ (8 * S)) ≤ n := by
          obtain ⟨h1, h2, h3⟩ := hp
          rw [IntWalk.wrap64_in _ (by omega)]
          exact h'
        clear h hp h'
        go_enter Try.func18, Try.ntmps18
        go_wp2
        go_ret2
        exact ⟨rfl, rfl⟩

theorem rput_all (A : Option Addr) (l c : Nat) (bs : List UInt8) (n s : Int) (w : World) (hv : Bs w w.heap.size (.slice A l c) bs) (hl : bs.length ≤ 1099511627000) :
    Calls Try.prog 18 #[.slice A l c, .int .i64 n, .int .i64 s] w (Put2 w (ptB bs n s) (ptE n s)) := by
  by_cases h : 1 ≤ s ∧ s ≤ 6 ∧ 0 ≤ n ∧ n < 2 ^ (8 * s.toNat)
  · have hk : ptOk n s = true := decide_eq_true h
    obtain ⟨h1, h2, h3, h4⟩ := h
    obtain ⟨m, rfl⟩ := Int.eq_ofNat_of_zero_le h3
    obtain ⟨t, rfl⟩ := Int.eq_ofNat_of_zero_le (show 0 ≤ s by omega)
    rw [Int.toNat_natCast] at h4
    refine (rput_ok A l c bs m t w hv hl h1 h2 (by exact_mod_cast h4)).mono fun e w' ⟨v, he, ho, hb⟩ => ⟨v, ?_, ?_, hb⟩
    · unfold ptE; rw [if_pos hk]; exact he
    · unfold ptB; rw [if_pos hk, Int.toNat_natCast, Int.toNat_natCast]; exact Bs.of_own ho
  · have hk : ¬ ptOk n s = true := by unfold ptOk; simpa using h
    refine (rput_bad (.slice A l c) n s w (by omega)).mono fun e w' ⟨he, hw⟩ => ⟨.slice none 0 0, ?_, ?_, ?_⟩
    · unfold ptE; rw [if_neg hk]; exact he
    · unfold ptB; rw [if_neg hk]; exact Bs.nil
    · subst hw; exact Below.refl _ _
end Go.Proofs.Ytkkgfnncdaiooaa
namespace Go.Proofs.Ytkkgfnncdaiooaa
open Go.RowKit
set_option linter.unusedVariables false

theorem rcheck_any (A : Option Addr) (l c : Nat) (bs : List UInt8) (w : World) (hv : Bs w w.heap.size (.slice A l c) bs) (hl : bs.length ≤ 1099511627000) :
    Calls Try.prog 19 #[.slice A l c] w fun e w' => e = .returned (.int .i64 (fnv (90 :: bs))) ∧ Below w.heap.size w w' := by
  obtain ⟨i0, hi0, hz0, hz1, hz2⟩ := info_parts info_u8
  obtain ⟨rfl, hlc, hm⟩ := hv.len
  have hown : (w.alloc (.cells #[.int .u8 90] 5)).ownsRow w.heap.size 5 1 (.slice (some ⟨w.heap.size, 0, none⟩) 1 1) 1 ([(90 : UInt8)].map oct) := World.ownsRow_lit w #[.int .u8 90] 1 (Nat.le_refl _) (by unfold maxLen; omega) rfl
  have HO := Lib.hid hown
  have HR := Lib.hid (hv.alloc (Nat.le_refl _) (.cells #[.int .u8 90] 5)).rd
  have HL := Lib.hid hl
  have HB := Lib.hid ((Below.refl w.heap.size w).alloc (Nat.le_refl _) (.cells #[.int .u8 90] 5))
  clear hv hlc hm hl hown
  go_enter Try.func19, Try.ntmps19
  go_wp2_with (at_builtin; refine wpList_append_rd _ rfl _ _ 24 rfl w.heap.size 5 i0 _ 1 1 Try.underlying24 hi0 hz0 hz1 hz2 rfl (by omega) _ _ _ rfl HO.out w.heap.size A _ _ _ rfl HR.out (oct_one _) (by have := HL.out; unfold maxLen; omega) (by have := HL.out; omega) (by simp) ?_; intro v2 w2 hown2 hg2 _)
  have HO2 := Lib.hid (Bs.of_own (bs := 90 :: bs) (v := v2) (w := w2) (by simpa using hown2))
  have HB2 := Lib.hid (HB.out.grown hg2 (by simp) (fun g hg => (World.ownsRow.lt HO.out g hg).1))
  obtain ⟨A2, c2, rfl⟩ := own_form hown2
  clear hown2 hg2
  go_wp2_with fail
  refine (rsum_any _ _ _ _ _ HO2.out (by have := HL.out; simp; omega)).mono ?_
  rintro e w3 ⟨rfl, rfl⟩
  go_wp2
  go_ret
  exact ⟨rfl, HB2.out⟩
end Go.Proofs.Ytkkgfnncdaiooaa
