/- What is proved here: octets.PutVar, by one contract for all arguments. -/
import Derived.Test.YtjiampelmiaflaaCat
import Derived.Test.YtjiampelmiaflaaGrd
import Derived.RegionTactic
import Derived.BigQuiet
namespace Go.Proofs.Ytjiampelmiaflaa
open Go.RowKit
set_option linter.unusedVariables false

set_option maxHeartbeats 2000000 in
set_option maxRecDepth 20000 in
theorem putvar_ok (A : Option Addr) (l c : Nat) (bs : List UInt8) (n : Nat) (w : World) (hv : Bs w w.heap.size (.slice A l c) bs) (hl : bs.length ≤ 1099511627000) (hn : n ≤ 1099511627776) :
    Calls Try.prog 44 #[.slice A l c, .int .i64 n] w fun e w' =>
      ∃ v', e = .returned (.tuple #[v', .int .i64 0]) ∧ w'.ownsRow w.heap.size 5 1 v' (bs ++ groups 5 n).length ((bs ++ groups 5 n).map oct) ∧ Below w.heap.size w w' := by
  obtain ⟨i0, hi0, hz0, hz1, hz2⟩ := info_parts info_u8
  have h0 : (0 : Int) ≤ n := by omega
  have hn' : (n : Int) ≤ 1099511627776 := by omega
  have HV := Lib.hid hv
  have HL := Lib.hid hl
  have HN := Lib.hid hn
  clear hv hl hn
  go_enter Try.func44, Try.ntmps44
  go_wp2
  go_loopw [1, 6] (fun q s wr => ∃ (m f : Nat) (fs : List UInt8), q = .int .i64 m ∧ fs ++ groups f m = groups 5 n ∧ m ≤ 1099511627776 ∧ m < 128 * 128 ^ f ∧ fs.length + f = 5 ∧ wr.ownsRow w.heap.size 5 1 s fs.length (fs.map oct) ∧ Below w.heap.size w wr) (fun q _ _ => (intOf q).toNat)
  case atStart => exact ⟨n, 5, [], rfl, rfl, HN.out, by have := HN.out; omega, rfl, World.ownsRow_nil _ _ _ _, Below.refl _ _⟩
  case round =>
    obtain ⟨m, f, fs, rfl, hg, hm, hp, hf, hown, hbel⟩ := hrel
    obtain ⟨A6, c6, rfl⟩ := own_form hown
    have HG := Lib.hid hg
    have HF := Lib.hid hf
    have HO := Lib.hid hown
    have HB := Lib.hid hbel
    have hsz := hbel.size
    have hm' : (m : Int) ≤ 1099511627776 := by omega
    have HM := Lib.hid hm
    have HP := Lib.hid hp
    clear hg hf hown hbel hm hp
    by_cases hlt : (m : Int) < 128
    · have HB1 := Lib.hid (HB.out.alloc (o := .cells #[.int .u8 (m : Int)] 5) hsz)
      have h0' : Bs (wr.alloc (.cells #[.int .u8 (m : Int)] 5)) (wr.alloc (.cells #[.int .u8 (m : Int)] 5)).heap.size (.slice A l c) bs := (HV.out.below HB1.out).more HB1.out.size
      have h1' : Bs (wr.alloc (.cells #[.int .u8 (m : Int)] 5)) (wr.alloc (.cells #[.int .u8 (m : Int)] 5)).heap.size (.slice A6 fs.length c6) fs := ((Bs.of_own HO.out).alloc (Nat.le_refl _) _).more (by simp)
      have h2' : Bs (wr.alloc (.cells #[.int .u8 (m : Int)] 5)) (wr.alloc (.cells #[.int .u8 (m : Int)] 5)).heap.size (.slice (some ⟨wr.heap.size, 0, none⟩) 1 1) [UInt8.ofNat m] := by
        have h := Bs.fresh wr [UInt8.ofNat m] 5 (by simp [maxLen])
        simp only [List.map_cons, List.map_nil] at h
        rw [oct_of m (by omega)] at h
        simpa using h
      have HC := Lib.hid (concat3 (wr.heap.size + 1) 3 _ _ _ bs fs [UInt8.ofNat m] (wr.alloc (.cells #[.int .u8 (m : Int)] 5)) (by simp) h0' h1' h2' (by have := HL.out; have := HF.out; simp; omega))
      have HG1 := Lib.hid (show bs ++ fs ++ [UInt8.ofNat m] = bs ++ groups 5 n by
        rw [← HG.out, List.append_assoc]
        congr 2
        cases f with
        | zero => rfl
        | succ f => unfold groups; rw [if_pos (by omega)])
      clear h0' h1' h2'
      go_wp2_with fail
      refine HC.out.mono ?_
      rintro e w1 ⟨v1, rfl, hown1, hb1⟩
      have HO1 := Lib.hid (own_low hown1 HB1.out.size)
      have HB2 := Lib.hid (HB1.out.trans (hb1.mono HB1.out.size))
      clear hown1 hb1
      go_wp2
      go_ret2
      exact ⟨v1, rfl, by have := HO1.out; rwa [HG1.out] at this, HB2.out⟩
    · go_wp2_with (at_builtin; refine wpList_append_rd _ rfl _ _ 41 rfl w.heap.size 5 i0 _ 1 1 Try.underlying41 hi0 hz0 hz1 hz2 rfl (by omega) _ _ _ rfl (HO.out.alloc _) _ _ _ _ _ rfl (Rd.fresh wr _ _) (by intro u hu; simp at hu; subst hu; rfl) (by have := HF.out; unfold maxLen; simp; omega) (by have := HF.out; simp; omega) (by simp; omega) ?_; intro v2 w2 hown2 hg2 _)
      cases f with
      | zero => have := HP.out; omega
      | succ f =>
        have HO2 := Lib.hid hown2
        have HG2 := Lib.hid hg2
        clear hown2 hg2
        go_roundw
        case rel =>
          refine ⟨m / 128, f, fs ++ [UInt8.ofNat (m % 128 + 128)], by go_num, ?_, ?_, ?_, ?_, ?_, ?_⟩
          · rw [← HG.out]
            conv => rhs; unfold groups
            rw [if_neg (by omega)]
            simp
          · have := HM.out; omega
          · have := HP.out; rw [Nat.pow_succ] at this; omega
          · have := HF.out; simp; omega
          · have h := HO2.out
            rw [List.map_append, List.map_cons, List.map_nil, oct_of _ (by omega)]
            simpa using h
          · exact ((HB.out.alloc hsz _).grown HG2.out (by simp; omega) (fun g hg => (World.ownsRow.lt HO.out g hg).1))
        case measure => simp [intOf]; omega

theorem putvar_bad (v : Value) (n : Int) (w : World) (hn : n < 0 ∨ 1099511627776 < n) :
    Calls Try.prog 44 #[v, .int .i64 n] w fun e w' => e = .returned (.tuple #[.slice none 0 0, .int .i64 1]) ∧ w = w' := by
  rcases hn with hn | hn
  · go_enter Try.func44, Try.ntmps44
    go_wp2
    go_ret2
    exact ⟨rfl, rfl⟩
  · have h : ¬ n < 0 := by omega
    go_enter Try.func44, Try.ntmps44
    go_wp2
    go_ret2
    exact ⟨rfl, rfl⟩

theorem putvar_all (A : Option Addr) (l c : Nat) (bs : List UInt8) (n : Int) (w : World) (hv : Bs w w.heap.size (.slice A l c) bs) (hl : bs.length ≤ 1099511627000) :
    Calls Try.prog 44 #[.slice A l c, .int .i64 n] w (Put2 w (pvB bs n) (pvE n)) := by
  by_cases h : 0 ≤ n ∧ n ≤ 1099511627776
  · obtain ⟨m, rfl⟩ := Int.eq_ofNat_of_zero_le h.1
    refine (putvar_ok A l c bs m w hv hl (by omega)).mono fun e w' ⟨v, he, ho, hb⟩ => ⟨v, ?_, ?_, hb⟩
    · unfold pvE; rw [if_pos h]; exact he
    · unfold pvB; rw [if_pos h, Int.toNat_natCast]; exact Bs.of_own ho
  · refine (putvar_bad (.slice A l c) n w (by omega)).mono fun e w' ⟨he, hw⟩ => ⟨.slice none 0 0, ?_, ?_, ?_⟩
    · unfold pvE; rw [if_neg h]; exact he
    · unfold pvB; rw [if_neg h]; exact Bs.nil
    · subst hw; exact Below.refl _ _
end Go.Proofs.Ytjiampelmiaflaa
