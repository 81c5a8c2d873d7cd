/- What is proved here: shardqueueref01.PutVar, by one contract for all arguments. -/
import Derived.Test.YtjiampelmiaflaaBas
import Derived.Test.YtjiampelmiaflaaGrd
import Derived.RegionTactic
import Derived.BigQuiet
namespace Go.Proofs.Ytjiampelmiaflaa
open Go.RowKit
set_option linter.unusedVariables false

theorem rputvar_bad (v : Value) (n : Int) (w : World) (hn : n < 0 ∨ 1099511627776 < n) :
    Calls Try.prog 46 #[v, .int .i64 n] w fun e w' => e = .returned (.tuple #[.slice none 0 0, .int .i64 1]) ∧ w = w' := by
  rcases hn with hn | hn
  · go_enter Try.func46, Try.ntmps46
    go_wp2
    go_ret2
    exact ⟨rfl, rfl⟩
  · have h : ¬ n < 0 := by omega
    go_enter Try.func46, Try.ntmps46
    go_wp2
    go_ret2
    exact ⟨rfl, rfl⟩

set_option maxHeartbeats 2000000 in
set_option maxRecDepth 20000 in
theorem rputvar_ok (A : Option Addr) (l c : Nat) (bs : List UInt8) (n : Nat) (w : World) (hv : Bs w w.heap.size (.slice A l c) bs) (hl : bs.length ≤ 1099511627000) (hn : n ≤ 1099511627776) :
    Calls Try.prog 46 #[.slice A l c, .int .i64 n] w fun e w' =>
      ∃ v', e = .returned (.tuple #[v', .int .i64 0]) ∧ w'.ownsRow w.heap.size 5 1 v' (bs ++ groups 5 n).length ((bs ++ groups 5 n).map oct) ∧ Below w.heap.size w w' := by
  obtain ⟨i0, hi0, hz0, hz1, hz2⟩ := info_parts info_u8
  have h0 : (0 : Int) ≤ n := by omega
  have hn' : (n : Int) ≤ 1099511627776 := by omega
  obtain ⟨A', c', he, _, _, hr⟩ := hv
  injection he with e1 e2 e3
  subst e1; subst e2; subst e3
  have HR := Lib.hid hr
  have HL := Lib.hid hl
  have HN := Lib.hid hn
  clear hr hl hn
  go_enter Try.func46, Try.ntmps46
  go_wp2_with (at_builtin; refine wpList_append_rd _ rfl _ _ 41 rfl w.heap.size 5 i0 _ 1 1 Try.underlying41 hi0 hz0 hz1 hz2 rfl (by omega) _ _ _ rfl (World.ownsRow_nil _ _ _ _) _ _ _ _ _ rfl HR.out (oct_one _) (by have := HL.out; unfold maxLen; omega) (by have := HL.out; omega) (by omega) ?_; intro v2 w2 hown2 hg2 _)
  simp only [Nat.zero_add, List.nil_append] at hown2
  have HO2 := Lib.hid hown2
  have HB2 := Lib.hid ((Below.refl _ _).grown hg2 (Nat.le_refl _) (fun k hk => (World.ownsRow.lt (World.ownsRow_nil w w.heap.size 5 1) k hk).1))
  clear hown2 hg2
  go_wp2
  go_loopw [1, 6] (fun q s wr => ∃ (m f : Nat) (fs : List UInt8), q = .int .i64 m ∧ fs ++ groups f m = bs ++ groups 5 n ∧ m ≤ 1099511627776 ∧ m < 128 * 128 ^ f ∧ fs.length + f = bs.length + 5 ∧ wr.ownsRow w.heap.size 5 1 s fs.length (fs.map oct) ∧ Below w.heap.size w wr) (fun q _ _ => (intOf q).toNat)
  case atStart => exact ⟨n, 5, bs, rfl, rfl, HN.out, by have := HN.out; omega, rfl, HO2.out, HB2.out⟩
  case round =>
    obtain ⟨m, f, fs, rfl, hg, hm, hp, hf, hown, hbel⟩ := hrel
    obtain ⟨A6, c6, rfl⟩ := own_form hown
    have HG := Lib.hid hg
    have HF := Lib.hid hf
    have HO := Lib.hid hown
    have HB := Lib.hid hbel
    have hsz := hbel.size
    have hm' : (m : Int) ≤ 1099511627776 := by omega
    have HM := Lib.hid hm
    have HP := Lib.hid hp
    clear hg hf hown hbel hm hp
    by_cases hlt : (m : Int) < 128
    · go_wp2_with (at_builtin; refine wpList_append_rd _ rfl _ _ 41 rfl w.heap.size 5 i0 _ 1 1 Try.underlying41 hi0 hz0 hz1 hz2 rfl (by omega) _ _ _ rfl (HO.out.alloc _) _ _ _ _ _ rfl (Rd.fresh wr _ _) (by intro u hu; simp at hu; subst hu; rfl) (by have := HF.out; have := HL.out; unfold maxLen; simp; omega) (by have := HF.out; have := HL.out; simp; omega) (by simp; omega) ?_; intro v3 w3 hown3 hg3 _)
      have HO3 := Lib.hid hown3
      have HB3 := Lib.hid ((HB.out.alloc hsz _).grown hg3 (by simp; omega) (fun g hg => (World.ownsRow.lt HO.out g hg).1))
      clear hown3 hg3
      have HG1 := Lib.hid (show fs ++ [UInt8.ofNat m] = bs ++ groups 5 n by
        rw [← HG.out]
        congr 1
        cases f with
        | zero => rfl
        | succ f => unfold groups; rw [if_pos (by omega)])
      have HO4 := Lib.hid (show w3.ownsRow w.heap.size 5 1 v3 (bs ++ groups 5 n).length ((bs ++ groups 5 n).map oct) by
        rw [← HG1.out, List.map_append, List.map_cons, List.map_nil, oct_of _ (by omega)]
        simpa using HO3.out)
      go_ret2
      exact ⟨v3, rfl, by simpa using HO4.out, HB3.out⟩
    · have hb1 := i64_and127 (m : Int)
      have hb2 := or_128 ((m : Int) % 128) (by omega) (by omega)
      go_wp2_with (at_builtin; refine wpList_append_rd _ rfl _ _ 41 rfl w.heap.size 5 i0 _ 1 1 Try.underlying41 hi0 hz0 hz1 hz2 rfl (by omega) _ _ _ rfl (HO.out.alloc _) _ _ _ _ _ rfl (Rd.fresh wr _ _) (by intro u hu; simp at hu; subst hu; rfl) (by have := HF.out; have := HL.out; unfold maxLen; simp; omega) (by have := HF.out; have := HL.out; simp; omega) (by simp; omega) ?_; intro v3 w3 hown3 hg3 _)
      cases f with
      | zero => have := HP.out; omega
      | succ f =>
        have HO3 := Lib.hid hown3
        have HG3 := Lib.hid hg3
        clear hown3 hg3 hb1 hb2
        go_roundw
        case rel =>
          refine ⟨m / 128, f, fs ++ [UInt8.ofNat (m % 128 + 128)], by go_num, ?_, ?_, ?_, ?_, ?_, ?_⟩
          · rw [← HG.out]
            conv => rhs; unfold groups
            rw [if_neg (by omega)]
            simp
          · have := HM.out; omega
          · have := HP.out; rw [Nat.pow_succ] at this; omega
          · have := HF.out; simp; omega
          · have h := HO3.out
            rw [List.map_append, List.map_cons, List.map_nil, oct_of _ (by omega)]
            simpa using h
          · exact ((HB.out.alloc hsz _).grown HG3.out (by simp; omega) (fun g hg => (World.ownsRow.lt HO.out g hg).1))
        case measure => simp [intOf]; omega

theorem rputvar_all (A : Option Addr) (l c : Nat) (bs : List UInt8) (n : Int) (w : World) (hv : Bs w w.heap.size (.slice A l c) bs) (hl : bs.length ≤ 1099511627000) :
    Calls Try.prog 46 #[.slice A l c, .int .i64 n] w (Put2 w (pvB bs n) (pvE n)) := by
  by_cases h : 0 ≤ n ∧ n ≤ 1099511627776
  · obtain ⟨m, rfl⟩ := Int.eq_ofNat_of_zero_le h.1
    refine (rputvar_ok A l c bs m w hv hl (by omega)).mono fun e w' ⟨v, he, ho, hb⟩ => ⟨v, ?_, ?_, hb⟩
    · unfold pvE; rw [if_pos h]; exact he
    · unfold pvB; rw [if_pos h, Int.toNat_natCast]; exact Bs.of_own ho
  · refine (rputvar_bad (.slice A l c) n w (by omega)).mono fun e w' ⟨he, hw⟩ => ⟨.slice none 0 0, ?_, ?_, ?_⟩
    · unfold pvE; rw [if_neg h]; exact he
    · unfold pvB; rw [if_neg h]; exact Bs.nil
    · subst hw; exact Below.refl _ _
end Go.Proofs.Ytjiampelmiaflaa
