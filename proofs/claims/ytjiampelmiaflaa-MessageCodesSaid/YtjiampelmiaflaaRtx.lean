/- What is proved here: shardqueueref01.PutText, by one contract for all arguments. -/
import Derived.Test.YtjiampelmiaflaaBas
import Derived.Test.YtjiampelmiaflaaTxd
import Derived.Test.YtjiampelmiaflaaGrd
namespace Go.Proofs.Ytjiampelmiaflaa
open Go.RowKit
set_option linter.unusedVariables false

set_option maxHeartbeats 4000000 in
set_option maxRecDepth 20000 in
theorem rputtext_ok (A : Option Addr) (l c : Nat) (bs : List UInt8) (s : ByteArray) (m : Int) (w : World) (hv : Bs w w.heap.size (.slice A l c) bs) (hl : bs.length ≤ 1099511627000) (hm0 : 0 ≤ m) (hm1 : m ≤ 255) (hs : (s.size : Int) ≤ m) :
    Calls Try.prog 47 #[.slice A l c, .string s, .int .i64 m] w fun e w' =>
      ∃ v', e = .returned (.tuple #[v', .int .i64 0]) ∧ w'.ownsRow w.heap.size 5 1 v' (bs ++ [UInt8.ofNat s.size] ++ s.data.toList).length ((bs ++ [UInt8.ofNat s.size] ++ s.data.toList).map oct) ∧ Below w.heap.size w w' := by
  obtain ⟨i0, hi0, hz0, hz1, hz2⟩ := info_parts info_u8
  obtain ⟨rfl, _, _⟩ := hv.len
  have HR := Lib.hid hv.rd
  have HL := Lib.hid hl
  have hs0 : (0 : Int) ≤ s.size := by omega
  have hs1 : (s.size : Int) ≤ 255 := by omega
  clear hv hl
  go_enter Try.func47, Try.ntmps47
  go_wp2_with (first
    | (at_builtin
       refine wpList_append_rd _ rfl (.const (.slice none 0 0)) (.tmp 19) 41 rfl w.heap.size 5 i0 _ 1 1 Try.underlying41 hi0 hz0 hz1 hz2 rfl (by omega) _ _ _ rfl (World.ownsRow_nil _ _ _ _) _ _ _ _ _ rfl HR.out (oct_one _) (by have := HL.out; unfold maxLen; omega) (by have := HL.out; omega) (by omega) ?_
       intro v2 w2 hown2 hg2 _
       simp only [Nat.zero_add, List.nil_append] at hown2
       obtain ⟨A2, c2, rfl⟩ := own_form hown2
       have HO2 := Lib.hid hown2
       have HB2 := Lib.hid ((Below.refl _ _).grown hg2 (Nat.le_refl _) (fun k hk => (World.ownsRow.lt (World.ownsRow_nil w w.heap.size 5 1) k hk).1))
       have hsz2 := HB2.out.size
       clear hown2 hg2)
    | (at_builtin
       refine wpList_append_rd _ rfl (.tmp 21) (.tmp 25) 41 rfl w.heap.size 5 i0 _ 1 1 Try.underlying41 hi0 hz0 hz1 hz2 rfl (by omega) _ _ _ rfl (HO2.out.alloc _) _ _ _ _ _ rfl (Rd.fresh w2 _ _) (by intro u hu; simp at hu; subst hu; rfl) (by have := HL.out; unfold maxLen; simp at *; omega) (by have := HL.out; simp at *; omega) (by simp; omega) ?_
       intro v3 w3 hown3 hg3 _
       have HO3 := Lib.hid (show w3.ownsRow w.heap.size 5 1 v3 (bs ++ [UInt8.ofNat s.size]).length ((bs ++ [UInt8.ofNat s.size]).map oct) by
         rw [List.map_append, List.map_cons, List.map_nil, oct_of _ (by omega)]
         simpa using hown3)
       have HB3 := Lib.hid ((HB2.out.alloc hsz2 _).grown hg3 (by simp; omega) (fun g hg => (World.ownsRow.lt HO2.out g hg).1))
       have hsz3 := HB3.out.size
       clear hown3 hg3)
    | (at_builtin
       refine Lib.wpList_append_own_string _ rfl (.tmp 27) (.tmp 28) 41 9 rfl w.heap.size 5 i0 Try.underlying41 Try.underlying9 hi0 hz0 hz1 hz2 _ _ _ rfl HO3.out s rfl (by have := HL.out; unfold maxLen; simp at *; omega) (by have := HL.out; simp at *; omega) hsz3 ?_
       intro v4 w4 hown4 hg4 _
       have HO4 := Lib.hid (show w4.ownsRow w.heap.size 5 1 v4 (bs ++ [UInt8.ofNat s.size] ++ s.data.toList).length ((bs ++ [UInt8.ofNat s.size] ++ s.data.toList).map oct) by
         rw [List.map_append, List.length_append (bs := s.data.toList)]
         have hl : s.data.toList.length = s.size := by simp
         rw [hl]
         exact hown4)
       have HB4 := Lib.hid (HB3.out.grown hg4 hsz3 (fun g hg => (World.ownsRow.lt HO3.out g hg).1))
       clear hown4 hg4))
  go_ret2
  exact ⟨v4, rfl, HO4.out, HB4.out⟩

theorem rputtext_bad (v : Value) (s : ByteArray) (m : Int) (w : World) (h : m < 0 ∨ 255 < m) :
    Calls Try.prog 47 #[v, .string s, .int .i64 m] w fun e w' => e = .returned (.tuple #[.slice none 0 0, .int .i64 1]) ∧ w = w' := by
  by_cases h0 : m < 0
  · clear h
    go_enter Try.func47, Try.ntmps47
    go_wp2
    go_ret2
    exact ⟨rfl, rfl⟩
  · have h1 : 255 < m := by omega
    clear h
    go_enter Try.func47, Try.ntmps47
    go_wp2
    go_ret2
    exact ⟨rfl, rfl⟩

theorem rputtext_long (v : Value) (s : ByteArray) (m : Int) (w : World) (h0 : 0 ≤ m) (h1 : m ≤ 255) (h : m < (s.size : Int)) :
    Calls Try.prog 47 #[v, .string s, .int .i64 m] w fun e w' => e = .returned (.tuple #[.slice none 0 0, .int .i64 2]) ∧ w = w' := by
  go_enter Try.func47, Try.ntmps47
  go_wp2
  go_ret2
  exact ⟨rfl, rfl⟩

theorem rputtext_all (A : Option Addr) (l c : Nat) (bs : List UInt8) (s : ByteArray) (m : Int) (w : World) (hv : Bs w w.heap.size (.slice A l c) bs) (hl : bs.length ≤ 1099511627000) :
    Calls Try.prog 47 #[.slice A l c, .string s, .int .i64 m] w (Put2 w (pxB bs s m) (pxE s m)) := by
  unfold pxE pxB
  by_cases h : m < 0 ∨ 255 < m
  · rw [if_pos h, if_pos h]
    exact (rputtext_bad (.slice A l c) s m w h).mono fun e w' ⟨he, hw⟩ => ⟨_, he, Bs.nil, by subst hw; exact Below.refl _ _⟩
  · rw [if_neg h, if_neg h]
    by_cases h2 : m < (s.size : Int)
    · rw [if_pos h2, if_pos h2]
      exact (rputtext_long (.slice A l c) s m w (by omega) (by omega) h2).mono fun e w' ⟨he, hw⟩ => ⟨_, he, Bs.nil, by subst hw; exact Below.refl _ _⟩
    · rw [if_neg h2, if_neg h2]
      exact (rputtext_ok A l c bs s m w hv hl (by omega) (by omega) (by omega)).mono fun e w' ⟨v, he, ho, hb⟩ => ⟨v, he, Bs.of_own ho, hb⟩
end Go.Proofs.Ytjiampelmiaflaa
