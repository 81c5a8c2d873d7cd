/- What is proved here: octets.PutText, by one contract for all arguments. -/
import Derived.Test.YtjiampelmiaflaaCat
import Derived.Test.YtjiampelmiaflaaLen
import Derived.Test.YtjiampelmiaflaaTxd
import Derived.Test.YtjiampelmiaflaaGrd
namespace Go.Proofs.Ytjiampelmiaflaa
open Go.RowKit
set_option linter.unusedVariables false

set_option maxHeartbeats 4000000 in
set_option maxRecDepth 20000 in
theorem puttext_ok (A : Option Addr) (l c : Nat) (bs : List UInt8) (s : ByteArray) (m : Int) (w : World) (hv : Bs w w.heap.size (.slice A l c) bs) (hl : bs.length ≤ 1099511627000) (hm0 : 0 ≤ m) (hm1 : m ≤ 255) (hs : (s.size : Int) ≤ m) :
    Calls Try.prog 45 #[.slice A l c, .string s, .int .i64 m] w fun e w' =>
      ∃ v', e = .returned (.tuple #[v', .int .i64 0]) ∧ w'.ownsRow w.heap.size 5 1 v' (bs ++ [UInt8.ofNat s.size] ++ s.data.toList).length ((bs ++ [UInt8.ofNat s.size] ++ s.data.toList).map oct) ∧ Below w.heap.size w w' := by
  have hconv := fun W => Lib.run_convert_string_bytes (P := Try.prog) W 9 41 5 s Try.underlying9 Try.underlying41 Try.underlying5
  have HL := Lib.hid hl
  have HV := Lib.hid hv
  have hs0 : (0 : Int) ≤ s.size := by omega
  have hs1 : (s.size : Int) ≤ 255 := by omega
  have hbz := Lib.bytesWorld_size (w.alloc (.cells #[.int .u8 (s.size : Int)] 5)) 5 s
  have hb1 : Below w.heap.size w (w.alloc (.cells #[.int .u8 (s.size : Int)] 5)) := (Below.refl _ _).alloc (Nat.le_refl _) _
  have hb2 := bytesWorld_below (w.alloc (.cells #[.int .u8 (s.size : Int)] 5)) 5 s
  have hb3 := hb1.trans (hb2.mono hb1.size)
  have h1' : Bs (Lib.bytesWorld (w.alloc (.cells #[.int .u8 (s.size : Int)] 5)) 5 s) (Lib.bytesWorld (w.alloc (.cells #[.int .u8 (s.size : Int)] 5)) 5 s).heap.size (.slice (some ⟨w.heap.size, 0, none⟩) 1 1) [UInt8.ofNat s.size] := by
    have h := Bs.fresh w [UInt8.ofNat s.size] 5 (by simp [maxLen])
    simp only [List.map_cons, List.map_nil] at h
    rw [oct_of s.size (by omega)] at h
    have h2 : Bs (w.alloc (.cells #[.int .u8 (s.size : Int)] 5)) (w.alloc (.cells #[.int .u8 (s.size : Int)] 5)).heap.size (.slice (some ⟨w.heap.size, 0, none⟩) 1 1) [UInt8.ofNat s.size] := by simpa using h
    exact (h2.below hb2).more hb2.size
  have h3' := bytesWorld_bs (w.alloc (.cells #[.int .u8 (s.size : Int)] 5)) 5 s (by unfold maxLen; omega)
  have hsz1 : (w.alloc (.cells #[.int .u8 (s.size : Int)] 5)).heap.size = w.heap.size + 1 := by simp
  rw [hsz1] at h3'
  have HC := Lib.hid (concat3 (w.heap.size + 1 + 1) 3 _ _ _ bs [UInt8.ofNat s.size] s.data.toList (Lib.bytesWorld (w.alloc (.cells #[.int .u8 (s.size : Int)] 5)) 5 s) (by rw [hbz]; simp)
    ((hv.below hb3).more hb3.size) h1' h3' (by simp; omega))
  have HB3 := Lib.hid hb3
  have hz3 := hb3.size
  clear hl hv h1' h3' hsz1 hb1 hb2 hb3
  go_enter Try.func45, Try.ntmps45
  go_wp2_with fail
  refine (islength_yes _ _ hm0 hm1).mono ?_
  rintro e w1 ⟨rfl, rfl⟩
  go_wp2_with fail
  refine HC.out.mono ?_
  rintro e w1 ⟨v1, rfl, hown1, hb1⟩
  have HO1 := Lib.hid (own_low hown1 hz3)
  have HB2 := Lib.hid (HB3.out.trans (hb1.mono hz3))
  clear hown1 hb1
  go_wp2
  go_ret2
  exact ⟨v1, rfl, HO1.out, HB2.out⟩

theorem puttext_bad (v : Value) (s : ByteArray) (m : Int) (w : World) (h : m < 0 ∨ 255 < m) :
    Calls Try.prog 45 #[v, .string s, .int .i64 m] w fun e w' => e = .returned (.tuple #[.slice none 0 0, .int .i64 1]) ∧ w = w' := by
  have H := Lib.hid h
  clear h
  go_enter Try.func45, Try.ntmps45
  go_wp2_with fail
  refine (islength_no _ _ H.out).mono ?_
  rintro e w1 ⟨rfl, rfl⟩
  go_wp2
  go_ret2
  exact ⟨rfl, rfl⟩

theorem puttext_long (v : Value) (s : ByteArray) (m : Int) (w : World) (h0 : 0 ≤ m) (h1 : m ≤ 255) (h : m < (s.size : Int)) :
    Calls Try.prog 45 #[v, .string s, .int .i64 m] w fun e w' => e = .returned (.tuple #[.slice none 0 0, .int .i64 2]) ∧ w = w' := by
  go_enter Try.func45, Try.ntmps45
  go_wp2_with fail
  refine (islength_yes _ _ h0 h1).mono ?_
  rintro e w1 ⟨rfl, rfl⟩
  go_wp2
  go_ret2
  exact ⟨rfl, rfl⟩

theorem puttext_all (A : Option Addr) (l c : Nat) (bs : List UInt8) (s : ByteArray) (m : Int) (w : World) (hv : Bs w w.heap.size (.slice A l c) bs) (hl : bs.length ≤ 1099511627000) :
    Calls Try.prog 45 #[.slice A l c, .string s, .int .i64 m] w (Put2 w (pxB bs s m) (pxE s m)) := by
  unfold pxE pxB
  by_cases h : m < 0 ∨ 255 < m
  · rw [if_pos h, if_pos h]
    exact (puttext_bad (.slice A l c) s m w h).mono fun e w' ⟨he, hw⟩ => ⟨_, he, Bs.nil, by subst hw; exact Below.refl _ _⟩
  · rw [if_neg h, if_neg h]
    by_cases h2 : m < (s.size : Int)
    · rw [if_pos h2, if_pos h2]
      exact (puttext_long (.slice A l c) s m w (by omega) (by omega) h2).mono fun e w' ⟨he, hw⟩ => ⟨_, he, Bs.nil, by subst hw; exact Below.refl _ _⟩
    · rw [if_neg h2, if_neg h2]
      exact (puttext_ok A l c bs s m w hv hl (by omega) (by omega) (by omega)).mono fun e w' ⟨v, he, ho, hb⟩ => ⟨v, he, Bs.of_own ho, hb⟩
end Go.Proofs.Ytjiampelmiaflaa
