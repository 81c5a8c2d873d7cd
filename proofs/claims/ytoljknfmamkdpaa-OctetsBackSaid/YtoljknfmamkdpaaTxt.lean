/- What is proved here: octets.PutText and shardqueueref01.PutText return the argument followed by the text's length and the text, or the first error that applies, both by the same plain function. -/
import Derived.Test.YtoljknfmamkdpaaGrp
import Derived.Lib.ConvBytes
import Derived.Lib.AppendStr
namespace Go.Proofs.Ytoljknfmamkdpaa
open Go.RowKit
set_option linter.unusedVariables false

theorem bytesWorld_below (W : World) (e : TypeId) (s : ByteArray) : Below W.heap.size W (Lib.bytesWorld W e s) :=
  ⟨rfl, rfl, rfl, by rw [Lib.bytesWorld_size]; omega, fun k hk => Lib.bytesWorld_at_old W e s k hk⟩

theorem bytesWorld_bs (W : World) (e : TypeId) (s : ByteArray) (hs : s.size ≤ maxLen) :
    Bs (Lib.bytesWorld W e s) (Lib.bytesWorld W e s).heap.size (.slice (some ⟨W.heap.size, 0, none⟩) s.size (grownCap W s.size 0 e)) s.data.toList := by
  have hl : s.data.toList.length = s.size := by simp
  refine ⟨_, grownCap W s.size 0 e, by rw [hl], by rw [hl]; exact grownCap_ge _ _ _ _, grownCap_le_maxLen _ _ _ _ hs, by simp, fun _ => ⟨_, _, rfl, by rw [Lib.bytesWorld_size]; omega, fun j u hu => ?_⟩⟩
  rw [Nat.zero_add]
  simp only [List.getElem?_map, Option.map_eq_some_iff] at hu
  obtain ⟨x, hx, rfl⟩ := hu
  obtain ⟨hj, rfl⟩ := List.getElem?_eq_some_iff.1 hx
  rw [Lib.bytesWorld_cell W e s j (by omega)]
  simp [oct, List.getD, hx]

set_option maxHeartbeats 4000000 in
set_option maxRecDepth 20000 in
theorem puttext_ok (A : Option Addr) (l c : Nat) (bs : List UInt8) (s : ByteArray) (m : Int) (w : World) (hv : Bs w w.heap.size (.slice A l c) bs) (hl : bs.length ≤ 1099511627000) (hm0 : 0 ≤ m) (hm1 : m ≤ 255) (hs : (s.size : Int) ≤ m) :
    Calls Try.prog 19 #[.slice A l c, .string s, .int .i64 m] w fun e w' =>
      ∃ v', e = .returned (.tuple #[v', .int .i64 0]) ∧ w'.ownsRow w.heap.size 5 1 v' (bs ++ [UInt8.ofNat s.size] ++ s.data.toList).length ((bs ++ [UInt8.ofNat s.size] ++ s.data.toList).map oct) ∧ Below w.heap.size w w' := by
  have hconv := fun W => Lib.run_convert_string_bytes (P := Try.prog) W 9 22 5 s Try.underlying9 Try.underlying22 Try.underlying5
  have HL := Lib.hid hl
  have HV := Lib.hid hv
  have hs0 : (0 : Int) ≤ s.size := by omega
  have hs1 : (s.size : Int) ≤ 255 := by omega
  have hbz := Lib.bytesWorld_size (w.alloc (.cells #[.int .u8 (s.size : Int)] 5)) 5 s
  have hb1 : Below w.heap.size w (w.alloc (.cells #[.int .u8 (s.size : Int)] 5)) := (Below.refl _ _).alloc (Nat.le_refl _) _
  have hb2 := bytesWorld_below (w.alloc (.cells #[.int .u8 (s.size : Int)] 5)) 5 s
  have hb3 := hb1.trans (hb2.mono hb1.size)
  have h1' : Bs (Lib.bytesWorld (w.alloc (.cells #[.int .u8 (s.size : Int)] 5)) 5 s) (Lib.bytesWorld (w.alloc (.cells #[.int .u8 (s.size : Int)] 5)) 5 s).heap.size (.slice (some ⟨w.heap.size, 0, none⟩) 1 1) [UInt8.ofNat s.size] := by
    have h := Bs.fresh w [UInt8.ofNat s.size] 5 (by simp [maxLen])
    simp only [List.map_cons, List.map_nil] at h
    rw [oct_of s.size (by omega)] at h
    have h2 : Bs (w.alloc (.cells #[.int .u8 (s.size : Int)] 5)) (w.alloc (.cells #[.int .u8 (s.size : Int)] 5)).heap.size (.slice (some ⟨w.heap.size, 0, none⟩) 1 1) [UInt8.ofNat s.size] := by simpa using h
    exact (h2.below hb2).more hb2.size
  have h3' := bytesWorld_bs (w.alloc (.cells #[.int .u8 (s.size : Int)] 5)) 5 s (by unfold maxLen; omega)
  have hsz1 : (w.alloc (.cells #[.int .u8 (s.size : Int)] 5)).heap.size = w.heap.size + 1 := by simp
  rw [hsz1] at h3'
  have HC := Lib.hid (concat3 (w.heap.size + 1 + 1) 3 _ _ _ bs [UInt8.ofNat s.size] s.data.toList (Lib.bytesWorld (w.alloc (.cells #[.int .u8 (s.size : Int)] 5)) 5 s) (by rw [hbz]; simp)
    ((hv.below hb3).more hb3.size) h1' h3' (by simp; omega))
  have HB3 := Lib.hid hb3
  have hz3 := hb3.size
  clear hl hv h1' h3' hsz1 hb1 hb2 hb3
  go_enter Try.func19, Try.ntmps19
  go_wp2_with fail
  refine (islength_yes _ _ hm0 hm1).mono ?_
  rintro e w1 ⟨rfl, rfl⟩
  go_wp2_with fail
  refine HC.out.mono ?_
  rintro e w1 ⟨v1, rfl, hown1, hb1⟩
  have HO1 := Lib.hid (own_low hown1 hz3)
  have HB2 := Lib.hid (HB3.out.trans (hb1.mono hz3))
  clear hown1 hb1
  go_wp2
  go_ret2
  exact ⟨v1, rfl, HO1.out, HB2.out⟩

theorem puttext_bad (v : Value) (s : ByteArray) (m : Int) (w : World) (h : m < 0 ∨ 255 < m) :
    Calls Try.prog 19 #[v, .string s, .int .i64 m] w fun e w' => e = .returned (.tuple #[.slice none 0 0, .int .i64 1]) ∧ w = w' := by
  have H := Lib.hid h
  clear h
  go_enter Try.func19, Try.ntmps19
  go_wp2_with fail
  refine (islength_no _ _ H.out).mono ?_
  rintro e w1 ⟨rfl, rfl⟩
  go_wp2
  go_ret2
  exact ⟨rfl, rfl⟩

theorem puttext_long (v : Value) (s : ByteArray) (m : Int) (w : World) (h0 : 0 ≤ m) (h1 : m ≤ 255) (h : m < (s.size : Int)) :
    Calls Try.prog 19 #[v, .string s, .int .i64 m] w fun e w' => e = .returned (.tuple #[.slice none 0 0, .int .i64 2]) ∧ w = w' := by
  go_enter Try.func19, Try.ntmps19
  go_wp2_with fail
  refine (islength_yes _ _ h0 h1).mono ?_
  rintro e w1 ⟨rfl, rfl⟩
  go_wp2
  go_ret2
  exact ⟨rfl, rfl⟩

set_option maxHeartbeats 4000000 in
set_option maxRecDepth 20000 in
theorem rputtext_ok (A : Option Addr) (l c : Nat) (bs : List UInt8) (s : ByteArray) (m : Int) (w : World) (hv : Bs w w.heap.size (.slice A l c) bs) (hl : bs.length ≤ 1099511627000) (hm0 : 0 ≤ m) (hm1 : m ≤ 255) (hs : (s.size : Int) ≤ m) :
    Calls Try.prog 20 #[.slice A l c, .string s, .int .i64 m] w fun e w' =>
      ∃ v', e = .returned (.tuple #[v', .int .i64 0]) ∧ w'.ownsRow w.heap.size 5 1 v' (bs ++ [UInt8.ofNat s.size] ++ s.data.toList).length ((bs ++ [UInt8.ofNat s.size] ++ s.data.toList).map oct) ∧ Below w.heap.size w w' := by
  obtain ⟨i0, hi0, hz0, hz1, hz2⟩ := info_parts info_u8
  obtain ⟨rfl, _, _⟩ := hv.len
  have HR := Lib.hid hv.rd
  have HL := Lib.hid hl
  have hs0 : (0 : Int) ≤ s.size := by omega
  have hs1 : (s.size : Int) ≤ 255 := by omega
  clear hv hl
  go_enter Try.func20, Try.ntmps20
  go_wp2_with (first
    | (at_builtin
       refine wpList_append_rd _ rfl (.const (.slice none 0 0)) (.tmp 19) 22 rfl w.heap.size 5 i0 _ 1 1 Try.underlying22 hi0 hz0 hz1 hz2 rfl (by omega) _ _ _ rfl (World.ownsRow_nil _ _ _ _) _ _ _ _ _ rfl HR.out (oct_one _) (by have := HL.out; unfold maxLen; omega) (by have := HL.out; omega) (by omega) ?_
       intro v2 w2 hown2 hg2 _
       simp only [Nat.zero_add, List.nil_append] at hown2
       obtain ⟨A2, c2, rfl⟩ := own_form hown2
       have HO2 := Lib.hid hown2
       have HB2 := Lib.hid ((Below.refl _ _).grown hg2 (Nat.le_refl _) (fun k hk => (World.ownsRow.lt (World.ownsRow_nil w w.heap.size 5 1) k hk).1))
       have hsz2 := HB2.out.size
       clear hown2 hg2)
    | (at_builtin
       refine wpList_append_rd _ rfl (.tmp 21) (.tmp 25) 22 rfl w.heap.size 5 i0 _ 1 1 Try.underlying22 hi0 hz0 hz1 hz2 rfl (by omega) _ _ _ rfl (HO2.out.alloc _) _ _ _ _ _ rfl (Rd.fresh w2 _ _) (by intro u hu; simp at hu; subst hu; rfl) (by have := HL.out; unfold maxLen; simp at *; omega) (by have := HL.out; simp at *; omega) (by simp; omega) ?_
       intro v3 w3 hown3 hg3 _
       have HO3 := Lib.hid (show w3.ownsRow w.heap.size 5 1 v3 (bs ++ [UInt8.ofNat s.size]).length ((bs ++ [UInt8.ofNat s.size]).map oct) by
         rw [List.map_append, List.map_cons, List.map_nil, oct_of _ (by omega)]
         simpa using hown3)
       have HB3 := Lib.hid ((HB2.out.alloc hsz2 _).grown hg3 (by simp; omega) (fun g hg => (World.ownsRow.lt HO2.out g hg).1))
       have hsz3 := HB3.out.size
       clear hown3 hg3)
    | (at_builtin
       refine Lib.wpList_append_own_string _ rfl (.tmp 27) (.tmp 28) 22 9 rfl w.heap.size 5 i0 Try.underlying22 Try.underlying9 hi0 hz0 hz1 hz2 _ _ _ rfl HO3.out s rfl (by have := HL.out; unfold maxLen; simp at *; omega) (by have := HL.out; simp at *; omega) hsz3 ?_
       intro v4 w4 hown4 hg4 _
       have HO4 := Lib.hid (show w4.ownsRow w.heap.size 5 1 v4 (bs ++ [UInt8.ofNat s.size] ++ s.data.toList).length ((bs ++ [UInt8.ofNat s.size] ++ s.data.toList).map oct) by
         rw [List.map_append, List.length_append (bs := s.data.toList)]
         have hl : s.data.toList.length = s.size := by simp
         rw [hl]
         exact hown4)
       have HB4 := Lib.hid (HB3.out.grown hg4 hsz3 (fun g hg => (World.ownsRow.lt HO3.out g hg).1))
       clear hown4 hg4))
  go_ret2
  exact ⟨v4, rfl, HO4.out, HB4.out⟩

theorem rputtext_bad (v : Value) (s : ByteArray) (m : Int) (w : World) (h : m < 0 ∨ 255 < m) :
    Calls Try.prog 20 #[v, .string s, .int .i64 m] w fun e w' => e = .returned (.tuple #[.slice none 0 0, .int .i64 1]) ∧ w = w' := by
  by_cases h0 : m < 0
  · clear h
    go_enter Try.func20, Try.ntmps20
    go_wp2
    go_ret2
    exact ⟨rfl, rfl⟩
  · have h1 : 255 < m := by omega
    clear h
    go_enter Try.func20, Try.ntmps20
    go_wp2
    go_ret2
    exact ⟨rfl, rfl⟩

theorem rputtext_long (v : Value) (s : ByteArray) (m : Int) (w : World) (h0 : 0 ≤ m) (h1 : m ≤ 255) (h : m < (s.size : Int)) :
    Calls Try.prog 20 #[v, .string s, .int .i64 m] w fun e w' => e = .returned (.tuple #[.slice none 0 0, .int .i64 2]) ∧ w = w' := by
  go_enter Try.func20, Try.ntmps20
  go_wp2
  go_ret2
  exact ⟨rfl, rfl⟩

/-- What PutText returns. -/
def pxE (s : ByteArray) (m : Int) : Int := if m < 0 ∨ 255 < m then 1 else if m < (s.size : Int) then 2 else 0
def pxB (bs : List UInt8) (s : ByteArray) (m : Int) : List UInt8 := if m < 0 ∨ 255 < m then [] else if m < (s.size : Int) then [] else bs ++ [UInt8.ofNat s.size] ++ s.data.toList

theorem puttext_all (A : Option Addr) (l c : Nat) (bs : List UInt8) (s : ByteArray) (m : Int) (w : World) (hv : Bs w w.heap.size (.slice A l c) bs) (hl : bs.length ≤ 1099511627000) :
    Calls Try.prog 19 #[.slice A l c, .string s, .int .i64 m] w (Put2 w (pxB bs s m) (pxE s m)) := by
  unfold pxE pxB
  by_cases h : m < 0 ∨ 255 < m
  · rw [if_pos h, if_pos h]
    exact (puttext_bad (.slice A l c) s m w h).mono fun e w' ⟨he, hw⟩ => ⟨_, he, Bs.nil, by subst hw; exact Below.refl _ _⟩
  · rw [if_neg h, if_neg h]
    by_cases h2 : m < (s.size : Int)
    · rw [if_pos h2, if_pos h2]
      exact (puttext_long (.slice A l c) s m w (by omega) (by omega) h2).mono fun e w' ⟨he, hw⟩ => ⟨_, he, Bs.nil, by subst hw; exact Below.refl _ _⟩
    · rw [if_neg h2, if_neg h2]
      exact (puttext_ok A l c bs s m w hv hl (by omega) (by omega) (by omega)).mono fun e w' ⟨v, he, ho, hb⟩ => ⟨v, he, Bs.of_own ho, hb⟩

theorem rputtext_all (A : Option Addr) (l c : Nat) (bs : List UInt8) (s : ByteArray) (m : Int) (w : World) (hv : Bs w w.heap.size (.slice A l c) bs) (hl : bs.length ≤ 1099511627000) :
    Calls Try.prog 20 #[.slice A l c, .string s, .int .i64 m] w (Put2 w (pxB bs s m) (pxE s m)) := by
  unfold pxE pxB
  by_cases h : m < 0 ∨ 255 < m
  · rw [if_pos h, if_pos h]
    exact (rputtext_bad (.slice A l c) s m w h).mono fun e w' ⟨he, hw⟩ => ⟨_, he, Bs.nil, by subst hw; exact Below.refl _ _⟩
  · rw [if_neg h, if_neg h]
    by_cases h2 : m < (s.size : Int)
    · rw [if_pos h2, if_pos h2]
      exact (rputtext_long (.slice A l c) s m w (by omega) (by omega) h2).mono fun e w' ⟨he, hw⟩ => ⟨_, he, Bs.nil, by subst hw; exact Below.refl _ _⟩
    · rw [if_neg h2, if_neg h2]
      exact (rputtext_ok A l c bs s m w hv hl (by omega) (by omega) (by omega)).mono fun e w' ⟨v, he, ho, hb⟩ => ⟨v, he, Bs.of_own ho, hb⟩
end Go.Proofs.Ytoljknfmamkdpaa
