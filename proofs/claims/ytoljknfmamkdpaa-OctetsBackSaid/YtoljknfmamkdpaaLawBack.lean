/- What is proved here: shardqueuelaw01.OctetsBack returns true for every input and leaves its arguments as they were: what is put is read back where it begins, whatever follows. No condition. -/
import Derived.Test.YtoljknfmamkdpaaGtx
import Derived.Test.YtoljknfmamkdpaaGet
import Derived.ProofKit
import Derived.OpenShut
import Derived.ShutString
import Derived.ChangeOld
namespace Go.Proofs.Ytoljknfmamkdpaa
open Go.RowKit
set_option linter.unusedVariables false

theorem num_be6 (n : Nat) (h : n ≤ 1099511627776) : num (be 6 n) = n := by
  have e : be 6 n = [UInt8.ofNat (n / 1099511627776), UInt8.ofNat (n / 4294967296), UInt8.ofNat (n / 16777216), UInt8.ofNat (n / 65536), UInt8.ofNat (n / 256), UInt8.ofNat n] := by
    simp [be, List.range_succ]
  rw [e]
  simp only [num, List.foldl_cons, List.foldl_nil, UInt8.toNat_ofNat', Nat.zero_mul, Nat.zero_add]
  omega

theorem bs_form {w : World} {B : Nat} {v : Value} {bs : List UInt8} (h : Bs w B v bs) : ∃ A c, v = .slice A bs.length c := by
  obtain ⟨A, c, e, _⟩ := h
  exact ⟨A, c, e⟩

set_option maxHeartbeats 8000000 in
set_option maxRecDepth 20000 in
theorem OctetsBack_walk (w : World) (a0 : Option Addr) (l0 c0 : Nat) (bs : List UInt8) (hv : Bs w w.heap.size (.slice a0 l0 c0) bs) (a1 : Option Addr) (l1 c1 : Nat) (tl : List UInt8) (hv1 : Bs w w.heap.size (.slice a1 l1 c1) tl)
    (n : Int) (hn : (Lit.int .i64 n).wf = true) (m : Int) (hm : (Lit.int .i64 m).wf = true) (s : ByteArray) (hs : s.size ≤ maxLen) :
    Calls Try.prog 6 #[.slice a0 l0 c0, .slice a1 l1 c1, .int .i64 n, .int .i64 m, .string s] w fun e w' => e = .returned (.bool true) ∧ Below w.heap.size w w' := by
  obtain ⟨rfl, _, _⟩ := hv.len
  obtain ⟨rfl, _, _⟩ := hv1.len
  by_cases h1 : (200 : Int) < (bs.length : Int)
  · clear hv hv1 hn hm hs
    go_enter Try.func6, Try.ntmps6
    go_wp2
    go_ret
    exact ⟨rfl, Below.refl _ _⟩
  by_cases h2 : (200 : Int) < (tl.length : Int)
  · clear hv hv1 hn hm hs
    go_enter Try.func6, Try.ntmps6
    go_wp2
    go_ret
    exact ⟨rfl, Below.refl _ _⟩
  by_cases h3 : (255 : Int) < (s.size : Int)
  · clear hv hv1 hn hm hs
    go_enter Try.func6, Try.ntmps6
    go_wp2
    go_ret
    exact ⟨rfl, Below.refl _ _⟩
  obtain ⟨i0, hi0, hz0, hz1, hz2⟩ := info_parts info_u8
  obtain ⟨z, hz, hcase⟩ : ∃ z : Nat, z ≤ 1099511627776 ∧ (n = z ∨ (z = 0 ∧ (n < 0 ∨ 1099511627776 < n))) := by
    by_cases h : n < 0 ∨ 1099511627776 < n
    · exact ⟨0, by omega, Or.inr ⟨rfl, h⟩⟩
    · exact ⟨n.toNat, by omega, Or.inl (by omega)⟩
  obtain ⟨X, hX⟩ : ∃ X, X = bs ++ groups 5 z := ⟨_, rfl⟩
  obtain ⟨Y, hY⟩ : ∃ Y, Y = X ++ [UInt8.ofNat s.size] ++ s.data.toList := ⟨_, rfl⟩
  obtain ⟨Z, hZ⟩ : ∃ Z, Z = bs ++ be 6 z := ⟨_, rfl⟩
  have hgl := groups_length 5 z
  have hsl : s.data.toList.length = s.size := by simp
  have hXl : X.length ≤ 300 := by rw [hX]; simp; omega
  have hYl : Y.length ≤ 600 := by rw [hY]; simp; omega
  have hZl : Z.length ≤ 300 := by rw [hZ]; simp [be_length]; omega
  have HPV := Lib.hid (show ∀ (w : World) (A : Option Addr) (c : Nat), Bs w w.heap.size (.slice A bs.length c) bs → Calls Try.prog 15 #[.slice A bs.length c, .int .i64 (z : Int)] w (Put2 w X 0) from fun w A c h => by
    rw [hX]
    exact (putvar_ok A bs.length c bs z w h (by omega) hz).mono fun e w' ⟨v, he, ho, hb⟩ => ⟨v, he, Bs.of_own ho, hb⟩)
  have HPT := Lib.hid (show ∀ (w : World) (A : Option Addr) (c : Nat), Bs w w.heap.size (.slice A X.length c) X → Calls Try.prog 19 #[.slice A X.length c, .string s, .int .i64 255] w (Put2 w Y 0) from fun w A c h => by
    rw [hY]
    exact (puttext_ok A X.length c X s 255 w h (by omega) (by omega) (by omega) (by omega)).mono fun e w' ⟨v, he, ho, hb⟩ => ⟨v, he, Bs.of_own ho, hb⟩)
  have HGV := Lib.hid (show ∀ (w : World) (A : Option Addr) (l c : Nat), Bs w w.heap.size (.slice A l c) (Y ++ tl) → Calls Try.prog 17 #[.slice A l c, .int .i64 (bs.length : Int)] w (fun e w' => e = .returned (.tuple #[.int .i64 (z : Int), .int .i64 (X.length : Int), .int .i64 0]) ∧ w = w') from fun w A l c h => by
    have hl := h.len.1
    simp only [List.length_append] at hl
    refine (getvar_any A l c (Y ++ tl) bs.length w h (by omega) (by omega)).mono fun e w' ⟨he, hw⟩ => ⟨?_, hw⟩
    have hd : (Y ++ tl).drop bs.length = groups 5 z ++ ([UInt8.ofNat s.size] ++ s.data.toList ++ tl) := by
      rw [hY, hX]; simp [List.append_assoc]
    rw [hd, groups_read z _ hz] at he
    rw [he, hX]
    simp)
  have HGT := Lib.hid (show ∀ (w : World) (A : Option Addr) (l c : Nat), Bs w w.heap.size (.slice A l c) (Y ++ tl) → Calls Try.prog 21 #[.slice A l c, .int .i64 (X.length : Int), .int .i64 255] w (fun e w' => e = .returned (.tuple #[.string s, .int .i64 (Y.length : Int), .int .i64 0]) ∧ w = w') from fun w A l c h => by
    have hl := h.len.1
    have hYX : Y.length = X.length + 1 + s.size := by rw [hY]; simp; omega
    simp only [List.length_append] at hl
    have hlt : X.length < l := by omega
    refine (gettext_in A l c (Y ++ tl) X.length 255 w h (by omega) (by omega) (by omega) hlt).mono fun e w' ⟨he, hw⟩ => ⟨?_, hw⟩
    have hg : ((Y ++ tl).getD X.length 0).toNat = s.size := by
      rw [hY]
      simp [List.getD]
      omega
    rw [hg] at he
    unfold GxEnd at he
    rw [if_neg (by omega), if_neg (by simp only [List.length_append]; omega)] at he
    rw [he]
    have hd : ((Y ++ tl).drop (X.length + 1)).take s.size = s.data.toList := by
      rw [hY, ← hsl]; simp [List.append_assoc]
    rw [hd, hYX]
    simp)
  have HPN := Lib.hid (show ∀ (w : World) (A : Option Addr) (c : Nat), Bs w w.heap.size (.slice A bs.length c) bs → Calls Try.prog 9 #[.slice A bs.length c, .int .i64 (z : Int), .int .i64 6] w (Put2 w Z 0) from fun w A c h => by
    rw [hZ]
    exact (put_ok A bs.length c bs z 6 w h (by omega) (by omega) (by omega) (by omega)).mono fun e w' ⟨v, he, ho, hb⟩ => ⟨v, he, Bs.of_own ho, hb⟩)
  have HGN := Lib.hid (show ∀ (w : World) (A : Option Addr) (l c : Nat), Bs w w.heap.size (.slice A l c) (Z ++ tl) → Calls Try.prog 11 #[.slice A l c, .int .i64 (bs.length : Int), .int .i64 6] w (fun e w' => e = .returned (.tuple #[.int .i64 (z : Int), .int .i64 0]) ∧ w = w') from fun w A l c h => by
    have hl := h.len.1
    have hZX : Z.length = bs.length + 6 := by rw [hZ]; simp [be_length]
    simp only [List.length_append] at hl
    refine (get_ok A l c (Z ++ tl) bs.length 6 w h (by omega) (by omega) (by omega) (by omega)).mono fun e w' ⟨he, hw⟩ => ⟨?_, hw⟩
    have hd : ((Z ++ tl).drop bs.length).take 6 = be 6 z := by
      rw [hZ]; simp [List.append_assoc, be_length]
    rw [hd, num_be6 z hz] at he
    exact he)
  have HV := Lib.hid hv
  have HV1 := Lib.hid hv1
  have HYl := Lib.hid hYl
  have HZl := Lib.hid hZl
  have htl : (tl.length : Int) ≤ 200 := by omega
  have hz0' : (0 : Int) ≤ z := Int.natCast_nonneg _
  have hzm : (z : Int) ≤ 1099511627776 := by omega
  clear hv hv1 hn hm hs hX hY hZ hgl hsl hXl hYl hZl hz
  rcases hcase with rfl | ⟨rfl, hcase | hcase⟩
  all_goals
    go_enter Try.func6, Try.ntmps6
    go_wp2_with fail
    refine (HPV.out _ _ _ HV.out).mono ?_
    rintro e w1 ⟨v1, rfl, hb1, hw1⟩
    obtain ⟨A1, c1', rfl⟩ := bs_form hb1
    have HB1 := Lib.hid hb1
    have HW1 := Lib.hid hw1
    have hq1 := HW1.out.size
    clear hb1 hw1
    go_wp2_with fail
    refine (HPT.out _ _ _ HB1.out).mono ?_
    rintro e w2 ⟨v2, rfl, hb2, hw2⟩
    obtain ⟨A2, c2', rfl⟩ := bs_form hb2
    have HB2 := Lib.hid hb2.rd
    have HW2 := Lib.hid (HW1.out.trans (hw2.mono hq1))
    have HT2 := Lib.hid ((HV1.out.below HW2.out).more HW2.out.size)
    have hq2 := HW2.out.size
    clear hb2 hw2
    go_wp2_with (first
      | (at_builtin
         refine wpList_append_rd _ rfl (.const (.slice none 0 0)) (.tmp 63) 22 rfl w2.heap.size 5 i0 _ 1 1 Try.underlying22 hi0 hz0 hz1 hz2 rfl (by omega) _ _ _ rfl (World.ownsRow_nil _ _ _ _) _ _ _ _ _ rfl HB2.out (oct_one _) (by have := HYl.out; unfold maxLen; omega) (by have := HYl.out; omega) (by omega) ?_
         intro v3 w3 hown3 hg3 _
         simp only [Nat.zero_add, List.nil_append] at hown3
         obtain ⟨A3, c3, rfl⟩ := own_form hown3
         have HO3 := Lib.hid hown3
         have HW3 := Lib.hid ((Below.refl _ _).grown hg3 (Nat.le_refl _) (fun k hk => (World.ownsRow.lt (World.ownsRow_nil w2 w2.heap.size 5 1) k hk).1))
         have HT3 := Lib.hid ((HT2.out.below HW3.out).more HW3.out.size)
         have hq3 := HW3.out.size
         clear hown3 hg3)
      | (at_builtin
         refine wpList_append_rd _ rfl (.tmp 64) (.tmp 65) 22 rfl w2.heap.size 5 i0 _ 1 1 Try.underlying22 hi0 hz0 hz1 hz2 rfl (by omega) _ _ _ rfl HO3.out _ _ _ _ _ rfl HT3.out.rd (oct_one _) (by have := HYl.out; unfold maxLen; omega) (by have := HYl.out; omega) hq3 ?_
         intro v4 w4 hown4 hg4 _
         have hown5 : w4.ownsRow w2.heap.size 5 1 v4 (Y.length + tl.length) ((Y ++ tl).map oct) := by rw [List.map_append]; exact hown4
         obtain ⟨A4, c4, rfl⟩ := own_form hown5
         have HO4 := Lib.hid (Bs.of_own hown5)
         have HW4 := Lib.hid (HW2.out.trans ((HW3.out.grown hg4 hq3 (fun g hg => (World.ownsRow.lt HO3.out g hg).1)).mono hq2))
         have hq4 := HW4.out.size
         clear hown4 hown5 hg4))
    refine (HGV.out _ _ _ _ HO4.out).mono ?_
    rintro e w5 ⟨rfl, rfl⟩
    go_wp2_with fail
    refine (HGT.out _ _ _ _ HO4.out).mono ?_
    rintro e w5 ⟨rfl, rfl⟩
    go_wp2_with fail
    refine (HPN.out _ _ _ ((HV.out.below HW4.out).more hq4)).mono ?_
    rintro e w6 ⟨v6, rfl, hb6, hw6⟩
    obtain ⟨A6, c6, rfl⟩ := bs_form hb6
    have HB6 := Lib.hid hb6.rd
    have HW6 := Lib.hid (HW4.out.trans (hw6.mono hq4))
    have HT6 := Lib.hid ((HV1.out.below HW6.out).more HW6.out.size)
    have hq6 := HW6.out.size
    clear hb6 hw6
    go_wp2_with (first
      | (at_builtin
         refine wpList_append_rd _ rfl (.const (.slice none 0 0)) (.tmp 117) 22 rfl w6.heap.size 5 i0 _ 1 1 Try.underlying22 hi0 hz0 hz1 hz2 rfl (by omega) _ _ _ rfl (World.ownsRow_nil _ _ _ _) _ _ _ _ _ rfl HB6.out (oct_one _) (by have := HZl.out; unfold maxLen; omega) (by have := HZl.out; omega) (by omega) ?_
         intro v7 w7 hown7 hg7 _
         simp only [Nat.zero_add, List.nil_append] at hown7
         obtain ⟨A7, c7, rfl⟩ := own_form hown7
         have HO7 := Lib.hid hown7
         have HW7 := Lib.hid ((Below.refl _ _).grown hg7 (Nat.le_refl _) (fun k hk => (World.ownsRow.lt (World.ownsRow_nil w6 w6.heap.size 5 1) k hk).1))
         have HT7 := Lib.hid ((HT6.out.below HW7.out).more HW7.out.size)
         have hq7 := HW7.out.size
         clear hown7 hg7)
      | (at_builtin
         refine wpList_append_rd _ rfl (.tmp 118) (.tmp 119) 22 rfl w6.heap.size 5 i0 _ 1 1 Try.underlying22 hi0 hz0 hz1 hz2 rfl (by omega) _ _ _ rfl HO7.out _ _ _ _ _ rfl HT7.out.rd (oct_one _) (by have := HZl.out; unfold maxLen; omega) (by have := HZl.out; omega) hq7 ?_
         intro v8 w8 hown8 hg8 _
         have hown9 : w8.ownsRow w6.heap.size 5 1 v8 (Z.length + tl.length) ((Z ++ tl).map oct) := by rw [List.map_append]; exact hown8
         obtain ⟨A8, c8, rfl⟩ := own_form hown9
         have HO8 := Lib.hid (Bs.of_own hown9)
         have HW8 := Lib.hid (HW6.out.trans ((HW7.out.grown hg8 hq7 (fun g hg => (World.ownsRow.lt HO7.out g hg).1)).mono hq6))
         have hq8 := HW8.out.size
         clear hown8 hown9 hg8))
    refine (HGN.out _ _ _ _ HO8.out).mono ?_
    rintro e w9 ⟨rfl, rfl⟩
    go_wp2_with fail
    refine (awake_any _).mono ?_
    rintro e w9 ⟨rfl, hb9⟩
    have HB9 := Lib.hid hb9
    clear hb9
    go_wp2
    go_ret
    exact ⟨rfl, HW8.out.trans (HB9.out.mono hq8)⟩

/-! The row's step, as the guide's shell has it. -/
namespace octetsBack
open Go.ChangeShapes Go.WideShapes Go.ChangeAt
open Go.ChangeMaps (open_string shut_string)
theorem own : ownKnob Try.prog.godebug = none := by kernel_rfl
theorem laidOut : laidOutB Try.prog = true := by kernel_rfl

set_option maxRecDepth 100000 in
theorem lifted (os : Os) (started : os.Started) (H : Type) (enc : TypeId × Value → H) :
    ReturnsInHanded {} Try.checked os 6 .any (Rows.octetsBackSpec.pre6 enc Try.prog Try.f6 Rows.octetsBackRow.domain false) (Rows.octetsBackSpec.post enc Try.prog Try.f6 false true false false) := by
  refine returnsInHanded_of_change (C := Try.checked) own started (by kernel_rfl) Try.func6
    (ChangeSpec.witness6 (enc := enc) (C := Try.checked) false ⟨#[], #[.slice none 0 0, .slice none 0 0, .int .i64 0, .int .i64 0, .string ByteArray.empty], []⟩ 8 (by kernel_rfl) (by kernel_rfl) (by kernel_rfl) (by kernel_rfl)) ?_
  intro W base args ds gs before hval0 hW hcnd _
  have hval : ∀ (j : Nat) t v, Try.f6.params[j]? = some t → args[j]? = some v → Value.okWide Try.prog W .any base t v := hval0
  have hW' := hW
  obtain ⟨p, q, hA0, hV, rfl, hfz, hnd⟩ := hW
  have hA : DataW.TrodAll enc Try.prog W 0 (fun _ => true) true Try.f6.params.toList args.toList ds p := hA0
  rw [Try.params6] at hA hval
  obtain ⟨v0, vs0, d0, ds0, p0, q0, hargs, rfl, rfl, h0, r0⟩ := trodAll_cons hA
  obtain ⟨v1, vs1, d1, ds1, p1, q1, rfl, rfl, rfl, h1, r1⟩ := trodAll_cons r0
  obtain ⟨v2, vs2, d2, ds2, p2, q2, rfl, rfl, rfl, h2, r2⟩ := trodAll_cons r1
  obtain ⟨v3, vs3, d3, ds3, p3, q3, rfl, rfl, rfl, h3, r3⟩ := trodAll_cons r2
  obtain ⟨v4, vs4, d4, ds4, p4, q4, rfl, rfl, rfl, h4, r4⟩ := trodAll_cons r3
  obtain ⟨rfl, rfl, rfl⟩ := trodAll_nil r4
  obtain rfl : args = #[v0, v1, v2, v3, v4] := by cases args; simp_all
  obtain ⟨rfl, rfl⟩ := trodVars_none hV
  obtain ⟨a0, len0, cap0, rfl⟩ := okWide_slice Try.underlying22 (hval 0 22 v0 rfl rfl)
  have k0 := h0
  have lt0 : ∀ x ∈ p0, x.block < W.heap.size := by obtain ⟨m, hm⟩ := k0; exact DataW.trod_lt m _ _ _ hm
  obtain ⟨z0, w0⟩ : ∃ zs, Bs W W.heap.size (.slice a0 len0 cap0) zs := by
    obtain ⟨fuel, hf⟩ := h0
    rcases open_ints Try.underlying22 Try.underlying5 (by kernel_rfl) hf with ⟨hcs, _⟩ | ⟨x, l, c, zs, hcs, _, hl, hm, hz, _, hcell, hwz⟩
    · simp [Value.cells] at hcs
      obtain ⟨rfl, rfl, rfl⟩ := hcs
      exact ⟨[], Bs.nil⟩
    · simp [Value.cells] at hcs
      obtain ⟨rfl, rfl, rfl⟩ := hcs
      exact Bs.of_cells hl hm (by simpa using hz) hcell hwz
  obtain ⟨a1, len1, cap1, rfl⟩ := okWide_slice Try.underlying22 (hval 1 22 v1 rfl rfl)
  have k1 := h1
  have lt1 : ∀ x ∈ p1, x.block < W.heap.size := by obtain ⟨m, hm⟩ := k1; exact DataW.trod_lt m _ _ _ hm
  obtain ⟨z1, w1⟩ : ∃ zs, Bs W W.heap.size (.slice a1 len1 cap1) zs := by
    obtain ⟨fuel, hf⟩ := h1
    rcases open_ints Try.underlying22 Try.underlying5 (by kernel_rfl) hf with ⟨hcs, _⟩ | ⟨x, l, c, zs, hcs, _, hl, hm, hz, _, hcell, hwz⟩
    · simp [Value.cells] at hcs
      obtain ⟨rfl, rfl, rfl⟩ := hcs
      exact ⟨[], Bs.nil⟩
    · simp [Value.cells] at hcs
      obtain ⟨rfl, rfl, rfl⟩ := hcs
      exact Bs.of_cells hl hm (by simpa using hz) hcell hwz
  obtain ⟨a2, rfl, rfl, rfl, w2⟩ := open_int Try.underlying3 (hval 2 3 v2 rfl rfl) h2
  obtain ⟨a3, rfl, rfl, rfl, w3⟩ := open_int Try.underlying3 (hval 3 3 v3 rfl rfl) h3
  obtain ⟨a4, rfl, rfl, rfl, w4⟩ := open_string Try.underlying9 (hval 4 9 v4 rfl rfl) h4
  clear hA0 hval0
  refine (OctetsBack_walk W a0 len0 cap0 z0 w0 a1 len1 cap1 z1 w1 a2 w2 a3 w3 a4 w4).mono fun e W' ⟨he, bel⟩ => ?_
  subst he
  exact ⟨_, rfl, _, _, _, [], _, [], hW', trodAll_mk1 (shut_bool Try.underlying4 _), (trodAll_cons_mk (Below.trod laidOut (by kernel_rfl) (of_decide_eq_true (by kernel_rfl)) k0 bel lt0) (trodAll_cons_mk (Below.trod laidOut (by kernel_rfl) (of_decide_eq_true (by kernel_rfl)) k1 bel lt1) (trodAll_cons_mk (shut_int Try.underlying3 w2) (trodAll_cons_mk (shut_int Try.underlying3 w3) (trodAll_cons_mk (shut_string Try.underlying9 w4) trodAll_mk0))))), rfl, bel.frame _, fun h => by cases h⟩

theorem over : Rows.octetsBackRow.holds Try.pinned (OpenSpec.ofChange Rows.octetsBackSpec) :=
  OpenClaim.holds_of_wide 6 Try.f6 rfl rfl rfl rfl rfl rfl rfl ⟨rfl, rfl, rfl, rfl, rfl⟩ rfl rfl rfl rfl rfl (by kernel_rfl) Try.func6 (by kernel_rfl)
    (of_decide_eq_true (by kernel_rfl)) (by unfold Func.isWrapper; first | (rw [if_pos (by decide +kernel)]; kernel_rfl) | (rw [if_neg (by decide +kernel)]; exact ⟨rfl, rfl⟩))
    (fun os started H enc _ => lifted os started H enc)

/-- The statement. -/
theorem proved : Rows.OctetsBackSaid := over
#print axioms proved
end octetsBack
end Go.Proofs.Ytoljknfmamkdpaa
