/- What is proved here: shardqueueref09.Encode, by one contract for all arguments; boxes of handles, '==' and '!=' of two handles, bytes.Equal; handle.Parse, by one contract for all arguments. -/
import Derived.Test.YtkkgfnncdaiooaaJ03
import Derived.Test.YtkkgfnncdaiooaaJ06
import Derived.Test.YtkkgfnncdaiooaaJ01
import Derived.Below
import Derived.Laws.StructEq
import Derived.KernelRfl
import Derived.Test.YtkkgfnncdaiooaaJ05
namespace Go.Proofs.Ytkkgfnncdaiooaa
open Go.RowKit
set_option linter.unusedVariables false

/-- A box that holds four numbers. -/
structure HB4 (g i gn rt ht : Nat) (W : World) : Prop where
  c0 : W.cell? ⟨g, 0, none⟩ = some (.int .i64 (i : Nat))
  c1 : W.cell? ⟨g, 1, none⟩ = some (.int .i64 (gn : Nat))
  c2 : W.cell? ⟨g, 2, none⟩ = some (.int .i64 (rt : Nat))
  c3 : W.cell? ⟨g, 3, none⟩ = some (.int .i64 (ht : Nat))
  lt : g < W.heap.size
theorem HB4.up {g i gn rt ht : Nat} {W W' : World} (h : HB4 g i gn rt ht W) (hb : Below W.heap.size W W') : HB4 g i gn rt ht W' :=
  ⟨(hb.cell (p := ⟨g, 0, none⟩) h.lt).trans h.c0, (hb.cell (p := ⟨g, 1, none⟩) h.lt).trans h.c1, (hb.cell (p := ⟨g, 2, none⟩) h.lt).trans h.c2, (hb.cell (p := ⟨g, 3, none⟩) h.lt).trans h.c3, Nat.lt_of_lt_of_le h.lt hb.size⟩
set_option maxHeartbeats 4000000 in
set_option maxRecDepth 20000 in
theorem renc_any (h : Hq) (w : World) : Calls Try.prog 9 #[h.v] w (Put2 w (hqB h) (hqE h)) := by
  obtain ⟨i0, hi0, hz0, hz1, hz2⟩ := info_parts info_u8
  by_cases k0 : h.id < 1
  · have HX := Lib.hid (show hqB h = [] ∧ hqE h = 1 from ⟨hqB_no fun hr => by obtain ⟨⟨_, _⟩, ⟨_, _⟩, ⟨_, _⟩, _, _⟩ := hr; omega, hqE_no fun hr => by obtain ⟨⟨_, _⟩, ⟨_, _⟩, ⟨_, _⟩, _, _⟩ := hr; omega⟩)
    obtain ⟨PB, hPB⟩ : ∃ PB, PB = hqB h := ⟨_, rfl⟩
    obtain ⟨PE, hPE⟩ : ∃ PE, PE = hqE h := ⟨_, rfl⟩
    rw [← hPB, ← hPE]
    have HPB := Lib.hid hPB
    have HPE := Lib.hid hPE
    clear hPB hPE
    go_enter Try.func9, Try.ntmps9
    go_wp2
    go_ret2
    exact ⟨.slice none 0 0, by rw [HPE.out, HX.out.2]; rfl, by rw [HPB.out, HX.out.1]; exact Bs.nil, (Below.refl _ _).alloc (Nat.le_refl _) _⟩
  by_cases k1 : 1073741824 < h.id
  · have HX := Lib.hid (show hqB h = [] ∧ hqE h = 1 from ⟨hqB_no fun hr => by obtain ⟨⟨_, _⟩, ⟨_, _⟩, ⟨_, _⟩, _, _⟩ := hr; omega, hqE_no fun hr => by obtain ⟨⟨_, _⟩, ⟨_, _⟩, ⟨_, _⟩, _, _⟩ := hr; omega⟩)
    obtain ⟨PB, hPB⟩ : ∃ PB, PB = hqB h := ⟨_, rfl⟩
    obtain ⟨PE, hPE⟩ : ∃ PE, PE = hqE h := ⟨_, rfl⟩
    rw [← hPB, ← hPE]
    have HPB := Lib.hid hPB
    have HPE := Lib.hid hPE
    clear hPB hPE
    go_enter Try.func9, Try.ntmps9
    go_wp2
    go_ret2
    exact ⟨.slice none 0 0, by rw [HPE.out, HX.out.2]; rfl, by rw [HPB.out, HX.out.1]; exact Bs.nil, (Below.refl _ _).alloc (Nat.le_refl _) _⟩
  by_cases k2 : h.gn < 1
  · have HX := Lib.hid (show hqB h = [] ∧ hqE h = 1 from ⟨hqB_no fun hr => by obtain ⟨⟨_, _⟩, ⟨_, _⟩, ⟨_, _⟩, _, _⟩ := hr; omega, hqE_no fun hr => by obtain ⟨⟨_, _⟩, ⟨_, _⟩, ⟨_, _⟩, _, _⟩ := hr; omega⟩)
    obtain ⟨PB, hPB⟩ : ∃ PB, PB = hqB h := ⟨_, rfl⟩
    obtain ⟨PE, hPE⟩ : ∃ PE, PE = hqE h := ⟨_, rfl⟩
    rw [← hPB, ← hPE]
    have HPB := Lib.hid hPB
    have HPE := Lib.hid hPE
    clear hPB hPE
    go_enter Try.func9, Try.ntmps9
    go_wp2
    go_ret2
    exact ⟨.slice none 0 0, by rw [HPE.out, HX.out.2]; rfl, by rw [HPB.out, HX.out.1]; exact Bs.nil, (Below.refl _ _).alloc (Nat.le_refl _) _⟩
  by_cases k3 : 65536 < h.gn
  · have HX := Lib.hid (show hqB h = [] ∧ hqE h = 1 from ⟨hqB_no fun hr => by obtain ⟨⟨_, _⟩, ⟨_, _⟩, ⟨_, _⟩, _, _⟩ := hr; omega, hqE_no fun hr => by obtain ⟨⟨_, _⟩, ⟨_, _⟩, ⟨_, _⟩, _, _⟩ := hr; omega⟩)
    obtain ⟨PB, hPB⟩ : ∃ PB, PB = hqB h := ⟨_, rfl⟩
    obtain ⟨PE, hPE⟩ : ∃ PE, PE = hqE h := ⟨_, rfl⟩
    rw [← hPB, ← hPE]
    have HPB := Lib.hid hPB
    have HPE := Lib.hid hPE
    clear hPB hPE
    go_enter Try.func9, Try.ntmps9
    go_wp2
    go_ret2
    exact ⟨.slice none 0 0, by rw [HPE.out, HX.out.2]; rfl, by rw [HPB.out, HX.out.1]; exact Bs.nil, (Below.refl _ _).alloc (Nat.le_refl _) _⟩
  by_cases k4 : h.rt < 0
  · have HX := Lib.hid (show hqB h = [] ∧ hqE h = 1 from ⟨hqB_no fun hr => by obtain ⟨⟨_, _⟩, ⟨_, _⟩, ⟨_, _⟩, _, _⟩ := hr; omega, hqE_no fun hr => by obtain ⟨⟨_, _⟩, ⟨_, _⟩, ⟨_, _⟩, _, _⟩ := hr; omega⟩)
    obtain ⟨PB, hPB⟩ : ∃ PB, PB = hqB h := ⟨_, rfl⟩
    obtain ⟨PE, hPE⟩ : ∃ PE, PE = hqE h := ⟨_, rfl⟩
    rw [← hPB, ← hPE]
    have HPB := Lib.hid hPB
    have HPE := Lib.hid hPE
    clear hPB hPE
    go_enter Try.func9, Try.ntmps9
    go_wp2
    go_ret2
    exact ⟨.slice none 0 0, by rw [HPE.out, HX.out.2]; rfl, by rw [HPB.out, HX.out.1]; exact Bs.nil, (Below.refl _ _).alloc (Nat.le_refl _) _⟩
  by_cases k5 : 65536 ≤ h.rt
  · have HX := Lib.hid (show hqB h = [] ∧ hqE h = 1 from ⟨hqB_no fun hr => by obtain ⟨⟨_, _⟩, ⟨_, _⟩, ⟨_, _⟩, _, _⟩ := hr; omega, hqE_no fun hr => by obtain ⟨⟨_, _⟩, ⟨_, _⟩, ⟨_, _⟩, _, _⟩ := hr; omega⟩)
    obtain ⟨PB, hPB⟩ : ∃ PB, PB = hqB h := ⟨_, rfl⟩
    obtain ⟨PE, hPE⟩ : ∃ PE, PE = hqE h := ⟨_, rfl⟩
    rw [← hPB, ← hPE]
    have HPB := Lib.hid hPB
    have HPE := Lib.hid hPE
    clear hPB hPE
    go_enter Try.func9, Try.ntmps9
    go_wp2
    go_ret2
    exact ⟨.slice none 0 0, by rw [HPE.out, HX.out.2]; rfl, by rw [HPB.out, HX.out.1]; exact Bs.nil, (Below.refl _ _).alloc (Nat.le_refl _) _⟩
  by_cases k6 : h.ht < 0
  · have HX := Lib.hid (show hqB h = [] ∧ hqE h = 1 from ⟨hqB_no fun hr => by obtain ⟨⟨_, _⟩, ⟨_, _⟩, ⟨_, _⟩, _, _⟩ := hr; omega, hqE_no fun hr => by obtain ⟨⟨_, _⟩, ⟨_, _⟩, ⟨_, _⟩, _, _⟩ := hr; omega⟩)
    obtain ⟨PB, hPB⟩ : ∃ PB, PB = hqB h := ⟨_, rfl⟩
    obtain ⟨PE, hPE⟩ : ∃ PE, PE = hqE h := ⟨_, rfl⟩
    rw [← hPB, ← hPE]
    have HPB := Lib.hid hPB
    have HPE := Lib.hid hPE
    clear hPB hPE
    go_enter Try.func9, Try.ntmps9
    go_wp2
    go_ret2
    exact ⟨.slice none 0 0, by rw [HPE.out, HX.out.2]; rfl, by rw [HPB.out, HX.out.1]; exact Bs.nil, (Below.refl _ _).alloc (Nat.le_refl _) _⟩
  by_cases k7 : 6 ≤ h.ht
  · have HX := Lib.hid (show hqB h = [] ∧ hqE h = 1 from ⟨hqB_no fun hr => by obtain ⟨⟨_, _⟩, ⟨_, _⟩, ⟨_, _⟩, _, _⟩ := hr; omega, hqE_no fun hr => by obtain ⟨⟨_, _⟩, ⟨_, _⟩, ⟨_, _⟩, _, _⟩ := hr; omega⟩)
    obtain ⟨PB, hPB⟩ : ∃ PB, PB = hqB h := ⟨_, rfl⟩
    obtain ⟨PE, hPE⟩ : ∃ PE, PE = hqE h := ⟨_, rfl⟩
    rw [← hPB, ← hPE]
    have HPB := Lib.hid hPB
    have HPE := Lib.hid hPE
    clear hPB hPE
    go_enter Try.func9, Try.ntmps9
    go_wp2
    go_ret2
    exact ⟨.slice none 0 0, by rw [HPE.out, HX.out.2]; rfl, by rw [HPB.out, HX.out.1]; exact Bs.nil, (Below.refl _ _).alloc (Nat.le_refl _) _⟩
  have HX := Lib.hid (show hqB h = hq16 h ∧ hqE h = 0 from ⟨hqB_yes ⟨⟨by omega, by omega⟩, ⟨by omega, by omega⟩, ⟨by omega, by omega⟩, by omega, by omega⟩, hqE_yes ⟨⟨by omega, by omega⟩, ⟨by omega, by omega⟩, ⟨by omega, by omega⟩, by omega, by omega⟩⟩)
  obtain ⟨PB, hPB⟩ : ∃ PB, PB = hqB h := ⟨_, rfl⟩
  obtain ⟨PE, hPE⟩ : ∃ PE, PE = hqE h := ⟨_, rfl⟩
  rw [← hPB, ← hPE]
  have HPB := Lib.hid hPB
  have HPE := Lib.hid hPE
  clear hPB hPE
  obtain ⟨i, hi⟩ := Int.eq_ofNat_of_zero_le (show 0 ≤ h.id by omega)
  obtain ⟨gn, hgn⟩ := Int.eq_ofNat_of_zero_le (show 0 ≤ h.gn by omega)
  obtain ⟨rt, hrt⟩ := Int.eq_ofNat_of_zero_le (show 0 ≤ h.rt by omega)
  obtain ⟨ht, hht⟩ := Int.eq_ofNat_of_zero_le (show 0 ≤ h.ht by omega)
  have HQ1 := Lib.hid (show [113] ++ be 4 i = hq1 h by unfold hq1; rw [hi, Int.toNat_natCast])
  have HQ2 := Lib.hid (show hq1 h ++ be 3 gn = hq2 h by unfold hq2; rw [hgn, Int.toNat_natCast])
  have HQ3 := Lib.hid (show hq2 h ++ be 2 rt = hq3 h by unfold hq3; rw [hrt, Int.toNat_natCast])
  have HQ4 := Lib.hid (show hq3 h ++ [UInt8.ofNat ht, 0] = hq12 h by unfold hq12 hq4; rw [hht, Int.toNat_natCast, show be 1 ht = [UInt8.ofNat ht] by simp [be, List.range_succ], List.append_assoc]; rfl)
  have HT1 := Lib.hid (fun A c W (hv : Bs W W.heap.size (.slice A ([(113 : UInt8)]).length c) ([(113 : UInt8)])) => show Calls Try.prog 18 #[.slice A ([(113 : UInt8)]).length c, .int .i64 (i : Nat), .int .i64 4] W (fun e w' => ∃ v', e = .returned (.tuple #[v', .int .i64 0]) ∧ w'.ownsRow W.heap.size 5 1 v' (hq1 h).length ((hq1 h).map oct) ∧ Below W.heap.size W w') from by
    rw [← HQ1.out]
    exact rput_ok A _ c ([(113 : UInt8)]) (i) 4 W hv (by simp) (by omega) (by omega) (by omega))
  have HT2 := Lib.hid (fun A c W (hv : Bs W W.heap.size (.slice A (hq1 h).length c) (hq1 h)) => show Calls Try.prog 18 #[.slice A (hq1 h).length c, .int .i64 (gn : Nat), .int .i64 3] W (fun e w' => ∃ v', e = .returned (.tuple #[v', .int .i64 0]) ∧ w'.ownsRow W.heap.size 5 1 v' (hq2 h).length ((hq2 h).map oct) ∧ Below W.heap.size W w') from by
    rw [← HQ2.out]
    exact rput_ok A _ c (hq1 h) (gn) 3 W hv (by rw [hq1_len]; omega) (by omega) (by omega) (by omega))
  have HT3 := Lib.hid (fun A c W (hv : Bs W W.heap.size (.slice A (hq2 h).length c) (hq2 h)) => show Calls Try.prog 18 #[.slice A (hq2 h).length c, .int .i64 (rt : Nat), .int .i64 2] W (fun e w' => ∃ v', e = .returned (.tuple #[v', .int .i64 0]) ∧ w'.ownsRow W.heap.size 5 1 v' (hq3 h).length ((hq3 h).map oct) ∧ Below W.heap.size W w') from by
    rw [← HQ3.out]
    exact rput_ok A _ c (hq2 h) (rt) 2 W hv (by rw [hq2_len]; omega) (by omega) (by omega) (by omega))
  have HT4 := Lib.hid (fun A n c W (hv : Bs W W.heap.size (.slice A n c) (hq12 h)) => show Calls Try.prog 18 #[.slice A n c, .int .i64 (fnv (90 :: hq12 h) : Nat), .int .i64 4] W (fun e w' => ∃ v', e = .returned (.tuple #[v', .int .i64 0]) ∧ w'.ownsRow W.heap.size 5 1 v' (hq16 h).length ((hq16 h).map oct) ∧ Below W.heap.size W w') from by
    rw [← (show hq12 h ++ be 4 (fnv (90 :: hq12 h)) = hq16 h from rfl)]
    exact rput_ok A n c (hq12 h) (fnv (90 :: hq12 h)) 4 W hv (by rw [hq12_len]; omega) (by omega) (by omega) (by have := fnv_lt (90 :: hq12 h); omega))
  have HL3 := Lib.hid (hq3_len h)
  have HL12 := Lib.hid (hq12_len h)
  have hht5 : (ht : Int) ≤ 5 := by omega
  have HHT := Lib.hid hht5
  rw [show h.v = .agg #[.int .i64 (i : Nat), .int .i64 (gn : Nat), .int .i64 (rt : Nat), .int .i64 (ht : Nat)] by rw [← hi, ← hgn, ← hrt, ← hht]]
  rw [hi] at k0 k1
  rw [hgn] at k2 k3
  rw [hrt] at k4 k5
  rw [hht] at k6 k7
  have HC12 := Lib.hid (fun A n c W (hv : Bs W W.heap.size (.slice A n c) (hq12 h)) => rcheck_any A n c (hq12 h) W hv (by rw [hq12_len]; omega))
  have HV0 := Lib.hid (show Bs ((w.alloc (.cells #[.int .i64 (i : Nat), .int .i64 (gn : Nat), .int .i64 (rt : Nat), .int .i64 (ht : Nat)] 23)).alloc (.cells #[.int .u8 113] 5)) ((w.alloc (.cells #[.int .i64 (i : Nat), .int .i64 (gn : Nat), .int .i64 (rt : Nat), .int .i64 (ht : Nat)] 23)).alloc (.cells #[.int .u8 113] 5)).heap.size (.slice (some ⟨w.heap.size + 1, 0, none⟩) [(113 : UInt8)].length 1) [113] from by
    have := Bs.fresh (w.alloc (.cells #[.int .i64 (i : Nat), .int .i64 (gn : Nat), .int .i64 (rt : Nat), .int .i64 (ht : Nat)] 23)) [113] 5 (by unfold maxLen; simp)
    simpa [oct] using this)
  clear hi hgn hrt hht
  generalize fnv (90 :: hq12 h) = F at *
  generalize hq12 h = X12 at *
  generalize hq1 h = X1 at *
  generalize hq2 h = X2 at *
  generalize hq3 h = X3 at *
  generalize hq16 h = X16 at *
  go_enter Try.func9, Try.ntmps9
  go_wp2_with fail
  obtain ⟨g, hg⟩ : ∃ g, g = w.heap.size := ⟨_, rfl⟩
  obtain ⟨w0, hw0⟩ : ∃ w0, w0 = ((w.alloc (.cells #[.int .i64 (i : Nat), .int .i64 (gn : Nat), .int .i64 (rt : Nat), .int .i64 (ht : Nat)] 23)).alloc (.cells #[.int .u8 113] 5)) := ⟨_, rfl⟩
  have HC0 := Lib.hid (show HB4 g i gn rt ht w0 from by rw [hw0, hg]; exact ⟨by simp [go_sem], by simp [go_sem], by simp [go_sem], by simp [go_sem], by simp; omega⟩)
  have HB0 := Lib.hid (show Below w.heap.size w w0 from by rw [hw0]; exact (((Below.refl _ _).alloc (Nat.le_refl _) _).alloc (by simp) _))
  rw [← hw0, ← hg] at HV0 ⊢
  have HG := Lib.hid hg
  clear hw0 hg
  refine (HT1.out _ _ _ HV0.out).mono ?_
  rintro e w1 ⟨v1, rfl, ho, hb⟩
  obtain ⟨A1, c1, rfl⟩ := own_form ho
  have HC1 := Lib.hid (HC0.out.up hb)
  have HV1 := Lib.hid (Bs.of_own ho)
  have HB1 := Lib.hid (HB0.out.trans (hb.mono HB0.out.size))
  clear ho hb HC0 HV0 HB0
  obtain ⟨-, x1, x2, x3, xl⟩ := HC1.out
  go_wp2_with fail
  refine (HT2.out _ _ _ HV1.out).mono ?_
  rintro e w2 ⟨v2, rfl, ho, hb⟩
  obtain ⟨A2, c2, rfl⟩ := own_form ho
  have HC2 := Lib.hid (HC1.out.up hb)
  have HV2 := Lib.hid (Bs.of_own ho)
  have HB2 := Lib.hid (HB1.out.trans (hb.mono HB1.out.size))
  clear ho hb HC1 HV1 HB1 x1 x2 x3 xl
  obtain ⟨-, -, x2, x3, xl⟩ := HC2.out
  go_wp2_with fail
  refine (HT3.out _ _ _ HV2.out).mono ?_
  rintro e w3 ⟨v3, rfl, ho, hb⟩
  obtain ⟨A3, c3, rfl⟩ := own_form ho
  have HC3 := Lib.hid (HC2.out.up hb)
  have HO3 := Lib.hid (own_low ho HB2.out.size)
  have HB3 := Lib.hid (HB2.out.trans (hb.mono HB2.out.size))
  clear ho hb HC2 HV2 HB2 x2 x3 xl
  obtain ⟨-, -, -, x3, xl⟩ := HC3.out
  go_wp2_with (at_builtin; refine wpList_append_rd _ rfl _ _ 24 rfl w.heap.size 5 i0 _ 1 1 Try.underlying24 hi0 hz0 hz1 hz2 rfl (by omega) _ _ _ rfl (HO3.out.alloc _) _ _ _ _ _ rfl (Rd.fresh w3 _ _) (by intro u hu; simp at hu; rcases hu with rfl | rfl <;> rfl) (by have := HL3.out; unfold maxLen; simp at *; omega) (by have := HL3.out; simp at *; omega) (by have := HB3.out.size; simp; omega) ?_; intro v4 w4 hown4 hg4 _; obtain ⟨A4, c4, rfl⟩ := own_form hown4)
  have HV4 := Lib.hid (show Bs w4 w4.heap.size (.slice A4 (X3.length + 2) c4) X12 from by
    refine Bs.of_own (base := w.heap.size) (e := 5) (n := X3.length + 2) ?_
    rw [← HQ4.out, List.map_append, show [UInt8.ofNat ht, 0].map oct = [.int .u8 (ht : Nat), .int .u8 0] from by
      have e := oct_mod ht
      have e2 : ((ht : Nat) : Int) % 256 = (ht : Nat) := by have := HHT.out; omega
      rw [e2] at e
      simp [e]; rfl]
    exact hown4)
  have HB4' := Lib.hid ((HB3.out.alloc HB3.out.size _).grown hg4 (by have := HB3.out.size; simp; omega) (fun g hg => (World.ownsRow.lt HO3.out g hg).1))
  clear hown4 hg4 HO3 HB3 HC3 x3 xl
  refine (HC12.out _ _ _ _ HV4.out).mono ?_
  rintro e w5 ⟨rfl, hb⟩
  have HV5 := Lib.hid ((HV4.out.below hb).more hb.size)
  have HB5 := Lib.hid (HB4'.out.trans (hb.mono HB4'.out.size))
  clear hb HV4
  go_wp2_with fail
  refine (HT4.out _ _ _ _ HV5.out).mono ?_
  rintro e w6 ⟨v6, rfl, ho, hb⟩
  have HV6 := Lib.hid (Bs.of_own ho)
  have HB6 := Lib.hid (HB5.out.trans (hb.mono HB5.out.size))
  clear ho hb
  go_wp2
  go_ret2
  exact ⟨v6, by rw [HPE.out, HX.out.2]; rfl, by rw [HPB.out, HX.out.1]; exact HV6.out, HB6.out⟩
end Go.Proofs.Ytkkgfnncdaiooaa
namespace Go.Proofs.Ytkkgfnncdaiooaa
open Go.RowKit
set_option linter.unusedVariables false

/-- Block q holds a handle, and may be written. -/
structure Qb (W : World) (q : Nat) (H : Hq) : Prop where
  c0 : W.cell? ⟨q, 0, none⟩ = some (.int .i64 H.id)
  c1 : W.cell? ⟨q, 1, none⟩ = some (.int .i64 H.gn)
  c2 : W.cell? ⟨q, 2, none⟩ = some (.int .i64 H.rt)
  c3 : W.cell? ⟨q, 3, none⟩ = some (.int .i64 H.ht)
  fr : ∀ o, W.frozen? ⟨q, o, none⟩ = false
  lt : q < W.heap.size
/-- A handle with another number at place k. -/
def Hq.put (H : Hq) (k : Nat) (x : Int) : Hq := match k with | 0 => ⟨x, H.gn, H.rt, H.ht⟩ | 1 => ⟨H.id, x, H.rt, H.ht⟩ | 2 => ⟨H.id, H.gn, x, H.ht⟩ | _ => ⟨H.id, H.gn, H.rt, x⟩
section
variable {w W W' : World} {p q g : Nat} {H : Hq}
theorem Qb.start (w : World) (a b c d : Int) (t : TypeId) : Qb (w.alloc (.cells #[.int .i64 a, .int .i64 b, .int .i64 c, .int .i64 d] t)) w.heap.size ⟨a, b, c, d⟩ :=
  ⟨by simp [go_sem], by simp [go_sem], by simp [go_sem], by simp [go_sem], fun o => by simp [go_sem], by simp⟩
theorem Qb.keep (h : Qb W q H) (hs : W.heap.size ≤ W'.heap.size) (hc : ∀ o, W'.cell? ⟨q, o, none⟩ = W.cell? ⟨q, o, none⟩) (hf : ∀ o, W'.frozen? ⟨q, o, none⟩ = W.frozen? ⟨q, o, none⟩) : Qb W' q H :=
  ⟨(hc 0).trans h.c0, (hc 1).trans h.c1, (hc 2).trans h.c2, (hc 3).trans h.c3, fun o => (hf o).trans (h.fr o), Nat.lt_of_lt_of_le h.lt hs⟩
theorem Qb.up (h : Qb W q H) (hb : Below W.heap.size W W') : Qb W' q H := h.keep hb.size (fun o => hb.cell (p := ⟨q, o, none⟩) h.lt) (fun o => hb.frozen (p := ⟨q, o, none⟩) h.lt)
theorem Qb.alloc (h : Qb W q H) (o : Obj) : Qb (W.alloc o) q H := h.up ((Below.refl _ _).alloc (Nat.le_refl _) o)
theorem Qb.other (h : Qb W q H) {a : Addr} (hne : a.block ≠ q) (v : Value) : Qb (W.setCell a v) q H :=
  h.keep (by simp) (fun o => World.cell?_setCell_other W a ⟨q, o, none⟩ v (fun e => hne (by rw [e]))) (fun o => by simp [go_sem])
theorem Qb.all (h : Qb W q H) : (W.cell? ⟨q, 0, none⟩ = some (.int .i64 H.id) ∧ W.cell? ⟨q, 1, none⟩ = some (.int .i64 H.gn) ∧ W.cell? ⟨q, 2, none⟩ = some (.int .i64 H.rt) ∧ W.cell? ⟨q, 3, none⟩ = some (.int .i64 H.ht) ∧ q < W.heap.size) ∧
    W.frozen? ⟨q, 0, none⟩ = false ∧ W.frozen? ⟨q, 1, none⟩ = false ∧ W.frozen? ⟨q, 2, none⟩ = false ∧ W.frozen? ⟨q, 3, none⟩ = false := ⟨⟨h.c0, h.c1, h.c2, h.c3, h.lt⟩, h.fr 0, h.fr 1, h.fr 2, h.fr 3⟩
theorem Qb.set (h : Qb W q H) (a b c d : Int) : Qb ((((W.setCell ⟨q, 0, none⟩ (.int .i64 a)).setCell ⟨q, 1, none⟩ (.int .i64 b)).setCell ⟨q, 2, none⟩ (.int .i64 c)).setCell ⟨q, 3, none⟩ (.int .i64 d)) q ⟨a, b, c, d⟩ := by
  obtain ⟨⟨c0, c1, c2, c3, l⟩, _⟩ := h.all
  exact ⟨by simp [go_sem, c0], by simp [go_sem, c1], by simp [go_sem, c2], by simp [go_sem, c3], fun o => by simp [go_sem, h.fr o], by simp [l]⟩
theorem Qb.put1 (h : Qb W q H) (k : Nat) (hk : k < 4) (x : Int) : Qb (W.setCell ⟨q, k, none⟩ (.int .i64 x)) q (H.put k x) := by
  obtain ⟨⟨c0, c1, c2, c3, l⟩, _⟩ := h.all
  match k, hk with
  | 0, _ => exact ⟨by simp [go_sem, c0, Hq.put], by simp [go_sem, c1, Hq.put], by simp [go_sem, c2, Hq.put], by simp [go_sem, c3, Hq.put], fun o => by simp [go_sem, h.fr o], by simp [l]⟩
  | 1, _ => exact ⟨by simp [go_sem, c0, Hq.put], by simp [go_sem, c1, Hq.put], by simp [go_sem, c2, Hq.put], by simp [go_sem, c3, Hq.put], fun o => by simp [go_sem, h.fr o], by simp [l]⟩
  | 2, _ => exact ⟨by simp [go_sem, c0, Hq.put], by simp [go_sem, c1, Hq.put], by simp [go_sem, c2, Hq.put], by simp [go_sem, c3, Hq.put], fun o => by simp [go_sem, h.fr o], by simp [l]⟩
  | 3, _ => exact ⟨by simp [go_sem, c0, Hq.put], by simp [go_sem, c1, Hq.put], by simp [go_sem, c2, Hq.put], by simp [go_sem, c3, Hq.put], fun o => by simp [go_sem, h.fr o], by simp [l]⟩
theorem Qb.has (h : Qb W q H) (k : Nat) (hk : k < 4) : (W.cell? ⟨q, k, none⟩).isSome = true := by
  match k, hk with
  | 0, _ => rw [h.c0]; rfl
  | 1, _ => rw [h.c1]; rfl
  | 2, _ => rw [h.c2]; rfl
  | 3, _ => rw [h.c3]; rfl
end
/-- What Parse returns. -/
def PH (w : World) (H : Hq) (x : Int) (e : Ending) (w' : World) : Prop := e = .returned (.tuple #[H.v, .int .i64 x]) ∧ Below w.heap.size w w'

theorem equal_any (v0 v1 : Value) (b0 b1 : List UInt8) (w : World) (h0 : Bs w w.heap.size v0 b0) (h1 : Bs w w.heap.size v1 b1) :
    Calls Try.prog 21 #[v0, v1] w fun e w' => e = .returned (.bool (b0 == b1)) ∧ w = w' := by
  have c0 := run_convert_bs (P := Try.prog) w 24 5 9 Try.underlying24 Try.underlying5 Try.underlying9 h0
  have c1 := run_convert_bs (P := Try.prog) w 24 5 9 Try.underlying24 Try.underlying5 Try.underlying9 h1
  clear h0 h1
  go_enter Try.func21, Try.ntmps21
  go_wp2
  go_ret
  exact ⟨rfl, rfl⟩

open Classical in
theorem eqh_in (a b : Hq) (W : World) : (Op.equalIn 10000 23 a.v b.v).run Try.prog W = .ok (decide (a = b)) W := by
  have u3 := Try.underlying3
  have hS : Try.prog.underlying 23 = some (.struct (Try.prog.fieldsOf 23)) := by kernel_rfl
  have hp : Try.prog.stoodInHeld 23 = false := by kernel_rfl
  rw [show (10000 : Nat) = 9999 + 1 from rfl, run_equalIn_agg W 9999 23 _ _ hS hp]
  simp only [Program.fieldsOf, Try.underlying23]
  by_cases h0 : a.id = b.id
  · have h0' : (a.id == b.id) = true := by simpa using h0
    by_cases h1 : a.gn = b.gn
    · have h1' : (a.gn == b.gn) = true := by simpa using h1
      by_cases h2 : a.rt = b.rt
      · have h2' : (a.rt == b.rt) = true := by simpa using h2
        by_cases h3 : a.ht = b.ht
        · have h3' : (a.ht == b.ht) = true := by simpa using h3
          have e : decide (a = b) = true := decide_eq_true (Hq.ext4 h0 h1 h2 h3)
          rw [e]
          clear e h0 h1 h2 h3
          go_simp
        · have h3' : (a.ht == b.ht) = false := by simpa using h3
          have e : decide (a = b) = false := decide_eq_false (fun e => h3 (by rw [e]))
          rw [e]
          clear e h0 h1 h2 h3
          go_simp
      · have h2' : (a.rt == b.rt) = false := by simpa using h2
        have e : decide (a = b) = false := decide_eq_false (fun e => h2 (by rw [e]))
        rw [e]
        clear e h0 h1 h2
        go_simp
    · have h1' : (a.gn == b.gn) = false := by simpa using h1
      have e : decide (a = b) = false := decide_eq_false (fun e => h1 (by rw [e]))
      rw [e]
      clear e h0 h1
      go_simp
  · have h0' : (a.id == b.id) = false := by simpa using h0
    have e : decide (a = b) = false := decide_eq_false (fun e => h0 (by rw [e]))
    rw [e]
    clear e h0
    go_simp
open Classical in
theorem eqh (a b : Hq) : ∀ W, (binOp .eql 23 a.v b.v).run Try.prog W = .ok (.bool (decide (a = b))) W := fun W => by
  rw [run_eql_struct, eqh_in]; rfl
open Classical in
theorem neqh (a b : Hq) : ∀ W, (binOp .neq 23 a.v b.v).run Try.prog W = .ok (.bool (!decide (a = b))) W := fun W => by
  rw [run_neq_struct, eqh_in]; rfl
end Go.Proofs.Ytkkgfnncdaiooaa
namespace Go.Proofs.Ytkkgfnncdaiooaa
open Go.RowKit
set_option linter.unusedVariables false

/-- Where the number at place k begins. -/
def hqO (k : Nat) : Nat := match k with | 0 => 1 | 1 => 5 | 2 => 8 | 3 => 10 | _ => 11
/-- What has been read behind k numbers. -/
def rdK (bs : List UInt8) (k : Nat) : Hq := match k with | 0 => zq | 1 => ⟨(rdq bs).id, 0, 0, 0⟩ | 2 => ⟨(rdq bs).id, (rdq bs).gn, 0, 0⟩ | 3 => ⟨(rdq bs).id, (rdq bs).gn, (rdq bs).rt, 0⟩ | _ => rdq bs
theorem rdK_next (bs : List UInt8) (k : Nat) (hk : k < 4) : rdK bs (k + 1) = (rdK bs k).put k (gtR (hqO k) (hqS k) bs).1 := by
  match k, hk with
  | 0, _ => rfl
  | 1, _ => rfl
  | 2, _ => rfl
  | 3, _ => rfl
theorem hqO_next (k : Nat) (hk : k < 4) : hqO (k + 1) = hqO k + hqS k := by
  match k, hk with
  | 0, _ => rfl
  | 1, _ => rfl
  | 2, _ => rfl
  | 3, _ => rfl
theorem hqO_le (k : Nat) : hqO k ≤ 11 ∧ hqS k ≤ 4 := by
  match k with
  | 0 => decide
  | 1 => decide
  | 2 => decide
  | 3 => decide
  | k + 4 => exact ⟨by show 11 ≤ 11; omega, by show 1 ≤ 4; omega⟩
/-- The boxes of Parse. -/
structure PQ (w : World) (r g : Nat) (H : Hq) (W : World) : Prop where
  rb : Qb W r zq
  gb : Qb W g H
  ne : r < g
  old : w.heap.size ≤ r
  bel : Below w.heap.size w W
section
variable {w W W' : World} {r g : Nat} {H : Hq}
theorem PQ.up (h : PQ w r g H W) (hb : Below W.heap.size W W') : PQ w r g H W' := ⟨h.rb.up hb, h.gb.up hb, h.ne, h.old, h.bel.trans (hb.mono h.bel.size)⟩
theorem PQ.put (h : PQ w r g H W) (k : Nat) (hk : k < 4) (x : Int) : PQ w r g (H.put k x) (W.setCell ⟨g, k, none⟩ (.int .i64 x)) :=
  ⟨h.rb.other (by have := h.ne; show g ≠ r; omega) _, h.gb.put1 k hk x, h.ne, h.old, h.bel.setCell (by have := h.ne; have := h.old; show w.heap.size ≤ g; omega) _⟩
theorem PQ.out (h : PQ w r g H W) (a b c d : Value) : Below w.heap.size w ((((W.setCell ⟨r, 0, none⟩ a).setCell ⟨r, 1, none⟩ b).setCell ⟨r, 2, none⟩ c).setCell ⟨r, 3, none⟩ d) :=
  (((h.bel.setCell (p := ⟨r, 0, none⟩) h.old _).setCell (p := ⟨r, 1, none⟩) h.old _).setCell (p := ⟨r, 2, none⟩) h.old _).setCell (p := ⟨r, 3, none⟩) h.old _
end
abbrev F2 (p g k s : Nat) (W : World) : Prop := W.cell? ⟨p, 0, none⟩ = some (.pointer (some ⟨g, k, none⟩)) ∧ W.cell? ⟨p, 1, none⟩ = some (.int .i64 (s : Nat))
theorem F2.off {p g k s : Nat} {W : World} (h : F2 p g k s W) (hp : g ≠ p) (j : Nat) (v : Value) : F2 p g k s (W.setCell ⟨g, j, none⟩ v) :=
  ⟨by rw [World.cell?_setCell_other _ _ _ _ (fun e => hp (by injection e))]; exact h.1, by rw [World.cell?_setCell_other _ _ _ _ (fun e => hp (by injection e))]; exact h.2⟩

set_option maxHeartbeats 4000000 in
set_option maxRecDepth 20000 in
theorem parse_any (A : Option Addr) (l c : Nat) (bs : List UInt8) (w : World) (hv : Bs w w.heap.size (.slice A l c) bs) (hl : l ≤ 1099511627776) :
    Calls Try.prog 10 #[.slice A l c] w (PH w (pqH bs) (pqE bs)) := by
  obtain ⟨P0, hP0⟩ : ∃ P0, P0 = pqH bs := ⟨_, rfl⟩
  obtain ⟨P1, hP1⟩ : ∃ P1, P1 = pqE bs := ⟨_, rfl⟩
  have HP0 := Lib.hid hP0
  have HP1 := Lib.hid hP1
  rw [← hP0, ← hP1]
  have HV := Lib.hid hv
  have HL := Lib.hid hl
  clear hP0 hP1 hv hl
  go_enter Try.func10, Try.ntmps10
  go_wp2_with fail
  obtain ⟨r, hr⟩ : ∃ r, r = w.heap.size := ⟨_, rfl⟩
  obtain ⟨w0, hw0⟩ : ∃ w0, w0 = ((w.alloc (.cells #[.int .i64 0, .int .i64 0, .int .i64 0, .int .i64 0] 23)).alloc (.cells #[.int .i64 0, .int .i64 0, .int .i64 0, .int .i64 0] 23)) := ⟨_, rfl⟩
  have HQ0 := Lib.hid (show PQ w r (r + 1) zq w0 from by
    rw [hw0, hr]
    have h1 := Qb.start w 0 0 0 0 23
    have h2 := Qb.start (w.alloc (.cells #[.int .i64 0, .int .i64 0, .int .i64 0, .int .i64 0] 23)) 0 0 0 0 23
    exact ⟨h1.alloc _, by simpa using h2, Nat.lt_succ_self _, Nat.le_refl _, ((Below.refl _ _).alloc (Nat.le_refl _) _).alloc (by simp) _⟩)
  rw [← hw0, ← hr]
  clear hw0 hr
  obtain ⟨g, hg⟩ : ∃ g, g = r + 1 := ⟨_, rfl⟩
  rw [← hg] at HQ0 ⊢
  clear hg
  refine (fields_any _ _).mono ?_
  rintro e w1 ⟨rfl, hb⟩
  have HQ1 := Lib.hid (HQ0.out.up hb)
  have HI := Lib.hid (fq_index g)
  clear hb HQ0
  go_wp2
  go_loopw [5, 7, 11] (fun t _ i wr => ∃ k : Nat, k ≤ 4 ∧ i = .int .i64 k ∧ t = .int .i64 (hqO k : Nat) ∧ Hid (PQ w r g (rdK bs k) wr)) (fun _ _ i _ => 4 - (intOf i).toNat)
  case atStart => exact ⟨0, by omega, rfl, rfl, HQ1⟩
  case round =>
    clear HQ1
    obtain ⟨k, hk, rfl, rfl, HQ⟩ := hrel
    by_cases hlt : k < 4
    · have hi := HI.out k hlt
      have HN := Lib.hid (rdK_next bs k hlt)
      have HON := Lib.hid (hqO_next k hlt)
      have hole := (hqO_le k).1
      have hsle := (hqO_le k).2
      have HGT := Lib.hid (fun W (hb : Below w.heap.size w W) => get_all A l c bs (hqO k : Nat) (hqS k : Nat) W ((HV.out.below hb).more hb.size) HL.out)
      obtain ⟨K1, hK1⟩ : ∃ K1, K1 = rdK bs (k + 1) := ⟨_, rfl⟩
      rw [← hK1] at HN
      have HK1 := Lib.hid hK1
      clear hK1
      generalize hqL k = lo at *
      generalize hqM k = mx at *
      generalize hqS k = s at *
      generalize hqO k = o0 at *
      generalize rdK bs k = K0 at *
      obtain ⟨y, hy⟩ : ∃ y, y = gtR (o0 : Nat) (s : Nat) bs := ⟨_, rfl⟩
      rw [← hy] at HGT HN
      clear hy
      obtain ⟨y0, y1⟩ := y
      go_wp2
      obtain ⟨p, hp⟩ : ∃ p, p = wr.heap.size := ⟨_, rfl⟩
      obtain ⟨wf, hwf⟩ : ∃ wf, wf = wr.alloc (.cells #[.pointer (some ⟨g, k, none⟩), .int .i64 (s : Nat), .int .i64 lo, .int .i64 mx] 41) := ⟨_, rfl⟩
      rw [← hwf, ← hp]
      have HS0 := Lib.hid (show F2 p g k s wf from by rw [hwf, hp]; exact ⟨by simp [go_sem], by simp [go_sem]⟩)
      have HGP := Lib.hid (show g ≠ p from by have := HQ.out.gb.lt; omega)
      have hpl : p < wf.heap.size := by rw [hwf, hp]; simp
      have HQF := Lib.hid (show PQ w r g K0 wf from by rw [hwf]; exact HQ.out.up ((Below.refl _ _).alloc (Nat.le_refl _) _))
      clear hwf hp HQ
      obtain ⟨f0, f1⟩ := HS0.out
      obtain ⟨vv, hvv⟩ := Option.isSome_iff_exists.1 (HQF.out.gb.has k hlt)
      have hfr := HQF.out.gb.fr k
      have hgl := HQF.out.gb.lt
      have HSD := Lib.hid (show F2 p g k s wf.drew from HS0.out)
      have HS1 := Lib.hid (show F2 p g k s (wf.setCell ⟨g, k, none⟩ (.int .i64 y0)).drew from F2.off (W := wf) HS0.out HGP.out k _)
      have HBF := Lib.hid (show Below w.heap.size w wf.drew from HQF.out.bel.drew)
      have HQ1 := Lib.hid (show PQ w r g K1 (wf.setCell ⟨g, k, none⟩ (.int .i64 y0)).drew from by rw [HN.out]; exact (HQF.out.put k hlt y0).up (Below.refl _ _).drew)
      go_region_held3 (fun W => F2 p g k s W)
        (first | with_reducible exact HS0.out | with_reducible exact HSD.out | with_reducible exact HS1.out)
        (first | (go_at_call 20; (with_reducible refine (HGT.out _ HBF.out).mono ?_); rintro e w2 ⟨rfl, rfl⟩))
      have g1 : (wf.setCell ⟨g, k, none⟩ (.int .i64 y0)).drew.cell? ⟨p, 1, none⟩ = some (.int .i64 (s : Nat)) := HS1.out.2
      generalize (wf.setCell ⟨g, k, none⟩ (.int .i64 y0)).drew = wz at *
      go_wp2
      go_roundw
      case rel => exact ⟨k + 1, by omega, by go_num, by rw [HON.out]; go_num, by rw [← HK1.out]; exact HQ1⟩
      case measure => simp [intOf]; omega
    · obtain rfl : k = 4 := by omega
      have HQ2 := Lib.hid (show PQ w r g (rdq bs) wr from HQ.out)
      have HVR := Lib.hid (HV.out.below HQ.out.bel)
      have HGE := Lib.hid (show PqR bs ∨ ¬ PqR bs from Classical.em _)
      have HPQ := Lib.hid (show PqR bs ↔ HqR (rdq bs) ∧ hq16 (rdq bs) = bs from Iff.rfl)
      have HY := Lib.hid (fun (h : PqR bs) => pq_yes h)
      have HZ := Lib.hid (fun (h : ¬ PqR bs) => pq_no h)
      clear HQ HI HV
      generalize rdq bs = H at *
      obtain ⟨⟨x0, x1, x2, x3, xl⟩, e0, e1, e2, e3⟩ := HQ2.out.gb.all
      go_wp2_with fail
      refine (enc_any H wr).mono ?_
      rintro e w2 ⟨v2, rfl, hv2, hb⟩
      obtain ⟨A2, c2, rfl, -, -, -⟩ := id hv2
      have HQ3 := Lib.hid (HQ2.out.up hb)
      have HVB := Lib.hid hv2
      have HVA := Lib.hid ((HVR.out.below (hb.mono HQ2.out.bel.size)).more (show w.heap.size ≤ w2.heap.size by have := HQ3.out.bel.size; exact this))
      clear hb hv2 HQ2 HVR x0 x1 x2 x3 xl e0 e1 e2 e3
      obtain ⟨⟨x0, x1, x2, x3, xl⟩, -⟩ := HQ3.out.gb.all
      obtain ⟨⟨r0, r1, r2, r3, rl⟩, e0, e1, e2, e3⟩ := HQ3.out.rb.all
      by_cases hr : HqR H
      · rw [hqB_yes hr] at HVB ⊢
        rw [hqE_yes hr]
        by_cases he : hq16 H = bs
        · have HP := Lib.hid (HY.out (HPQ.out.2 ⟨hr, he⟩))
          have heq : (hq16 H == bs) = true := by simpa using he
          clear he hr
          go_wp2_with fail
          refine (equal_any _ _ _ _ _ HVB.out HVA.out).mono ?_
          rintro e w3 ⟨rfl, rfl⟩
          go_wp2
          exact bodyPost_ret (v := .tuple #[H.v, .int .i64 0]) (by simp only [results, Try.results10]; go_simp <;> rfl) rfl ⟨by rw [HP0.out, HP1.out, HP.out.1, HP.out.2], HQ3.out.out _ _ _ _⟩
        · have HP := Lib.hid (HZ.out (fun h => he (HPQ.out.1 h).2))
          have heq : (hq16 H == bs) = false := by simpa using he
          clear he hr
          go_wp2_with fail
          refine (equal_any _ _ _ _ _ HVB.out HVA.out).mono ?_
          rintro e w3 ⟨rfl, rfl⟩
          go_wp2
          exact bodyPost_ret (v := .tuple #[zq.v, .int .i64 8]) (by simp only [results, Try.results10]; go_simp <;> rfl) rfl ⟨by rw [HP0.out, HP1.out, HP.out.1, HP.out.2], HQ3.out.out _ _ _ _⟩
      · have HP := Lib.hid (HZ.out (fun h => hr (HPQ.out.1 h).1))
        rw [hqE_no hr]
        clear hr
        go_wp2
        exact bodyPost_ret (v := .tuple #[zq.v, .int .i64 8]) (by simp only [results, Try.results10]; go_simp <;> rfl) rfl ⟨by rw [HP0.out, HP1.out, HP.out.1, HP.out.2], HQ3.out.out _ _ _ _⟩
end Go.Proofs.Ytkkgfnncdaiooaa
