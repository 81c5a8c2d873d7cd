/- What is proved here: shardqueueref03.Decode, by one contract for all arguments. -/
import Derived.Test.YtjiampelmiaflaaMdd
import Derived.Test.YtjiampelmiaflaaRgv
import Derived.Test.YtjiampelmiaflaaRgx
namespace Go.Proofs.Ytjiampelmiaflaa
open Go.RowKit
set_option linter.unusedVariables false

set_option maxHeartbeats 8000000 in
set_option maxRecDepth 20000 in
theorem rdecode_any (A : Option Addr) (l c : Nat) (bs : List UInt8) (w : World) (hv : Bs w w.heap.size (.slice A l c) bs) (hl : l ≤ 1099511627776) :
    Calls Try.prog 34 #[.slice A l c] w (DcEnd w bs) := by
  obtain ⟨rfl, _, _⟩ := hv.len
  have hL : (bs.length : Int) ≤ 1099511627776 := by omega
  obtain ⟨g, hg⟩ : ∃ g, g = w.heap.size := ⟨_, rfl⟩
  have hm2 := (MAt.fresh (f := fun _ => 0) w 0 0 0 0 0 0 ByteArray.empty 23 rfl rfl rfl rfl rfl rfl).alloc (.cells #[.int .i64 0, .int .i64 0, .int .i64 0, .int .i64 0, .int .i64 0, .int .i64 0] 58)
  have hm4 := NAt.fresh (w.alloc (.cells #[.int .i64 0, .int .i64 0, .int .i64 0, .int .i64 0, .int .i64 0, .int .i64 0, .string ByteArray.empty] 23)) 58
  have hB2 := ((Below.refl w.heap.size w).alloc (Nat.le_refl _) (.cells #[.int .i64 0, .int .i64 0, .int .i64 0, .int .i64 0, .int .i64 0, .int .i64 0, .string ByteArray.empty] 23)).alloc (o := .cells #[.int .i64 0, .int .i64 0, .int .i64 0, .int .i64 0, .int .i64 0, .int .i64 0] 58) (by simp)
  rw [show (w.alloc (.cells #[.int .i64 0, .int .i64 0, .int .i64 0, .int .i64 0, .int .i64 0, .int .i64 0, .string ByteArray.empty] 23)).heap.size = w.heap.size + 1 by simp] at hm4
  have HM2 := Lib.hid hm2
  have HM4 := Lib.hid hm4
  have HB3 := Lib.hid hB2
  have HV := Lib.hid hv
  have HG := Lib.hid hg
  clear hv hl hm2 hm4 hB2 hg
  go_enter Try.func34, Try.ntmps34
  go_wp2
  rw [← HG.out]
  rw [← HG.out] at HM2 HM4
  go_loopw [5, 6] (fun a i wr => ∃ (k : Nat) (f : Nat → Int) (at_ : Int), k ≤ 6 ∧ i = .int .i64 k ∧ a = .int .i64 at_ ∧ rdN bs k = some (f, at_) ∧ MAt wr g (fun _ => 0) ByteArray.empty ∧ NAt wr (g + 1) f ∧ Below g w wr) (fun _ i _ => 6 - (intOf i).toNat)
  case atStart => exact ⟨0, _, _, by omega, rfl, rfl, rfl, HM2.out, HM4.out, by rw [HG.out]; exact HB3.out⟩
  case round =>
    obtain ⟨k, f, at_, hk, rfl, rfl, hr, hm2, hm4, hbel⟩ := hrel
    have HR := Lib.hid hr
    have HN2 := Lib.hid hm2
    have HN4 := Lib.hid hm4
    have HW := Lib.hid hbel
    have HS := Lib.hid ((HV.out.below (HG.out ▸ hbel)).more (HG.out ▸ hbel).size)
    have hpos := rd_pos bs k f at_ hr
    obtain ⟨hp0, hp1⟩ := hpos
    obtain ⟨⟨a0, a1, a2, a3, a4, a5, a6⟩, b0, b1, b2, b3, b4, b5, b6⟩ := hm2.facts
    clear hr hbel
    by_cases hlt : k < 6
    · have hck := hm4.2.1 k hlt
      have hfk := hm4.2.2 k hlt
      have HC := Lib.hid (rgetvar_all A _ c bs at_ wr HS.out (by omega) (by omega))
      have HS1 := Lib.hid (fun h => rd_succ bs k f at_ HR.out h)
      have HS2 := Lib.hid (fun h => rd_stop bs k f at_ HR.out h)
      clear hm2 hm4
      obtain ⟨n, hn⟩ : ∃ n, n = (gvR at_ bs).1 := ⟨_, rfl⟩
      obtain ⟨x, hx⟩ : ∃ x, x = (gvR at_ bs).2.1 := ⟨_, rfl⟩
      obtain ⟨e0, he⟩ : ∃ e0, e0 = (gvR at_ bs).2.2 := ⟨_, rfl⟩
      rw [← hn, ← hx] at HS1
      rw [← he] at HS1 HS2
      rw [← hn, ← hx, ← he] at HC
      clear hn hx he
      by_cases h0 : e0 = 0
      · subst h0
        have HS3 := Lib.hid (HS1.out rfl)
        clear HS2 HS1
        go_wp2_with fail
        refine HC.out.mono ?_
        rintro e w4 ⟨rfl, rfl⟩
        go_wp2
        go_roundw
        case rel => exact ⟨k + 1, _, x, by omega, by go_num, rfl, HS3.out, HN2.out.other (by simp) _, HN4.out.put k hlt n, HW.out.setCell (by simp) _⟩
        case measure => simp [intOf]; omega
      · have hne : (e0 != 0) = true := bne_iff_ne.2 h0
        have HS2 := Lib.hid (dec_none bs k hlt (HS2.out h0))
        clear HS1 h0
        go_wp2_with fail
        refine HC.out.mono ?_
        rintro e w4 ⟨rfl, rfl⟩
        go_wp2
        exact bodyPost_ret (v := .tuple #[.agg #[.int .i64 0, .int .i64 0, .int .i64 0, .int .i64 0, .int .i64 0, .int .i64 0, .string ByteArray.empty], .int .i64 8]) (by simp only [results, Try.results34]; go_simp <;> rfl) rfl (dc_bad HS2.out (below7 (HG.out ▸ HW.out) (by rw [HG.out]; exact Nat.le_refl _) _ _ _ _ _ _ _))
    · obtain rfl : k = 6 := by omega
      have HC := Lib.hid (rgettext_all A _ c bs at_ 16 wr HS.out (by omega))
      have HS1 := Lib.hid (fun h => dec_all bs f at_ HR.out h)
      have HS2 := Lib.hid (fun h => dec_text bs f at_ HR.out h)
      obtain ⟨c0, c1, c2, c3, c4, c5⟩ := hm4.facts
      clear hm2 hm4
      obtain ⟨s, hs⟩ : ∃ s, s = (gxS at_ 16 bs).1 := ⟨_, rfl⟩
      obtain ⟨x, hx⟩ : ∃ x, x = (gxS at_ 16 bs).2.1 := ⟨_, rfl⟩
      obtain ⟨e0, he⟩ : ∃ e0, e0 = (gxS at_ 16 bs).2.2 := ⟨_, rfl⟩
      rw [← hs, ← hx, ← he] at HS1
      rw [← hx, ← he] at HS2
      rw [← hs, ← hx, ← he] at HC
      clear hs hx he
      by_cases h0 : e0 = 0
      · by_cases h1 : x = (bs.length : Int)
        · have HS3 := Lib.hid (HS1.out ⟨h0, h1⟩)
          clear HS1 HS2
          subst h0
          have h1' : (x != (bs.length : Int)) = false := by rw [h1]; simp
          have HK := Lib.hid (fun w => rvalidate_any ⟨f 0, f 1, f 2, f 3, f 4, f 5, s⟩ w)
          have HW6 := Lib.hid ((HG.out ▸ HW.out : Below w.heap.size w wr).alloc (o := .cells #[.int .i64 (f 0), .int .i64 (f 1), .int .i64 (f 2), .int .i64 (f 3), .int .i64 (f 4), .int .i64 (f 5), .string s] 23) (HG.out ▸ HW.out : Below w.heap.size w wr).size)
          clear h1
          by_cases hk : vf ⟨f 0, f 1, f 2, f 3, f 4, f 5, s⟩ = 0
          · have HF := Lib.hid (show ckM ⟨f 0, f 1, f 2, f 3, f 4, f 5, s⟩ = ⟨f 0, f 1, f 2, f 3, f 4, f 5, s⟩ from if_pos hk)
            rw [HF.out, hk] at HS3
            rw [hk] at HK
            clear hk
            go_wp2_with fail
            refine HC.out.mono ?_
            rintro e w4 ⟨rfl, rfl⟩
            go_wp2_with fail
            refine (HK.out _).mono ?_
            rintro e w5 ⟨rfl, hb⟩
            have HM5 := Lib.hid ((HN2.out.alloc (.cells #[.int .i64 (f 0), .int .i64 (f 1), .int .i64 (f 2), .int .i64 (f 3), .int .i64 (f 4), .int .i64 (f 5), .string s] 23)).below hb (HN2.out.alloc _).1)
            obtain ⟨⟨p0, p1, p2, p3, p4, p5, p6⟩, q0, q1, q2, q3, q4, q5, q6⟩ := HM5.out.facts
            obtain ⟨⟨r0, r1, r2, r3, r4, r5, r6⟩, _⟩ := ((MAt.fresh (f := f) wr (f 0) (f 1) (f 2) (f 3) (f 4) (f 5) s 23 rfl rfl rfl rfl rfl rfl).below hb (by simp)).facts
            have HW5 := Lib.hid (HW6.out.trans (hb.mono HW6.out.size))
            clear hb a0 a1 a2 a3 a4 a5 a6 b0 b1 b2 b3 b4 b5 b6
            go_wp2
            exact bodyPost_ret (v := .tuple #[Msg.v ⟨f 0, f 1, f 2, f 3, f 4, f 5, s⟩, .int .i64 0]) (by simp only [results, Try.results34]; go_simp <;> rfl) rfl (dc_ok _ 0 HS3.out (below7 HW5.out (by rw [HG.out]; exact Nat.le_refl _) _ _ _ _ _ _ _))
          · have HF := Lib.hid (show ckM ⟨f 0, f 1, f 2, f 3, f 4, f 5, s⟩ = zM from if_neg hk)
            have hne : (vf ⟨f 0, f 1, f 2, f 3, f 4, f 5, s⟩ != 0) = true := bne_iff_ne.2 hk
            rw [HF.out] at HS3
            generalize vf ⟨f 0, f 1, f 2, f 3, f 4, f 5, s⟩ = r at *
            clear hk
            go_wp2_with fail
            refine HC.out.mono ?_
            rintro e w4 ⟨rfl, rfl⟩
            go_wp2_with fail
            refine (HK.out _).mono ?_
            rintro e w5 ⟨rfl, hb⟩
            have HM5 := Lib.hid ((HN2.out.alloc (.cells #[.int .i64 (f 0), .int .i64 (f 1), .int .i64 (f 2), .int .i64 (f 3), .int .i64 (f 4), .int .i64 (f 5), .string s] 23)).below hb (HN2.out.alloc _).1)
            obtain ⟨⟨p0, p1, p2, p3, p4, p5, p6⟩, q0, q1, q2, q3, q4, q5, q6⟩ := HM5.out.facts
            obtain ⟨⟨r0, r1, r2, r3, r4, r5, r6⟩, _⟩ := ((MAt.fresh (f := f) wr (f 0) (f 1) (f 2) (f 3) (f 4) (f 5) s 23 rfl rfl rfl rfl rfl rfl).below hb (by simp)).facts
            have HW5 := Lib.hid (HW6.out.trans (hb.mono HW6.out.size))
            clear hb a0 a1 a2 a3 a4 a5 a6 b0 b1 b2 b3 b4 b5 b6
            go_wp2
            exact bodyPost_ret (v := .tuple #[.agg #[.int .i64 0, .int .i64 0, .int .i64 0, .int .i64 0, .int .i64 0, .int .i64 0, .string ByteArray.empty], .int .i64 r]) (by simp only [results, Try.results34]; go_simp <;> rfl) rfl (dc_ok zM r HS3.out (below7 HW5.out (by rw [HG.out]; exact Nat.le_refl _) _ _ _ _ _ _ _))
        · have HS4 := Lib.hid (HS2.out (fun h => h1 h.2))
          subst h0
          have h1' : (x != (bs.length : Int)) = true := bne_iff_ne.2 h1
          clear h1 HS1 HS2
          go_wp2_with fail
          refine HC.out.mono ?_
          rintro e w4 ⟨rfl, rfl⟩
          go_wp2
          exact bodyPost_ret (v := .tuple #[.agg #[.int .i64 0, .int .i64 0, .int .i64 0, .int .i64 0, .int .i64 0, .int .i64 0, .string ByteArray.empty], .int .i64 8]) (by simp only [results, Try.results34]; go_simp <;> rfl) rfl (dc_bad HS4.out (below7 (HG.out ▸ HW.out) (by rw [HG.out]; exact Nat.le_refl _) _ _ _ _ _ _ _))
      · have HS2 := Lib.hid (HS2.out (fun h => h0 h.1))
        have h0' : (e0 != 0) = true := bne_iff_ne.2 h0
        clear h0 HS1
        go_wp2_with fail
        refine HC.out.mono ?_
        rintro e w4 ⟨rfl, rfl⟩
        go_wp2
        exact bodyPost_ret (v := .tuple #[.agg #[.int .i64 0, .int .i64 0, .int .i64 0, .int .i64 0, .int .i64 0, .int .i64 0, .string ByteArray.empty], .int .i64 8]) (by simp only [results, Try.results34]; go_simp <;> rfl) rfl (dc_bad HS2.out (below7 (HG.out ▸ HW.out) (by rw [HG.out]; exact Nat.le_refl _) _ _ _ _ _ _ _))
end Go.Proofs.Ytjiampelmiaflaa
