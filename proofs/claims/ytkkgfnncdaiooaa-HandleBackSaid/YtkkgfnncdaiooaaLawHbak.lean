/- What is proved here: shardqueuelaw09.HandleBack returns true for every input and leaves its arguments as they were. No condition. -/
import Derived.Test.YtkkgfnncdaiooaaJ07
import Derived.Test.YtkkgfnncdaiooaaJ08
import Derived.Test.YtkkgfnncdaiooaaJ09
import Derived.ProofKit
import Derived.OpenShut
import Derived.ShutString
import Derived.ChangeOld
namespace Go.Proofs.Ytkkgfnncdaiooaa
open Go.RowKit
set_option linter.unusedVariables false

open Classical in
set_option maxHeartbeats 4000000 in
set_option maxRecDepth 20000 in
theorem HandleBack_walk (w : World) (h : Hq) (wf : h.wf) (tl : Int) (wt : (Lit.int .u8 tl).wf = true) :
    Calls Try.prog 4 #[h.v, .int .u8 tl] w fun e w' => e = .returned (.bool true) ∧ Below w.heap.size w w' := by
  obtain ⟨i0, hi0, hz0, hz1, hz2⟩ := info_parts info_u8
  have ht : 0 ≤ tl ∧ tl ≤ 255 := by
    simp only [Lit.wf, Bool.and_eq_true, decide_eq_true_eq] at wt
    exact wt
  obtain ⟨t, rfl⟩ := Int.eq_ofNat_of_zero_le ht.1
  have ht8 : t < 256 := by omega
  clear wf wt ht
  have HSM := Lib.hid (fun W => someh_any h W)
  have hr := smH_ok h
  generalize smH h = H at *
  have HE := Lib.hid (fun W => show Calls Try.prog 8 #[H.v] W (Put2 W (hq16 H) 0) by
    have := enc_any H W
    rwa [hqB_yes hr, hqE_yes hr] at this)
  have HL := Lib.hid (hq16_len H)
  have HPA := Lib.hid (fun A c W (hv : Bs W W.heap.size (.slice A 16 c) (hq16 H)) => show Calls Try.prog 10 #[.slice A 16 c] W (PH W H 0) by
    have := parse_any A 16 c (hq16 H) W hv (by omega)
    rwa [(pq_hq hr).1, (pq_hq hr).2] at this)
  have HPN := Lib.hid (fun A (l : Nat) c bs W (hv : Bs W W.heap.size (.slice A l c) bs) (hl : l ≤ 17) (h16 : l ≠ 16) => show Calls Try.prog 10 #[.slice A l c] W (PH W zq 8) by
    have := parse_any A l c bs W hv (by omega)
    have e := hv.len.1
    rwa [(pq_len (bs := bs) (by omega)).1, (pq_len (bs := bs) (by omega)).2] at this)
  have HAW := Lib.hid (fun W => awake9_any W)
  have hN := neqh H H
  rw [show (!decide (H = H)) = false by simp] at hN
  generalize hq16 H = X at *
  clear hr
  go_enter Try.func4, Try.ntmps4
  go_wp2_with fail
  refine (HSM.out _).mono ?_
  rintro e w1 ⟨rfl, hb1⟩
  have HQ1 := Lib.hid ((Qb.start w h.id h.gn h.rt h.ht 23).up hb1)
  have HW1 := Lib.hid (((Below.refl w.heap.size w).alloc (Nat.le_refl _) (.cells #[.int .i64 h.id, .int .i64 h.gn, .int .i64 h.rt, .int .i64 h.ht] 23)).trans (hb1.mono (by simp)))
  clear hb1
  obtain ⟨p, hp⟩ : ∃ p, p = w.heap.size := ⟨_, rfl⟩
  have HPW := Lib.hid (show w.heap.size ≤ p by omega)
  rw [← hp] at HQ1 ⊢
  clear hp
  have HQ2 := Lib.hid (HQ1.out.set H.id H.gn H.rt H.ht)
  have HW2 := Lib.hid ((((HW1.out.setCell (p := ⟨p, 0, none⟩) HPW.out (.int .i64 H.id)).setCell (p := ⟨p, 1, none⟩) HPW.out (.int .i64 H.gn)).setCell (p := ⟨p, 2, none⟩) HPW.out (.int .i64 H.rt)).setCell (p := ⟨p, 3, none⟩) HPW.out (.int .i64 H.ht))
  obtain ⟨⟨x0, x1, x2, x3, xl⟩, e0, e1, e2, e3⟩ := HQ1.out.all
  go_wp2_with fail
  clear x0 x1 x2 x3 xl e0 e1 e2 e3 HQ1 HW1
  generalize ((((w1.setCell ⟨p, 0, none⟩ (.int .i64 H.id)).setCell ⟨p, 1, none⟩ (.int .i64 H.gn)).setCell ⟨p, 2, none⟩ (.int .i64 H.rt)).setCell ⟨p, 3, none⟩ (.int .i64 H.ht)) = w2 at *
  refine (HE.out _).mono ?_
  rintro e w3 ⟨v3, rfl, h3, hb3⟩
  obtain ⟨A, c, rfl, -, -, -⟩ := id h3
  rw [HL.out] at h3 ⊢
  have HX3 := Lib.hid h3
  have HQ3 := Lib.hid (HQ2.out.up hb3)
  have HW3 := Lib.hid (HW2.out.trans (hb3.mono HW2.out.size))
  clear h3 hb3 HQ2 HW2
  go_wp2_with fail
  refine (HPA.out _ _ _ HX3.out).mono ?_
  rintro e w4 ⟨rfl, hb4⟩
  have HX4 := Lib.hid ((HX3.out.below hb4).more hb4.size)
  have HQ4 := Lib.hid (HQ3.out.up hb4)
  have HW4 := Lib.hid (HW3.out.trans (hb4.mono HW3.out.size))
  clear hb4 HX3 HQ3 HW3
  have HQq := Lib.hid (Qb.start w4 H.id H.gn H.rt H.ht 23)
  have HBq := Lib.hid ((Below.refl w4.heap.size w4).alloc (Nat.le_refl _) (.cells #[.int .i64 H.id, .int .i64 H.gn, .int .i64 H.rt, .int .i64 H.ht] 23))
  obtain ⟨⟨x0, x1, x2, x3, xl⟩, -⟩ := (HQ4.out.up HBq.out).all
  obtain ⟨⟨y0, y1, y2, y3, yl⟩, -⟩ := HQq.out.all
  go_wp2_with fail
  clear x0 x1 x2 x3 xl y0 y1 y2 y3 yl
  have HX5 := Lib.hid ((HX4.out.below HBq.out).more HBq.out.size)
  have HW5 := Lib.hid (HW4.out.trans (HBq.out.mono HW4.out.size))
  clear HQq HBq HX4 HQ4 HW4
  generalize w4.alloc (.cells #[.int .i64 H.id, .int .i64 H.gn, .int .i64 H.rt, .int .i64 H.ht] 23) = w5 at *
  go_loopw [9, 10, 11] (fun i _ _ wr => ∃ k : Nat, k ≤ 16 ∧ i = .int .i64 k ∧ Hid (Bs wr wr.heap.size (.slice A 16 c) X) ∧ Hid (Below w.heap.size w wr)) (fun i _ _ _ => 16 - (intOf i).toNat)
  case atStart => exact ⟨0, by omega, rfl, HX5, HW5⟩
  case round =>
    clear HX5 HW5
    obtain ⟨k, hk, rfl, HX, HW⟩ := hrel
    by_cases hlt : k < 16
    · obtain ⟨A', hcut, hv'⟩ := run_upto (P := Try.prog) 24 5 i0 Try.underlying24 hi0 hz1 HX.out .i64 k (by omega)
      have HC := Lib.hid (HPN.out A' k c (X.take k) wr hv' (by omega) (by omega))
      have hlk : (k : Int) < 16 := by omega
      clear hv'
      go_wp2_with fail
      refine HC.out.mono ?_
      rintro e w6 ⟨rfl, hb6⟩
      have HX6 := Lib.hid ((HX.out.below hb6).more hb6.size)
      have HW6 := Lib.hid (HW.out.trans (hb6.mono HW.out.size))
      have HBz := Lib.hid ((Below.refl w6.heap.size w6).alloc (Nat.le_refl _) (.cells #[.int .i64 zq.id, .int .i64 zq.gn, .int .i64 zq.rt, .int .i64 zq.ht] 23))
      clear hb6 HC HX HW hcut
      go_wp2
      go_roundw
      case rel => exact ⟨k + 1, by omega, by go_num, Lib.hid ((HX6.out.below HBz.out).more HBz.out.size), Lib.hid (HW6.out.trans (HBz.out.mono HW6.out.size))⟩
      case measure => simp [intOf]; omega
    · obtain rfl : k = 16 := by omega
      have HR := Lib.hid HX.out.rd
      clear HX hlt hk
      go_wp2_with (first
        | (at_builtin
           refine wpList_append_rd _ rfl (.const (.slice none 0 0)) (.tmp 58) 24 rfl w.heap.size 5 i0 _ 1 1 Try.underlying24 hi0 hz0 hz1 hz2 rfl (by omega) _ _ _ rfl (World.ownsRow_nil _ _ _ _) _ _ _ _ _ rfl HR.out (oct_one _) (by unfold maxLen; omega) (by omega) (by have := HW.out.size; omega) ?_
           intro v3 w3 hown3 hg3 _
           simp only [Nat.zero_add, List.nil_append] at hown3
           obtain ⟨A3, c3, rfl⟩ := own_form hown3
           have HO3 := Lib.hid hown3
           have HW3 := Lib.hid (HW.out.grown hg3 HW.out.size (fun k hk => (World.ownsRow.lt (World.ownsRow_nil wr w.heap.size 5 1) k hk).1))
           clear hown3 hg3)
        | (at_builtin
           refine wpList_append_rd _ rfl (.tmp 59) (.tmp 61) 24 rfl w.heap.size 5 i0 _ 1 1 Try.underlying24 hi0 hz0 hz1 hz2 rfl (by omega) _ _ _ rfl (HO3.out.alloc _) _ _ _ _ _ rfl (Rd.fresh w3 _ _) (by intro u hu; simp at hu; subst hu; rfl) (by unfold maxLen; simp) (by simp) (by have := HW3.out.size; simp; omega) ?_
           intro v4 w4 hown4 hg4 _
           have hown5 : w4.ownsRow w.heap.size 5 1 v4 17 ((X ++ [UInt8.ofNat t]).map oct) := by
             rw [List.map_append, show [UInt8.ofNat t].map oct = [.int .u8 (t : Nat)] from by
               have e := oct_mod t
               have e2 : ((t : Nat) : Int) % 256 = (t : Nat) := by omega
               rw [e2] at e
               simp [e]]
             exact hown4
           obtain ⟨A4, c4, rfl⟩ := own_form hown5
           have HO4 := Lib.hid (Bs.of_own hown5)
           have HW4 := Lib.hid ((HW3.out.alloc HW3.out.size _).grown hg4 (by have := HW3.out.size; simp; omega) (fun g hg => (World.ownsRow.lt HO3.out g hg).1))
           clear hown4 hown5 hg4))
      refine (HPN.out _ _ _ _ _ HO4.out (by omega) (by omega)).mono ?_
      rintro e w5 ⟨rfl, hb5⟩
      have HW5 := Lib.hid (HW4.out.trans (hb5.mono HW4.out.size))
      have HW6 := Lib.hid (HW5.out.alloc HW5.out.size (.cells #[.int .i64 zq.id, .int .i64 zq.gn, .int .i64 zq.rt, .int .i64 zq.ht] 23))
      clear hb5 HO4 HW4 HO3 HW3
      go_wp2_with fail
      refine (HAW.out _).mono ?_
      rintro e w7 ⟨rfl, hb7⟩
      have HW7 := Lib.hid (HW6.out.trans (hb7.mono HW6.out.size))
      clear hb7
      go_wp2
      go_ret
      exact ⟨rfl, HW7.out⟩

/-! The row's step, as the guide's shell has it. -/
namespace handleBack
open Go.ChangeShapes Go.WideShapes Go.ChangeAt
open Go.ChangeMaps (open_string shut_string)
theorem own : ownKnob Try.prog.godebug = none := by kernel_rfl
theorem laidOut : laidOutB Try.prog = true := by kernel_rfl

set_option maxRecDepth 100000 in
theorem lifted (os : Os) (started : os.Started) (H : Type) (enc : TypeId × Value → H) :
    ReturnsInHanded {} Try.checked os 4 .any (Rows.handleBackSpec.pre6 enc Try.prog Try.f4 Rows.handleBackRow.domain false) (Rows.handleBackSpec.post enc Try.prog Try.f4 false true false false) := by
  refine returnsInHanded_of_change (C := Try.checked) own started (by kernel_rfl) Try.func4
    (ChangeSpec.witness6 (enc := enc) (C := Try.checked) false ⟨#[], #[.agg #[.int .i64 0, .int .i64 0, .int .i64 0, .int .i64 0], .int .u8 0], []⟩ 8 (by kernel_rfl) (by kernel_rfl) (by kernel_rfl) (by kernel_rfl)) ?_
  intro W base args ds gs before hval0 hW hcnd _
  have hval : ∀ (j : Nat) t v, Try.f4.params[j]? = some t → args[j]? = some v → Value.okWide Try.prog W .any base t v := hval0
  have hW' := hW
  obtain ⟨p, q, hA0, hV, rfl, hfz, hnd⟩ := hW
  have hA : DataW.TrodAll enc Try.prog W 0 (fun _ => true) true Try.f4.params.toList args.toList ds p := hA0
  rw [Try.params4] at hA hval
  obtain ⟨v0, vs0, d0, ds0, p0, q0, hargs, rfl, rfl, h0, r0⟩ := trodAll_cons hA
  obtain ⟨v1, vs1, d1, ds1, p1, q1, rfl, rfl, rfl, h1, r1⟩ := trodAll_cons r0
  obtain ⟨rfl, rfl, rfl⟩ := trodAll_nil r1
  obtain rfl : args = #[v0, v1] := by cases args; simp_all
  obtain ⟨rfl, rfl⟩ := trodVars_none hV
  obtain ⟨a0, rfl, rfl, rfl, w0⟩ := open_handle (hval 0 23 v0 rfl rfl) h0
  obtain ⟨a1, rfl, rfl, rfl, w1⟩ := open_int Try.underlying5 (hval 1 5 v1 rfl rfl) h1
  clear hA0 hval0
  simp only [List.append_nil] at hW'
  refine (HandleBack_walk W a0 w0 a1 w1).mono fun e W' ⟨he, bel⟩ => ?_
  subst he
  exact ⟨_, rfl, _, _, _, [], _, [], hW', trodAll_mk1 (shut_bool Try.underlying4 _), (trodAll_cons_mk (shut_handle a0 w0) (trodAll_cons_mk (shut_int Try.underlying5 w1) trodAll_mk0)), rfl, bel.frame _, fun h => by cases h⟩

theorem over : Rows.handleBackRow.holds Try.pinned (OpenSpec.ofChange Rows.handleBackSpec) :=
  OpenClaim.holds_of_wide 4 Try.f4 rfl rfl rfl rfl rfl rfl rfl ⟨rfl, rfl, rfl, rfl, rfl⟩ rfl rfl rfl rfl rfl (by kernel_rfl) Try.func4 (by kernel_rfl)
    (of_decide_eq_true (by kernel_rfl)) (by unfold Func.isWrapper; first | (rw [if_pos (by decide +kernel)]; kernel_rfl) | (rw [if_neg (by decide +kernel)]; exact ⟨rfl, rfl⟩))
    (fun os started H enc _ => lifted os started H enc)

/-- The statement. -/
theorem proved : Rows.HandleBackSaid := over
#print axioms proved
end handleBack
end Go.Proofs.Ytkkgfnncdaiooaa
