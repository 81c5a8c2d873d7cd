/- What is proved here: shardqueuelaw09.HandleForged returns true for every input and leaves its arguments as they were: a receipt handle with one changed byte is not read. No condition. -/
import Derived.Test.YtkkgfnncdaiooaaJ07
import Derived.Test.YtkkgfnncdaiooaaJ03
import Derived.Test.YtkkgfnncdaiooaaJ08
import Derived.Test.YtkkgfnncdaiooaaJ09
import Derived.ProofKit
import Derived.OpenShut
import Derived.ShutString
import Derived.ChangeOld
namespace Go.Proofs.Ytkkgfnncdaiooaa
open Go.RowKit
set_option linter.unusedVariables false

open Classical in
set_option maxHeartbeats 4000000 in
set_option maxRecDepth 20000 in
theorem HandleForged_walk (w : World) (h : Hq) (wf : h.wf) (at_ : Int) (wa : (Lit.int .i64 at_).wf = true) (by_ : Int) (wb : (Lit.int .u8 by_).wf = true) :
    Calls Try.prog 5 #[h.v, .int .i64 at_, .int .u8 by_] w fun e w' => e = .returned (.bool true) ∧ Below w.heap.size w w' := by
  obtain ⟨i0, hi0, hz0, hz1, hz2⟩ := info_parts info_u8
  have hb255 : 0 ≤ by_ ∧ by_ ≤ 255 := by
    simp only [Lit.wf, Bool.and_eq_true, decide_eq_true_eq] at wb
    exact wb
  obtain ⟨y, rfl⟩ := Int.eq_ofNat_of_zero_le hb255.1
  clear wf wa wb
  have HSM := Lib.hid (fun W => someh_any h W)
  have hr := smH_ok h
  generalize smH h = H at *
  have HE := Lib.hid (fun W => show Calls Try.prog 8 #[H.v] W (Put2 W (hq16 H) 0) by
    have := enc_any H W
    rwa [hqB_yes hr, hqE_yes hr] at this)
  have hl16 := hq16_len H
  have HAW := Lib.hid (fun W => awake9_any W)
  have hN := eqh zq zq
  rw [show decide (zq = zq) = true by simp] at hN
  have HPA := Lib.hid (fun (k : Nat) (hk : k < 16) (z : UInt8) (hz : ∀ hk' : k < (hq16 H).length, z ≠ (hq16 H)[k]) A c W (hv : Bs W W.heap.size (.slice A 16 c) ((hq16 H).set k z)) => show Calls Try.prog 10 #[.slice A 16 c] W (PH W zq 8) by
    have := parse_any A 16 c ((hq16 H).set k z) W hv (by omega)
    rwa [(forged_pq hr k hk z hz).1, (forged_pq hr k hk z hz).2] at this)
  generalize hq16 H = X at *
  clear hr
  have HX := Lib.hid hl16
  by_cases c2 : y = 0
  · subst c2
    clear hb255 HPA hN HAW hl16
    go_enter Try.func5, Try.ntmps5
    go_wp2_with fail
    refine (HSM.out _).mono ?_
    rintro e w1 ⟨rfl, hb1⟩
    have HW1 := Lib.hid (((Below.refl w.heap.size w).alloc (Nat.le_refl _) (.cells #[.int .i64 h.id, .int .i64 h.gn, .int .i64 h.rt, .int .i64 h.ht] 23)).trans (hb1.mono (by simp)))
    clear hb1
    go_wp2_with fail
    refine (HE.out _).mono ?_
    rintro e w2 ⟨v2, rfl, h2, hb2⟩
    obtain ⟨A, c, rfl, -, -, -⟩ := id h2
    rw [HX.out]
    have HW2 := Lib.hid (HW1.out.trans (hb2.mono HW1.out.size))
    clear hb2 h2 HW1
    go_wp2
    go_ret
    exact ⟨rfl, HW2.out⟩
  have c2' : (((y : Nat) : Int) == 0) = false := by simpa using c2
  by_cases c3 : at_ < 0
  · clear hb255 HPA hN HAW hl16 c2
    go_enter Try.func5, Try.ntmps5
    go_wp2_with fail
    refine (HSM.out _).mono ?_
    rintro e w1 ⟨rfl, hb1⟩
    have HW1 := Lib.hid (((Below.refl w.heap.size w).alloc (Nat.le_refl _) (.cells #[.int .i64 h.id, .int .i64 h.gn, .int .i64 h.rt, .int .i64 h.ht] 23)).trans (hb1.mono (by simp)))
    clear hb1
    go_wp2_with fail
    refine (HE.out _).mono ?_
    rintro e w2 ⟨v2, rfl, h2, hb2⟩
    obtain ⟨A, c, rfl, -, -, -⟩ := id h2
    rw [HX.out]
    have HW2 := Lib.hid (HW1.out.trans (hb2.mono HW1.out.size))
    clear hb2 h2 HW1
    go_wp2
    go_ret
    exact ⟨rfl, HW2.out⟩
  obtain ⟨k, hk, hkl⟩ : ∃ k : Nat, at_ % 16 = (k : Int) ∧ k < 16 := ⟨(at_ % 16).toNat, by omega, by omega⟩
  have hkX : k < X.length := by omega
  obtain ⟨x, hx⟩ : ∃ x, x = X[k].toNat := ⟨_, rfl⟩
  have hx8 : x < 256 := by rw [hx]; exact UInt8.toNat_lt _
  have hxor := xor_u8 x y hx8 (by omega)
  have hz8 : x ^^^ y < 256 := Nat.xor_lt_two_pow (n := 8) (by omega) (by omega)
  have hzn := toNat_byte _ hz8
  have hne : UInt8.ofNat (x ^^^ y) ≠ X[k] := by
    intro e
    have e1 : x ^^^ y = x := by rw [← hzn, e, ← hx]
    have e2 := xor_front x y
    rw [e1, Nat.xor_self] at e2
    omega
  obtain ⟨z, hz⟩ : ∃ z, z = UInt8.ofNat (x ^^^ y) := ⟨_, rfl⟩
  rw [← hz] at hne hzn
  have hoct : oct z = .int .u8 ((x ^^^ y : Nat) : Int) := by unfold oct; rw [hzn]
  have HPZ := Lib.hid (HPA.out k hkl z (fun _ => hne))
  have HXK := Lib.hid (show X[k]? = some X[k] ∧ x = X[k].toNat from ⟨by simp [hkX], hx⟩)
  have HO := Lib.hid hoct
  have ha0 : 0 ≤ at_ := by omega
  obtain ⟨q, hq⟩ : ∃ q, q = x ^^^ y := ⟨_, rfl⟩
  rw [← hq] at hxor HO hz8
  have hq8 : (q : Int) ≤ 255 := by omega
  have hkl' : (k : Int) < 16 := by omega
  clear hb255 hx hne hzn hz hoct c2 hx8 hz8 hq HPA hl16
  go_enter Try.func5, Try.ntmps5
  go_wp2_with fail
  refine (HSM.out _).mono ?_
  rintro e w1 ⟨rfl, hb1⟩
  have HW1 := Lib.hid (((Below.refl w.heap.size w).alloc (Nat.le_refl _) (.cells #[.int .i64 h.id, .int .i64 h.gn, .int .i64 h.rt, .int .i64 h.ht] 23)).trans (hb1.mono (by simp)))
  clear hb1
  go_wp2_with fail
  refine (HE.out _).mono ?_
  rintro e w2 ⟨v2, rfl, h2, hb2⟩
  obtain ⟨A, c, rfl, -, -, -⟩ := id h2
  rw [HX.out] at h2 ⊢
  have HR := Lib.hid h2.rd
  have HW2 := Lib.hid (HW1.out.trans (hb2.mono HW1.out.size))
  clear hb2 h2 HW1
  go_wp2_with (at_builtin; refine wpList_append_rd _ rfl _ _ 24 rfl w.heap.size 5 i0 _ 1 1 Try.underlying24 hi0 hz0 hz1 hz2 rfl (by omega) _ _ _ rfl (World.ownsRow_nil _ _ _ _) _ _ _ _ _ rfl HR.out (oct_one _) (by unfold maxLen; omega) (by omega) (by have := HW2.out.size; omega) ?_; intro v3 w3 hown2 hg2 hj2)
  simp only [Nat.zero_add, List.nil_append] at hown2
  obtain ⟨A3, c3, rfl⟩ := own_form hown2
  obtain ⟨g, rfl, hge, hlt2⟩ : ∃ g, A3 = some ⟨g, 0, none⟩ ∧ w.heap.size ≤ g ∧ g < w3.heap.size := by
    rcases hown2.2 with ⟨_, h0⟩ | ⟨g, cap, cur, hv, hb, hh, _⟩
    · omega
    · injection hv with hA _ _
      exact ⟨g, hA, hb, (Array.getElem?_eq_some_iff.1 hh).1⟩
  have hcell : w3.cell? ⟨g, k, none⟩ = some (.int .u8 (x : Int)) := by
    rw [hown2.cellAt k (by omega), HXK.out.2, List.getElem?_map, HXK.out.1]
    rfl
  have hfr := hown2.frozenAt k
  obtain ⟨hown3, hg3⟩ := hown2.stored k (.int .u8 (q : Int))
  have hmap : (X.map oct).set k (.int .u8 (q : Int)) = (X.set k z).map oct := by rw [← HO.out, List.map_set]
  rw [hmap] at hown3
  have HW3 := Lib.hid ((HW2.out.grown hg2 HW2.out.size (fun k hk => (World.ownsRow.lt (World.ownsRow_nil w2 w.heap.size 5 1) k hk).1)).setCell (p := ⟨g, k, none⟩) hge (.int .u8 (q : Int)))
  have HO3 := Lib.hid (Bs.of_own hown3)
  clear hown2 hg2 hown3 hg3 hmap hj2
  go_wp2
  have hh := run_len_slice (P := Try.prog) (w := w3) 24 3 (some ⟨g, 0, none⟩) 16 c3 Try.underlying24
  rw [hh]
  clear hh
  go_wp2_with fail
  refine (HPZ.out _ _ _ HO3.out).mono ?_
  rintro e w5 ⟨rfl, hb5⟩
  have HW5 := Lib.hid (HW3.out.trans (hb5.mono HW3.out.size))
  have HQz := Lib.hid (Qb.start w5 zq.id zq.gn zq.rt zq.ht 23)
  have HW6 := Lib.hid (HW5.out.alloc HW5.out.size (.cells #[.int .i64 zq.id, .int .i64 zq.gn, .int .i64 zq.rt, .int .i64 zq.ht] 23))
  clear hb5 HO3 HW3 HW5 hcell hfr hlt2 hge
  obtain ⟨⟨x0, x1, x2, x3, xl⟩, -⟩ := HQz.out.all
  go_wp2_with fail
  refine (HAW.out _).mono ?_
  rintro e w7 ⟨rfl, hb7⟩
  have HW7 := Lib.hid (HW6.out.trans (hb7.mono HW6.out.size))
  clear hb7
  go_wp2
  go_ret
  exact ⟨rfl, HW7.out⟩

/-! The row's step, as the guide's shell has it. -/
namespace handleForged
open Go.ChangeShapes Go.WideShapes Go.ChangeAt
open Go.ChangeMaps (open_string shut_string)
theorem own : ownKnob Try.prog.godebug = none := by kernel_rfl
theorem laidOut : laidOutB Try.prog = true := by kernel_rfl

set_option maxRecDepth 100000 in
theorem lifted (os : Os) (started : os.Started) (H : Type) (enc : TypeId × Value → H) :
    ReturnsInHanded {} Try.checked os 5 .any (Rows.handleForgedSpec.pre6 enc Try.prog Try.f5 Rows.handleForgedRow.domain false) (Rows.handleForgedSpec.post enc Try.prog Try.f5 false true false false) := by
  refine returnsInHanded_of_change (C := Try.checked) own started (by kernel_rfl) Try.func5
    (ChangeSpec.witness6 (enc := enc) (C := Try.checked) false ⟨#[], #[.agg #[.int .i64 0, .int .i64 0, .int .i64 0, .int .i64 0], .int .i64 0, .int .u8 0], []⟩ 8 (by kernel_rfl) (by kernel_rfl) (by kernel_rfl) (by kernel_rfl)) ?_
  intro W base args ds gs before hval0 hW hcnd _
  have hval : ∀ (j : Nat) t v, Try.f5.params[j]? = some t → args[j]? = some v → Value.okWide Try.prog W .any base t v := hval0
  have hW' := hW
  obtain ⟨p, q, hA0, hV, rfl, hfz, hnd⟩ := hW
  have hA : DataW.TrodAll enc Try.prog W 0 (fun _ => true) true Try.f5.params.toList args.toList ds p := hA0
  rw [Try.params5] at hA hval
  obtain ⟨v0, vs0, d0, ds0, p0, q0, hargs, rfl, rfl, h0, r0⟩ := trodAll_cons hA
  obtain ⟨v1, vs1, d1, ds1, p1, q1, rfl, rfl, rfl, h1, r1⟩ := trodAll_cons r0
  obtain ⟨v2, vs2, d2, ds2, p2, q2, rfl, rfl, rfl, h2, r2⟩ := trodAll_cons r1
  obtain ⟨rfl, rfl, rfl⟩ := trodAll_nil r2
  obtain rfl : args = #[v0, v1, v2] := by cases args; simp_all
  obtain ⟨rfl, rfl⟩ := trodVars_none hV
  obtain ⟨a0, rfl, rfl, rfl, w0⟩ := open_handle (hval 0 23 v0 rfl rfl) h0
  obtain ⟨a1, rfl, rfl, rfl, w1⟩ := open_int Try.underlying3 (hval 1 3 v1 rfl rfl) h1
  obtain ⟨a2, rfl, rfl, rfl, w2⟩ := open_int Try.underlying5 (hval 2 5 v2 rfl rfl) h2
  clear hA0 hval0
  simp only [List.append_nil] at hW'
  refine (HandleForged_walk W a0 w0 a1 w1 a2 w2).mono fun e W' ⟨he, bel⟩ => ?_
  subst he
  exact ⟨_, rfl, _, _, _, [], _, [], hW', trodAll_mk1 (shut_bool Try.underlying4 _), (trodAll_cons_mk (shut_handle a0 w0) (trodAll_cons_mk (shut_int Try.underlying3 w1) (trodAll_cons_mk (shut_int Try.underlying5 w2) trodAll_mk0))), rfl, bel.frame _, fun h => by cases h⟩

theorem over : Rows.handleForgedRow.holds Try.pinned (OpenSpec.ofChange Rows.handleForgedSpec) :=
  OpenClaim.holds_of_wide 5 Try.f5 rfl rfl rfl rfl rfl rfl rfl ⟨rfl, rfl, rfl, rfl, rfl⟩ rfl rfl rfl rfl rfl (by kernel_rfl) Try.func5 (by kernel_rfl)
    (of_decide_eq_true (by kernel_rfl)) (by unfold Func.isWrapper; first | (rw [if_pos (by decide +kernel)]; kernel_rfl) | (rw [if_neg (by decide +kernel)]; exact ⟨rfl, rfl⟩))
    (fun os started H enc _ => lifted os started H enc)

/-- The statement. -/
theorem proved : Rows.HandleForgedSaid := over
#print axioms proved
end handleForged
end Go.Proofs.Ytkkgfnncdaiooaa
