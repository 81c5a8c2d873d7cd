/- What is proved here: shardqueuelaw09.HandleRaw returns true for every input and leaves its arguments as they were. No condition. -/
import Derived.Test.YtkkgfnncdaiooaaJ08
import Derived.Test.YtkkgfnncdaiooaaJ09
import Derived.ProofKit
import Derived.OpenShut
import Derived.ShutString
import Derived.ChangeOld
namespace Go.Proofs.Ytkkgfnncdaiooaa
open Go.RowKit
set_option linter.unusedVariables false

open Classical in
set_option maxHeartbeats 4000000 in
set_option maxRecDepth 20000 in
theorem HandleRaw_walk (w : World) (h : Hq) (wf : h.wf) (a1 : Option Addr) (l1 c1 : Nat) (bs : List UInt8) (hv : Bs w w.heap.size (.slice a1 l1 c1) bs) :
    Calls Try.prog 3 #[h.v, .slice a1 l1 c1] w fun e w' => e = .returned (.bool true) ∧ Below w.heap.size w w' := by
  have HV := Lib.hid hv
  clear wf hv
  by_cases hl : (100 : Int) < l1
  · go_enter Try.func3, Try.ntmps3
    go_wp2
    go_ret
    exact ⟨rfl, (Below.refl _ _).alloc (Nat.le_refl _) _⟩
  have hl2 : (l1 : Int) ≤ 100 := by omega
  have HE := Lib.hid (fun W => enc_any h W)
  have HR := Lib.hid (fun W => renc_any h W)
  have HPA := Lib.hid (fun W (hb : Below w.heap.size w W) => parse_any a1 l1 c1 bs W ((HV.out.below hb).more hb.size) (by omega))
  have HRP := Lib.hid (fun W (hb : Below w.heap.size w W) => rparse_any a1 l1 c1 bs W ((HV.out.below hb).more hb.size) (by omega))
  have HAW := Lib.hid (fun W => awake9_any W)
  have hP := eqh (pqH bs) (pqH bs)
  rw [show decide (pqH bs = pqH bs) = true by simp] at hP
  generalize pqH bs = P at *
  generalize pqE bs = pe at *
  generalize hqB h = X at *
  generalize hqE h = x at *
  go_enter Try.func3, Try.ntmps3
  go_wp2_with fail
  refine (HE.out _).mono ?_
  rintro e w1 ⟨v1, rfl, h1, hb1⟩
  have HQ1 := Lib.hid ((Qb.start w h.id h.gn h.rt h.ht 23).up hb1)
  have HX1 := Lib.hid h1
  have HW1 := Lib.hid (((Below.refl w.heap.size w).alloc (Nat.le_refl _) (.cells #[.int .i64 h.id, .int .i64 h.gn, .int .i64 h.rt, .int .i64 h.ht] 23)).trans (hb1.mono (by simp)))
  clear h1 hb1
  obtain ⟨⟨x0, x1, x2, x3, xl⟩, -⟩ := HQ1.out.all
  go_wp2_with fail
  clear x0 x1 x2 x3 xl
  refine (HR.out _).mono ?_
  rintro e w2 ⟨v2, rfl, h2, hb2⟩
  have HX2 := Lib.hid h2
  have HX12 := Lib.hid ((HX1.out.below hb2).more hb2.size)
  have HW2 := Lib.hid (HW1.out.trans (hb2.mono HW1.out.size))
  clear h2 hb2 HX1 HW1 HQ1
  go_wp2_with fail
  refine (HPA.out _ HW2.out).mono ?_
  rintro e w3 ⟨rfl, hb3⟩
  have HX23 := Lib.hid ((HX2.out.below hb3).more hb3.size)
  have HX13 := Lib.hid ((HX12.out.below hb3).more hb3.size)
  have HW3 := Lib.hid (HW2.out.trans (hb3.mono HW2.out.size))
  clear hb3 HX2 HX12 HW2
  go_wp2_with fail
  have HQ4 := Lib.hid (Qb.start w3 P.id P.gn P.rt P.ht 23)
  have HB4 := Lib.hid ((Below.refl w3.heap.size w3).alloc (Nat.le_refl _) (.cells #[.int .i64 P.id, .int .i64 P.gn, .int .i64 P.rt, .int .i64 P.ht] 23))
  generalize w3.alloc (.cells #[.int .i64 P.id, .int .i64 P.gn, .int .i64 P.rt, .int .i64 P.ht] 23) = w4 at *
  have HW4 := Lib.hid (HW3.out.trans (HB4.out.mono HW3.out.size))
  refine (HRP.out _ HW4.out).mono ?_
  rintro e w5 ⟨rfl, hb5⟩
  have HB5 := Lib.hid (HB4.out.trans (hb5.mono HB4.out.size))
  have HQ5 := Lib.hid (HQ4.out.up hb5)
  clear HB4 HQ4 HW4 hb5
  obtain ⟨p, hp⟩ : ∃ p, p = w3.heap.size := ⟨_, rfl⟩
  rw [← hp] at HQ5 ⊢
  have HP := Lib.hid hp
  clear hp
  go_wp2_with fail
  have HQ7 := Lib.hid (Qb.start w5 P.id P.gn P.rt P.ht 23)
  have HB7 := Lib.hid (HB5.out.trans (((Below.refl w5.heap.size w5).alloc (Nat.le_refl _) (.cells #[.int .i64 P.id, .int .i64 P.gn, .int .i64 P.rt, .int .i64 P.ht] 23)).mono HB5.out.size))
  have HQ6 := Lib.hid (HQ5.out.alloc (.cells #[.int .i64 P.id, .int .i64 P.gn, .int .i64 P.rt, .int .i64 P.ht] 23))
  generalize w5.alloc (.cells #[.int .i64 P.id, .int .i64 P.gn, .int .i64 P.rt, .int .i64 P.ht] 23) = w6 at *
  obtain ⟨q, hq⟩ : ∃ q, q = w5.heap.size := ⟨_, rfl⟩
  rw [← hq] at HQ7 ⊢
  clear hq HQ5
  have hXX : (X == X) = true := by simp
  refine (same_any _ _ _ _ _ ((HX13.out.below HB7.out).more HB7.out.size) ((HX23.out.below HB7.out).more HB7.out.size)).mono ?_
  rintro e w7 ⟨rfl, rfl⟩
  obtain ⟨⟨x0, x1, x2, x3, xl⟩, -⟩ := HQ6.out.all
  obtain ⟨⟨y0, y1, y2, y3, yl⟩, -⟩ := HQ7.out.all
  go_wp2_with fail
  refine (HAW.out _).mono ?_
  rintro e w8 ⟨rfl, hb8⟩
  have HB8 := Lib.hid (HW3.out.trans ((HB7.out.trans (hb8.mono HB7.out.size)).mono HW3.out.size))
  clear hb8 x0 x1 x2 x3 xl y0 y1 y2 y3 yl
  go_wp2
  go_ret
  exact ⟨rfl, HB8.out⟩

/-! The row's step, as the guide's shell has it. -/
namespace handleRaw
open Go.ChangeShapes Go.WideShapes Go.ChangeAt
open Go.ChangeMaps (open_string shut_string)
theorem own : ownKnob Try.prog.godebug = none := by kernel_rfl
theorem laidOut : laidOutB Try.prog = true := by kernel_rfl

set_option maxRecDepth 100000 in
theorem lifted (os : Os) (started : os.Started) (H : Type) (enc : TypeId × Value → H) :
    ReturnsInHanded {} Try.checked os 3 .any (Rows.handleRawSpec.pre6 enc Try.prog Try.f3 Rows.handleRawRow.domain false) (Rows.handleRawSpec.post enc Try.prog Try.f3 false true false false) := by
  refine returnsInHanded_of_change (C := Try.checked) own started (by kernel_rfl) Try.func3
    (ChangeSpec.witness6 (enc := enc) (C := Try.checked) false ⟨#[], #[.agg #[.int .i64 0, .int .i64 0, .int .i64 0, .int .i64 0], .slice none 0 0], []⟩ 8 (by kernel_rfl) (by kernel_rfl) (by kernel_rfl) (by kernel_rfl)) ?_
  intro W base args ds gs before hval0 hW hcnd _
  have hval : ∀ (j : Nat) t v, Try.f3.params[j]? = some t → args[j]? = some v → Value.okWide Try.prog W .any base t v := hval0
  have hW' := hW
  obtain ⟨p, q, hA0, hV, rfl, hfz, hnd⟩ := hW
  have hA : DataW.TrodAll enc Try.prog W 0 (fun _ => true) true Try.f3.params.toList args.toList ds p := hA0
  rw [Try.params3] at hA hval
  obtain ⟨v0, vs0, d0, ds0, p0, q0, hargs, rfl, rfl, h0, r0⟩ := trodAll_cons hA
  obtain ⟨v1, vs1, d1, ds1, p1, q1, rfl, rfl, rfl, h1, r1⟩ := trodAll_cons r0
  obtain ⟨rfl, rfl, rfl⟩ := trodAll_nil r1
  obtain rfl : args = #[v0, v1] := by cases args; simp_all
  obtain ⟨rfl, rfl⟩ := trodVars_none hV
  obtain ⟨a0, rfl, rfl, rfl, w0⟩ := open_handle (hval 0 23 v0 rfl rfl) h0
  obtain ⟨a1, len1, cap1, rfl⟩ := okWide_slice Try.underlying24 (hval 1 24 v1 rfl rfl)
  have k1 := h1
  have lt1 : ∀ x ∈ p1, x.block < W.heap.size := by obtain ⟨m, hm⟩ := k1; exact DataW.trod_lt m _ _ _ hm
  obtain ⟨z1, w1⟩ : ∃ zs, Bs W W.heap.size (.slice a1 len1 cap1) zs := by
    obtain ⟨fuel, hf⟩ := h1
    rcases open_ints Try.underlying24 Try.underlying5 (by kernel_rfl) hf with ⟨hcs, _⟩ | ⟨x, l, c, zs, hcs, _, hl, hm, hz, _, hcell, hwz⟩
    · simp [Value.cells] at hcs
      obtain ⟨rfl, rfl, rfl⟩ := hcs
      exact ⟨[], Bs.nil⟩
    · simp [Value.cells] at hcs
      obtain ⟨rfl, rfl, rfl⟩ := hcs
      exact Bs.of_cells hl hm (by simpa using hz) hcell hwz
  clear hA0 hval0
  refine (HandleRaw_walk W a0 w0 a1 len1 cap1 z1 w1).mono fun e W' ⟨he, bel⟩ => ?_
  subst he
  exact ⟨_, rfl, _, _, _, [], _, [], hW', trodAll_mk1 (shut_bool Try.underlying4 _), (trodAll_cons_mk (shut_handle a0 w0) (trodAll_cons_mk (Below.trod laidOut (by kernel_rfl) (of_decide_eq_true (by kernel_rfl)) k1 bel lt1) trodAll_mk0)), rfl, bel.frame _, fun h => by cases h⟩

theorem over : Rows.handleRawRow.holds Try.pinned (OpenSpec.ofChange Rows.handleRawSpec) :=
  OpenClaim.holds_of_wide 3 Try.f3 rfl rfl rfl rfl rfl rfl rfl ⟨rfl, rfl, rfl, rfl, rfl⟩ rfl rfl rfl rfl rfl (by kernel_rfl) Try.func3 (by kernel_rfl)
    (of_decide_eq_true (by kernel_rfl)) (by unfold Func.isWrapper; first | (rw [if_pos (by decide +kernel)]; kernel_rfl) | (rw [if_neg (by decide +kernel)]; exact ⟨rfl, rfl⟩))
    (fun os started H enc _ => lifted os started H enc)

/-- The statement. -/
theorem proved : Rows.HandleRawSaid := over
#print axioms proved
end handleRaw
end Go.Proofs.Ytkkgfnncdaiooaa
