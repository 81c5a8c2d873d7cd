/- What is proved here: shardqueuelaw05.DueFull returns true for every input. No condition. -/
import Derived.Test.YtobimcpkhgfliaaJ12
import Derived.ProofKit
import Derived.OpenShut
import Derived.ShutString
import Derived.ChangeOld
namespace Go.Proofs.Ytobimcpkhgfliaa
open Go.RowKit
set_option linter.unusedVariables false

/-- The heap after i - 1 pushes. -/
structure FuAt (w : World) (A : Option Addr) (k c : Nat) (l : List Du) (i : Nat) (W : World) : Prop where
  dl : Dl W W.heap.size (.slice A k c) l
  ok : vaF l = 0
  len : k = min (i - 1) 12
  ids : ∀ d ∈ l, 1073741824 - (i : Int) < d.id
  bel : Below w.heap.size w W
theorem fu_push {w W : World} {A : Option Addr} {k c i : Nat} {l : List Du} (h : FuAt w A k c l i W) (h1 : 1 ≤ i) (h2 : i ≤ 14) :
    (i ≤ 12 → puE l ⟨1073741824, 1073741824 - i⟩ = 0 ∧ k = i - 1) ∧ (12 < i → puE l ⟨1073741824, 1073741824 - i⟩ = 3 ∧ puR l ⟨1073741824, 1073741824 - i⟩ = []) := by
  have hk := h.len
  have hl : k = l.length := h.dl.len.1
  have hs : snd ⟨1073741824, 1073741824 - (i : Int)⟩ = true := decide_eq_true ⟨by show (0 : Int) ≤ 1073741824; omega, by show (1073741824 : Int) ≤ 1073741824; omega, by show 1 ≤ 1073741824 - (i : Int); omega, by show 1073741824 - (i : Int) ≤ 1073741824; omega⟩
  have hi : ¬ 0 ≤ ixD l (1073741824 - (i : Int)) := fun hx => by
    obtain ⟨d, hd, e⟩ := (ixD_ge _ _).1 hx
    have := h.ids d hd
    omega
  refine ⟨fun h3 => ⟨?_, by omega⟩, fun h3 => ?_⟩
  · unfold puE
    rw [if_neg (by simpa using h.ok), if_neg (by simp [hs]), if_neg (by omega), if_neg hi]
  · have he : puE l ⟨1073741824, 1073741824 - (i : Int)⟩ = 3 := by
      unfold puE
      rw [if_neg (by simpa using h.ok), if_neg (by simp [hs]), if_pos (by omega)]
    exact ⟨he, by unfold puR; rw [he]; rfl⟩
theorem fu_step {w W W' : World} {A A' : Option Addr} {k c c' i : Nat} {l : List Du} (h : FuAt w A k c l i W) (he : puE l ⟨1073741824, 1073741824 - (i : Int)⟩ = 0) (hk : k = i - 1) (h1 : 1 ≤ i) (h12 : i ≤ 12)
    (hd : Dl W' W'.heap.size (.slice A' (puR l ⟨1073741824, 1073741824 - (i : Int)⟩).length c') (puR l ⟨1073741824, 1073741824 - (i : Int)⟩)) (hb : Below W.heap.size W W') :
    (puR l ⟨1073741824, 1073741824 - (i : Int)⟩).length = i ∧ FuAt w A' i c' (puR l ⟨1073741824, 1073741824 - (i : Int)⟩) (i + 1) W' := by
  have hl : k = l.length := h.dl.len.1
  have hr : puR l ⟨1073741824, 1073741824 - (i : Int)⟩ = puF l ⟨1073741824, 1073741824 - (i : Int)⟩ := if_pos he
  have hlen : (puR l ⟨1073741824, 1073741824 - (i : Int)⟩).length = i := by rw [hr, puF_len]; omega
  obtain ⟨e1, e2, e3, e4⟩ := puE_zero he
  refine ⟨hlen, ⟨by rw [hlen] at hd; exact hd, by rw [hr]; exact vaF_push e1 e2 e3 e4, by omega, fun d hm => ?_, h.bel.trans (hb.mono h.bel.size)⟩⟩
  rw [hr] at hm
  rcases List.mem_cons.1 ((puF_perm _ _).mem_iff.1 hm) with e | e
  · rw [e]; show 1073741824 - ((i + 1 : Nat) : Int) < 1073741824 - (i : Int); omega
  · have := h.ids d e; omega
theorem fu_full {w W W' : World} {A : Option Addr} {k c i : Nat} {l : List Du} (h : FuAt w A k c l i W) (h12 : 12 < i) (hb : Below W.heap.size W W') : FuAt w A k c l (i + 1) W' :=
  ⟨h.dl.up hb, h.ok, by have := h.len; omega, fun d hd => by have := h.ids d hd; omega, h.bel.trans (hb.mono h.bel.size)⟩
theorem pu_nil (d : Du) : puE [] d = if snd d = false then 1 else 0 := by
  unfold puE
  rw [if_neg (by simpa using aw_va0)]
  split
  · rfl
  · rw [if_neg (by simp), if_neg (by rw [ixD_none (fun j hj => by simp at hj)]; decide)]

set_option maxHeartbeats 16000000 in
set_option maxRecDepth 20000 in
theorem DueFull_walk (w : World) (a0 : Int) (w0 : (Lit.int .u8 a0).wf = true) :
    Calls Try.prog 8 #[.int .u8 a0] w fun e w' => e = .returned (.bool true) ∧ Below w.heap.size w w' := by
  have hb0 : 0 ≤ a0 ∧ a0 ≤ 255 := by
    simp only [Lit.wf, Bool.and_eq_true, decide_eq_true_eq] at w0
    exact w0
  obtain ⟨r, hr⟩ : ∃ r : Nat, (r : Int) = a0.tmod 3 ∧ r ≤ 2 := ⟨(a0.tmod 3).toNat, by rw [Int.tmod_eq_emod_of_nonneg hb0.1]; omega, by rw [Int.tmod_eq_emod_of_nonneg hb0.1]; omega⟩
  have HR := Lib.hid hr
  have H0 := Lib.hid (show FuAt w none 0 0 [] 1 w from ⟨Dl.nil, aw_va0, rfl, fun d hd => (by cases hd), Below.refl _ _⟩)
  have htm : a0.tmod 3 = (r : Int) := hr.1.symm
  have hr2 : (r : Int) ≤ 2 := by omega
  have hr0 : (0 : Int) ≤ (r : Int) := by omega
  clear w0 hr
  go_enter Try.func8, Try.ntmps8
  go_wp2
  go_loopw [3, 4] (fun hv iv wr => ∃ (A : Option Addr) (k c : Nat) (l : List Du) (i : Nat), hv = .slice A k c ∧ iv = .int .i64 i ∧ 1 ≤ i ∧ i ≤ 13 + r ∧ FuAt w A k c l i wr) (fun _ iv _ => 20 - (intOf iv).toNat)
  case atStart => exact ⟨none, 0, 0, [], 1, rfl, rfl, Nat.le_refl _, by omega, H0.out⟩
  case round =>
    obtain ⟨A, k, c, l, i, rfl, rfl, hi1, hi2, hf⟩ := hrel
    have HF := Lib.hid hf
    have hi15 : (i : Int) ≤ 15 := by omega
    have hi1' : (1 : Int) ≤ (i : Int) := by omega
    clear hf
    by_cases hlt : i ≤ 12 + r
    · have hlt' : (i : Int) ≤ 12 + (r : Int) := by omega
      have HPU := Lib.hid (fu_push HF.out hi1 (by omega))
      have HC := Lib.hid (show Calls Try.prog 15 #[.slice A k c, .agg #[.int .i64 1073741824, .int .i64 (1073741824 - (i : Int))]] wr (DlE wr (puR l ⟨1073741824, 1073741824 - (i : Int)⟩) (puE l ⟨1073741824, 1073741824 - (i : Int)⟩)) from dpush_any A k c l ⟨1073741824, 1073741824 - (i : Int)⟩ wr HF.out.dl)
      by_cases h12 : i ≤ 12
      · obtain ⟨he, hk⟩ := HPU.out.1 h12
        have HST := Lib.hid (fun A' c' W' hd hb => fu_step (W' := W') (A' := A') (c' := c') HF.out he hk hi1 h12 hd hb)
        rw [he] at HC
        generalize puR l ⟨1073741824, 1073741824 - (i : Int)⟩ = L at *
        have hd12 : decide ((i : Int) ≤ 12) = true := by simp; omega
        clear he hk
        go_wp2_with fail
        refine HC.out.mono ?_
        rintro e w4 ⟨A4, c4, rfl, _, hl4, hb⟩
        obtain ⟨hlen, hfu⟩ := HST.out A4 c4 w4 hl4 hb
        rw [hlen]
        have HF4 := Lib.hid hfu
        have h12' : (i : Int) ≤ 12 := by omega
        clear hl4 hb hlen hfu
        go_wp2
        go_roundw
        case rel => exact ⟨A4, i, c4, L, i + 1, rfl, by go_num, by omega, by omega, HF4.out⟩
        case measure => simp [intOf]; omega
      · obtain ⟨he, hr⟩ := HPU.out.2 (by omega)
        rw [he, hr] at HC
        have hd12 : decide ((i : Int) ≤ 12) = false := by simp; omega
        clear he hr
        go_wp2_with fail
        refine HC.out.mono ?_
        rintro e w4 ⟨A4, c4, rfl, _, hl4, hb⟩
        have HF4 := Lib.hid (fu_full HF.out (by omega) hb)
        rw [show ([] : List Du).length = 0 from rfl]
        have h12' : ¬ (i : Int) ≤ 12 := by omega
        clear hl4 hb
        go_wp2
        go_roundw
        case rel => exact ⟨A, k, c, l, i + 1, rfl, by go_num, by omega, by omega, HF4.out⟩
        case measure => simp [intOf]; omega
    · obtain rfl : i = 13 + r := by omega
      have hk12 : k = 12 := by have := HF.out.len; omega
      subst hk12
      have hlt' : ¬ (((13 + r : Nat) : Int) ≤ 12 + (r : Int)) := by omega
      have HB := Lib.hid HF.out.bel
      have HP1 := Lib.hid (fun W => (show Calls Try.prog 15 #[.slice none 0 0, .agg #[.int .i64 1073741825, .int .i64 1]] W (DlE W [] 1) from by
        have h := dpush_any none 0 0 [] ⟨1073741825, 1⟩ W Dl.nil
        have he : puE [] ⟨1073741825, 1⟩ = 1 := by rw [pu_nil, if_pos (by decide)]
        rw [he, show puR [] ⟨1073741825, 1⟩ = [] by unfold puR; rw [he]; rfl] at h
        exact h))
      have HP2 := Lib.hid (fun W => (show Calls Try.prog 15 #[.slice none 0 0, .agg #[.int .i64 0, .int .i64 1073741825]] W (DlE W [] 1) from by
        have h := dpush_any none 0 0 [] ⟨0, 1073741825⟩ W Dl.nil
        have he : puE [] ⟨0, 1073741825⟩ = 1 := by rw [pu_nil, if_pos (by decide)]
        rw [he, show puR [] ⟨0, 1073741825⟩ = [] by unfold puR; rw [he]; rfl] at h
        exact h))
      have HP3 := Lib.hid (fun W => (show Calls Try.prog 15 #[.slice none 0 0, .agg #[.int .i64 0, .int .i64 1073741824]] W (DlE W [⟨0, 1073741824⟩] 0) from by
        have h := dpush_any none 0 0 [] ⟨0, 1073741824⟩ W Dl.nil
        have he : puE [] ⟨0, 1073741824⟩ = 0 := by rw [pu_nil, if_neg (by decide)]
        rw [he, show puR [] ⟨0, 1073741824⟩ = [⟨0, 1073741824⟩] by unfold puR puF; rw [if_pos he, List.length_nil, upF_zero]; rfl] at h
        exact h))
      clear hi15 hi1' hi1 hi2 hlt
      go_wp2_with fail
      refine (HP1.out _).mono ?_
      rintro e w4 ⟨A4, c4, rfl, _, _, hb⟩
      have HB4 := Lib.hid (HB.out.trans (hb.mono HB.out.size))
      rw [show ([] : List Du).length = 0 from rfl]
      clear hb
      go_wp2_with fail
      refine (HP2.out _).mono ?_
      rintro e w5 ⟨A5, c5, rfl, _, _, hb⟩
      have HB5 := Lib.hid (HB4.out.trans (hb.mono HB4.out.size))
      rw [show ([] : List Du).length = 0 from rfl]
      clear hb
      go_wp2_with fail
      refine (HP3.out _).mono ?_
      rintro e w6 ⟨A6, c6, rfl, _, _, hb⟩
      have HB6 := Lib.hid (HB5.out.trans (hb.mono HB5.out.size))
      rw [show ([⟨0, 1073741824⟩] : List Du).length = 1 from rfl]
      clear hb
      go_wp2_with fail
      refine (awake5_any _).mono ?_
      rintro e w7 ⟨rfl, hb⟩
      have HB7 := Lib.hid (HB6.out.trans (hb.mono HB6.out.size))
      clear hb
      go_wp2
      go_ret
      exact ⟨rfl, HB7.out⟩

/-! The row's step, as the guide's shell has it. -/
namespace dueFull
open Go.ChangeShapes Go.WideShapes Go.ChangeAt
open Go.ChangeMaps (open_string shut_string)
theorem own : ownKnob Try.prog.godebug = none := by kernel_rfl
theorem laidOut : laidOutB Try.prog = true := by kernel_rfl

set_option maxRecDepth 100000 in
theorem lifted (os : Os) (started : os.Started) (H : Type) (enc : TypeId × Value → H) :
    ReturnsInHanded {} Try.checked os 8 .any (Rows.dueFullSpec.pre6 enc Try.prog Try.f8 Rows.dueFullRow.domain false) (Rows.dueFullSpec.post enc Try.prog Try.f8 false true false false) := by
  refine returnsInHanded_of_change (C := Try.checked) own started (by kernel_rfl) Try.func8
    (ChangeSpec.witness6 (enc := enc) (C := Try.checked) false ⟨#[], #[.int .u8 0], []⟩ 8 (by kernel_rfl) (by kernel_rfl) (by kernel_rfl) (by kernel_rfl)) ?_
  intro W base args ds gs before hval0 hW hcnd _
  have hval : ∀ (j : Nat) t v, Try.f8.params[j]? = some t → args[j]? = some v → Value.okWide Try.prog W .any base t v := hval0
  have hW' := hW
  obtain ⟨p, q, hA0, hV, rfl, hfz, hnd⟩ := hW
  have hA : DataW.TrodAll enc Try.prog W 0 (fun _ => true) true Try.f8.params.toList args.toList ds p := hA0
  rw [Try.params8] at hA hval
  obtain ⟨v0, vs0, d0, ds0, p0, q0, hargs, rfl, rfl, h0, r0⟩ := trodAll_cons hA
  obtain ⟨rfl, rfl, rfl⟩ := trodAll_nil r0
  obtain rfl : args = #[v0] := by cases args; simp_all
  obtain ⟨rfl, rfl⟩ := trodVars_none hV
  obtain ⟨a0, rfl, rfl, rfl, w0⟩ := open_int Try.underlying5 (hval 0 5 v0 rfl rfl) h0
  clear hA0 hval0
  simp only [List.append_nil] at hW'
  refine (DueFull_walk W a0 w0).mono fun e W' ⟨he, bel⟩ => ?_
  subst he
  exact ⟨_, rfl, _, _, _, [], _, [], hW', trodAll_mk1 (shut_bool Try.underlying4 _), (trodAll_cons_mk (shut_int Try.underlying5 w0) trodAll_mk0), rfl, bel.frame _, fun h => by cases h⟩

theorem over : Rows.dueFullRow.holds Try.pinned (OpenSpec.ofChange Rows.dueFullSpec) :=
  OpenClaim.holds_of_wide 8 Try.f8 rfl rfl rfl rfl rfl rfl rfl ⟨rfl, rfl, rfl, rfl, rfl⟩ rfl rfl rfl rfl rfl (by kernel_rfl) Try.func8 (by kernel_rfl)
    (of_decide_eq_true (by kernel_rfl)) (by unfold Func.isWrapper; first | (rw [if_pos (by decide +kernel)]; kernel_rfl) | (rw [if_neg (by decide +kernel)]; exact ⟨rfl, rfl⟩))
    (fun os started H enc _ => lifted os started H enc)

/-- The statement. -/
theorem proved : Rows.DueFullSaid := over
#print axioms proved
end dueFull
end Go.Proofs.Ytobimcpkhgfliaa
