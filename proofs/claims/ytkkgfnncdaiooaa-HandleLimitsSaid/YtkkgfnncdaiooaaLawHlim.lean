/- What is proved here: shardqueuelaw09.HandleLimits returns true for every input and leaves its argument as it was. No condition. -/
import Derived.Test.YtkkgfnncdaiooaaJ07
import Derived.Test.YtkkgfnncdaiooaaJ08
import Derived.Test.YtkkgfnncdaiooaaJ09
import Derived.ProofKit
import Derived.OpenShut
import Derived.ShutString
import Derived.ChangeOld
import Derived.BigQuiet
import Derived.Deep.QuietTactic
namespace Go.Proofs.Ytkkgfnncdaiooaa
open Go.RowKit
set_option linter.unusedVariables false

/-- The handles at the limits, and one step past them. -/
def limH (m : Int) (k : Nat) : Hq := match k with | 0 => ⟨1073741824 + m, 1, 0, 0⟩ | 1 => ⟨1, 65536 + m, 0, 0⟩ | 2 => ⟨1, 1, 65535 + m, 0⟩ | 3 => ⟨1, 1, 0, 5 + m⟩ | 4 => ⟨1 - m, 1, 0, 0⟩ | _ => ⟨1, 1 - m, 0, 0⟩
theorem lim_yes (k : Nat) : HqR (limH 0 k) := by
  match k with
  | 0 => exact ⟨⟨by decide, by decide⟩, ⟨by decide, by decide⟩, ⟨by decide, by decide⟩, by decide, by decide⟩
  | 1 => exact ⟨⟨by decide, by decide⟩, ⟨by decide, by decide⟩, ⟨by decide, by decide⟩, by decide, by decide⟩
  | 2 => exact ⟨⟨by decide, by decide⟩, ⟨by decide, by decide⟩, ⟨by decide, by decide⟩, by decide, by decide⟩
  | 3 => exact ⟨⟨by decide, by decide⟩, ⟨by decide, by decide⟩, ⟨by decide, by decide⟩, by decide, by decide⟩
  | 4 => exact ⟨⟨by decide, by decide⟩, ⟨by decide, by decide⟩, ⟨by decide, by decide⟩, by decide, by decide⟩
  | k + 5 => exact ⟨⟨by show (1 : Int) ≤ 1; omega, by show (1 : Int) ≤ 1073741824; omega⟩, ⟨by show (1 : Int) ≤ 1 - 0; omega, by show (1 - 0 : Int) ≤ 65536; omega⟩, ⟨by show (0 : Int) ≤ 0; omega, by show (0 : Int) ≤ 65535; omega⟩, by show (0 : Int) ≤ 0; omega, by show (0 : Int) ≤ 5; omega⟩
theorem lim_no (k : Nat) : ¬ HqR (limH 1 k) := by
  rintro ⟨⟨h0, h1⟩, ⟨h2, h3⟩, ⟨h4, h5⟩, h6, h7⟩
  match k with
  | 0 => simp only [limH] at h1; omega
  | 1 => simp only [limH] at h3; omega
  | 2 => simp only [limH] at h5; omega
  | 3 => simp only [limH] at h7; omega
  | 4 => simp only [limH] at h0; omega
  | k + 5 => simp only [limH] at h2; omega
/-- The row of the six handles in a block. -/
structure LimR (w : World) (g : Nat) (m : Int) (W : World) : Prop where
  c : ∀ k, k < 6 → W.cell? ⟨g, k * 4, none⟩ = some (.int .i64 (limH m k).id) ∧ W.cell? ⟨g, k * 4 + 1, none⟩ = some (.int .i64 (limH m k).gn) ∧ W.cell? ⟨g, k * 4 + 2, none⟩ = some (.int .i64 (limH m k).rt) ∧ W.cell? ⟨g, k * 4 + 3, none⟩ = some (.int .i64 (limH m k).ht)
  lt : g < W.heap.size
  bel : Below w.heap.size w W
theorem LimR.up {w W W' : World} {g : Nat} {m : Int} (h : LimR w g m W) (hb : Below W.heap.size W W') : LimR w g m W' :=
  ⟨fun k hk => ⟨(hb.cell (p := ⟨g, k * 4, none⟩) h.lt).trans (h.c k hk).1, (hb.cell (p := ⟨g, k * 4 + 1, none⟩) h.lt).trans (h.c k hk).2.1, (hb.cell (p := ⟨g, k * 4 + 2, none⟩) h.lt).trans (h.c k hk).2.2.1, (hb.cell (p := ⟨g, k * 4 + 3, none⟩) h.lt).trans (h.c k hk).2.2.2⟩, Nat.lt_of_lt_of_le h.lt hb.size, h.bel.trans (hb.mono h.bel.size)⟩

open Classical in
set_option maxHeartbeats 4000000 in
set_option maxRecDepth 20000 in
theorem HandleLimits_walk (w : World) (more : Bool) :
    Calls Try.prog 7 #[.bool more] w fun e w' => e = .returned (.bool true) ∧ Below w.heap.size w w' := by
  have HAW := Lib.hid (fun W => awake9_any W)
  cases more with
  | true =>
    have HE := Lib.hid (fun k W => show Calls Try.prog 8 #[(limH 1 k).v] W (Put2 W [] 1) by
      have := enc_any (limH 1 k) W
      rwa [hqB_no (lim_no k), hqE_no (lim_no k)] at this)
    have HR0 := Lib.hid (show LimR w w.heap.size 1 (w.alloc (.cells #[.int .i64 1073741825, .int .i64 1, .int .i64 0, .int .i64 0, .int .i64 1, .int .i64 65537, .int .i64 0, .int .i64 0, .int .i64 1, .int .i64 1, .int .i64 65536, .int .i64 0, .int .i64 1, .int .i64 1, .int .i64 0, .int .i64 6, .int .i64 0, .int .i64 1, .int .i64 0, .int .i64 0, .int .i64 1, .int .i64 0, .int .i64 0, .int .i64 0] 23)) from by
      refine ⟨fun k hk => ?_, by simp, (Below.refl _ _).alloc (Nat.le_refl _) _⟩
      match k, hk with
      | 0, _ => exact ⟨by simp [go_sem, limH], by simp [go_sem, limH], by simp [go_sem, limH], by simp [go_sem, limH]⟩
      | 1, _ => exact ⟨by simp [go_sem, limH], by simp [go_sem, limH], by simp [go_sem, limH], by simp [go_sem, limH]⟩
      | 2, _ => exact ⟨by simp [go_sem, limH], by simp [go_sem, limH], by simp [go_sem, limH], by simp [go_sem, limH]⟩
      | 3, _ => exact ⟨by simp [go_sem, limH], by simp [go_sem, limH], by simp [go_sem, limH], by simp [go_sem, limH]⟩
      | 4, _ => exact ⟨by simp [go_sem, limH], by simp [go_sem, limH], by simp [go_sem, limH], by simp [go_sem, limH]⟩
      | 5, _ => exact ⟨by simp [go_sem, limH], by simp [go_sem, limH], by simp [go_sem, limH], by simp [go_sem, limH]⟩)
    go_enter Try.func7, Try.ntmps7
    go_wp2
    obtain ⟨g, hg⟩ : ∃ g, g = w.heap.size := ⟨_, rfl⟩
    rw [← hg] at HR0 ⊢
    clear hg
    generalize w.alloc (.cells #[.int .i64 1073741825, .int .i64 1, .int .i64 0, .int .i64 0, .int .i64 1, .int .i64 65537, .int .i64 0, .int .i64 0, .int .i64 1, .int .i64 1, .int .i64 65536, .int .i64 0, .int .i64 1, .int .i64 1, .int .i64 0, .int .i64 6, .int .i64 0, .int .i64 1, .int .i64 0, .int .i64 0, .int .i64 1, .int .i64 0, .int .i64 0, .int .i64 0] 23) = w0 at *
    go_loopw [5, 6, 7, 8, 9] (fun i _ _ _ _ wr => ∃ k : Nat, k ≤ 6 ∧ i = .int .i64 k ∧ Hid (LimR w g 1 wr)) (fun i _ _ _ _ _ => 6 - (intOf i).toNat)
    case atStart => exact ⟨0, by omega, rfl, HR0⟩
    case round =>
      clear HR0
      obtain ⟨k, hk, rfl, HR⟩ := hrel
      by_cases hlt : k < 6
      · have hlk : (k : Int) < 6 := by omega
        obtain ⟨x0, x1, x2, x3⟩ := HR.out.c k hlt
        have HEk := Lib.hid (HE.out k)
        generalize limH 1 k = H at *
        go_wp2_with fail
        refine (HEk.out _).mono ?_
        rintro e w2 ⟨v2, rfl, h2, hb⟩
        obtain ⟨A, c, rfl, -, -, -⟩ := id h2
        have HR2 := Lib.hid (HR.out.up hb)
        clear hb h2 HR x0 x1 x2 x3
        go_wp2
        go_roundw
        case rel => exact ⟨k + 1, by omega, by go_num, HR2⟩
        case measure => simp [intOf]; omega
      · obtain rfl : k = 6 := by omega
        go_wp2_with fail
        refine (HAW.out _).mono ?_
        rintro e w5 ⟨rfl, hb⟩
        have HW5 := Lib.hid (HR.out.bel.trans (hb.mono HR.out.bel.size))
        clear hb
        go_wp2
        go_ret
        exact ⟨rfl, HW5.out⟩
  | false =>
    have HE := Lib.hid (fun k W => show Calls Try.prog 8 #[(limH 0 k).v] W (Put2 W (hq16 (limH 0 k)) 0) by
      have := enc_any (limH 0 k) W
      rwa [hqB_yes (lim_yes k), hqE_yes (lim_yes k)] at this)
    have HP := Lib.hid (fun k A c W (hv : Bs W W.heap.size (.slice A 16 c) (hq16 (limH 0 k))) => show Calls Try.prog 10 #[.slice A 16 c] W (PH W (limH 0 k) 0) by
      have := parse_any A 16 c (hq16 (limH 0 k)) W hv (by omega)
      rwa [(pq_hq (lim_yes k)).1, (pq_hq (lim_yes k)).2] at this)
    have HR0 := Lib.hid (show LimR w w.heap.size 0 (w.alloc (.cells #[.int .i64 1073741824, .int .i64 1, .int .i64 0, .int .i64 0, .int .i64 1, .int .i64 65536, .int .i64 0, .int .i64 0, .int .i64 1, .int .i64 1, .int .i64 65535, .int .i64 0, .int .i64 1, .int .i64 1, .int .i64 0, .int .i64 5, .int .i64 1, .int .i64 1, .int .i64 0, .int .i64 0, .int .i64 1, .int .i64 1, .int .i64 0, .int .i64 0] 23)) from by
      refine ⟨fun k hk => ?_, by simp, (Below.refl _ _).alloc (Nat.le_refl _) _⟩
      match k, hk with
      | 0, _ => exact ⟨by simp [go_sem, limH], by simp [go_sem, limH], by simp [go_sem, limH], by simp [go_sem, limH]⟩
      | 1, _ => exact ⟨by simp [go_sem, limH], by simp [go_sem, limH], by simp [go_sem, limH], by simp [go_sem, limH]⟩
      | 2, _ => exact ⟨by simp [go_sem, limH], by simp [go_sem, limH], by simp [go_sem, limH], by simp [go_sem, limH]⟩
      | 3, _ => exact ⟨by simp [go_sem, limH], by simp [go_sem, limH], by simp [go_sem, limH], by simp [go_sem, limH]⟩
      | 4, _ => exact ⟨by simp [go_sem, limH], by simp [go_sem, limH], by simp [go_sem, limH], by simp [go_sem, limH]⟩
      | 5, _ => exact ⟨by simp [go_sem, limH], by simp [go_sem, limH], by simp [go_sem, limH], by simp [go_sem, limH]⟩)
    go_enter Try.func7, Try.ntmps7
    go_wp2
    obtain ⟨g, hg⟩ : ∃ g, g = w.heap.size := ⟨_, rfl⟩
    rw [← hg] at HR0 ⊢
    clear hg
    generalize w.alloc (.cells #[.int .i64 1073741824, .int .i64 1, .int .i64 0, .int .i64 0, .int .i64 1, .int .i64 65536, .int .i64 0, .int .i64 0, .int .i64 1, .int .i64 1, .int .i64 65535, .int .i64 0, .int .i64 1, .int .i64 1, .int .i64 0, .int .i64 5, .int .i64 1, .int .i64 1, .int .i64 0, .int .i64 0, .int .i64 1, .int .i64 1, .int .i64 0, .int .i64 0] 23) = w0 at *
    go_loopw [5, 6, 7, 8, 9] (fun i _ _ _ _ wr => ∃ k : Nat, k ≤ 6 ∧ i = .int .i64 k ∧ Hid (LimR w g 0 wr)) (fun i _ _ _ _ _ => 6 - (intOf i).toNat)
    case atStart => exact ⟨0, by omega, rfl, HR0⟩
    case round =>
      clear HR0
      obtain ⟨k, hk, rfl, HR⟩ := hrel
      by_cases hlt : k < 6
      · have hlk : (k : Int) < 6 := by omega
        obtain ⟨x0, x1, x2, x3⟩ := HR.out.c k hlt
        have HEk := Lib.hid (HE.out k)
        have HPk := Lib.hid (HP.out k)
        have HL := Lib.hid (hq16_len (limH 0 k))
        have hN := neqh (limH 0 k) (limH 0 k)
        rw [show (!decide (limH 0 k = limH 0 k)) = false by simp] at hN
        have HCK := Lib.hid (fun W (h : LimR w g 0 W) => h.c k hlt)
        generalize limH 0 k = H at *
        go_wp2_with fail
        refine (HEk.out _).mono ?_
        rintro e w2 ⟨v2, rfl, h2, hb⟩
        obtain ⟨A, c, rfl, -, -, -⟩ := id h2
        rw [HL.out] at h2 ⊢
        have HR2 := Lib.hid (HR.out.up hb)
        have HX2 := Lib.hid h2
        clear hb h2 HR x0 x1 x2 x3
        go_wp2_with fail
        refine (HPk.out _ _ _ HX2.out).mono ?_
        rintro e w3 ⟨rfl, hb⟩
        have HR3 := Lib.hid (HR2.out.up hb)
        clear hb HR2
        have HQ4 := Lib.hid (Qb.start w3 H.id H.gn H.rt H.ht 23)
        have HR4 := Lib.hid (HR3.out.up ((Below.refl _ _).alloc (Nat.le_refl _) (.cells #[.int .i64 H.id, .int .i64 H.gn, .int .i64 H.rt, .int .i64 H.ht] 23)))
        have hne : (k : Int) < 6 := hlk
        go_wp2
        generalize w3.alloc (.cells #[.int .i64 H.id, .int .i64 H.gn, .int .i64 H.rt, .int .i64 H.ht] 23) = w4 at *
        generalize w3.heap.size = q at *
        obtain ⟨x0, x1, x2, x3⟩ := HCK.out _ HR4.out
        obtain ⟨⟨y0, y1, y2, y3, yl⟩, -⟩ := HQ4.out.all
        have xl := HR4.out.lt
        go_quiet (fail)
        rename_i nq
        have HR5 := Lib.hid (HR4.out.up (belN (Below.refl w4.heap.size w4) nq))
        clear x0 x1 x2 x3 y0 y1 y2 y3 yl xl
        go_wp2
        go_roundw
        case rel => exact ⟨k + 1, by omega, by go_num, HR5⟩
        case measure => simp [intOf]; omega
      · obtain rfl : k = 6 := by omega
        go_wp2_with fail
        refine (HAW.out _).mono ?_
        rintro e w5 ⟨rfl, hb⟩
        have HW5 := Lib.hid (HR.out.bel.trans (hb.mono HR.out.bel.size))
        clear hb
        go_wp2
        go_ret
        exact ⟨rfl, HW5.out⟩

/-! The row's step, as the guide's shell has it. -/
namespace handleLimits
open Go.ChangeShapes Go.WideShapes Go.ChangeAt
open Go.ChangeMaps (open_string shut_string)
theorem own : ownKnob Try.prog.godebug = none := by kernel_rfl
theorem laidOut : laidOutB Try.prog = true := by kernel_rfl

set_option maxRecDepth 100000 in
theorem lifted (os : Os) (started : os.Started) (H : Type) (enc : TypeId × Value → H) :
    ReturnsInHanded {} Try.checked os 7 .any (Rows.handleLimitsSpec.pre6 enc Try.prog Try.f7 Rows.handleLimitsRow.domain false) (Rows.handleLimitsSpec.post enc Try.prog Try.f7 false true false false) := by
  refine returnsInHanded_of_change (C := Try.checked) own started (by kernel_rfl) Try.func7
    (ChangeSpec.witness6 (enc := enc) (C := Try.checked) false ⟨#[], #[.bool false], []⟩ 8 (by kernel_rfl) (by kernel_rfl) (by kernel_rfl) (by kernel_rfl)) ?_
  intro W base args ds gs before hval0 hW hcnd _
  have hval : ∀ (j : Nat) t v, Try.f7.params[j]? = some t → args[j]? = some v → Value.okWide Try.prog W .any base t v := hval0
  have hW' := hW
  obtain ⟨p, q, hA0, hV, rfl, hfz, hnd⟩ := hW
  have hA : DataW.TrodAll enc Try.prog W 0 (fun _ => true) true Try.f7.params.toList args.toList ds p := hA0
  rw [Try.params7] at hA hval
  obtain ⟨v0, vs0, d0, ds0, p0, q0, hargs, rfl, rfl, h0, r0⟩ := trodAll_cons hA
  obtain ⟨rfl, rfl, rfl⟩ := trodAll_nil r0
  obtain rfl : args = #[v0] := by cases args; simp_all
  obtain ⟨rfl, rfl⟩ := trodVars_none hV
  obtain ⟨a0, rfl, rfl, rfl⟩ := open_bool Try.underlying4 (hval 0 4 v0 rfl rfl) h0
  clear hA0 hval0
  simp only [List.append_nil] at hW'
  refine (HandleLimits_walk W a0).mono fun e W' ⟨he, bel⟩ => ?_
  subst he
  exact ⟨_, rfl, _, _, _, [], _, [], hW', trodAll_mk1 (shut_bool Try.underlying4 _), (trodAll_cons_mk (shut_bool Try.underlying4 _) trodAll_mk0), rfl, bel.frame _, fun h => by cases h⟩

theorem over : Rows.handleLimitsRow.holds Try.pinned (OpenSpec.ofChange Rows.handleLimitsSpec) :=
  OpenClaim.holds_of_wide 7 Try.f7 rfl rfl rfl rfl rfl rfl rfl ⟨rfl, rfl, rfl, rfl, rfl⟩ rfl rfl rfl rfl rfl (by kernel_rfl) Try.func7 (by kernel_rfl)
    (of_decide_eq_true (by kernel_rfl)) (by unfold Func.isWrapper; first | (rw [if_pos (by decide +kernel)]; kernel_rfl) | (rw [if_neg (by decide +kernel)]; exact ⟨rfl, rfl⟩))
    (fun os started H enc _ => lifted os started H enc)

/-- The statement. -/
theorem proved : Rows.HandleLimitsSaid := over
#print axioms proved
end handleLimits
end Go.Proofs.Ytkkgfnncdaiooaa
