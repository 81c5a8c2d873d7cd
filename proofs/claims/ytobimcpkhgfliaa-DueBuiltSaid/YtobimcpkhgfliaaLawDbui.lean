/- What is proved here: shardqueuelaw05.DueBuilt returns true for every input and leaves its argument as it was. No condition. -/
import Derived.Test.YtobimcpkhgfliaaJ12
import Derived.Test.YtobimcpkhgfliaaJ13
import Derived.Test.YtobimcpkhgfliaaJ14
import Derived.ProofKit
import Derived.OpenShut
import Derived.ShutString
import Derived.ChangeOld
namespace Go.Proofs.Ytobimcpkhgfliaa
open Go.RowKit
set_option linter.unusedVariables false

theorem DRow.grownG {W W' : World} {q n g : Nat} {f : Nat → Du} (h : DRow W q n f) (hg : W.grownBy W' (some g)) (hne : q ≠ g) : DRow W' q n f :=
  ⟨Nat.lt_of_lt_of_le h.1 hg.size, fun k hk j hj => (hg.cell_far ⟨q, k * 2 + j, none⟩ h.1 (fun e => hne (by injection e))).trans (h.2.1 k hk j hj), fun o => (hg.frozen_far ⟨q, o, none⟩ h.1 (fun e => hne (by injection e))).trans (h.2.2 o)⟩
set_option maxHeartbeats 16000000 in
set_option maxRecDepth 20000 in
theorem DueBuilt_walk (w : World) (a0 : Option Addr) (l0 c0 : Nat) (zs : List Int) (hz : Ns w w.heap.size (.slice a0 l0 c0) zs) :
    Calls Try.prog 4 #[.slice a0 l0 c0] w fun e w' => e = .returned (.bool true) ∧ Below w.heap.size w w' := by
  have HN := Lib.hid (new_src a0 l0 c0 zs w hz)
  obtain ⟨i0, hi0, hz0⟩ := Option.map_eq_some_iff.1 info_due
  simp only [Prod.mk.injEq] at hz0
  have HI := Lib.hid hi0
  have HZ := Lib.hid hz0
  clear hz hi0 hz0
  go_enter Try.func4, Try.ntmps4
  go_wp2_with fail
  refine HN.out.mono ?_
  rintro e w1 ⟨g, rfl, hs, hb⟩
  have HW1 := Lib.hid hb
  have HS1 := Lib.hid hs
  have HG := Lib.hid (show g < w1.heap.size from hs.2.1)
  have HBG := Lib.hid (show w.heap.size ≤ g from hs.1)
  clear hb hs
  go_wp2_with fail
  refine (heap_any w.heap.size g _ HS1.out).mono ?_
  rintro e w2 ⟨A, c, l, rfl, hv, hnw, hl, hs, hg⟩
  have H2 := Lib.hid (show HpAt w1 w.heap.size g A c l w2 from ⟨hl, hv, hnw, hs, hg⟩)
  have HL12 := Lib.hid (vaF_zero hv).1
  have hl12 : (l.length : Int) ≤ 12 := by have := HL12.out; omega
  have HBL := Lib.hid (fun W (h : HpAt w1 w.heap.size g A c l W) => below_only HW1.out h.grow HBG.out (Nat.le_refl _))
  clear hv hnw hl hs hg
  go_wp2
  go_loopw [5] (fun i wr => ∃ j : Nat, j ≤ 4 ∧ i = .int .i64 j ∧ HpAt w1 w.heap.size g A c l wr) (fun i _ => 4 - (intOf i).toNat)
  case atStart => exact ⟨0, by omega, rfl, H2.out⟩
  case round =>
    obtain ⟨j, hj, rfl, hh⟩ := hrel
    have HH := Lib.hid hh
    clear hh
    by_cases hj4 : j < 4
    · have hj4' : (j : Int) < 4 := by omega
      go_wp2_with fail
      refine (range2_any w.heap.size g _ HH.out.src (-1) 12 (by omega) (by omega) (by omega)).mono ?_
      rintro e w3 ⟨x1, rfl, _, _, hs, hg⟩
      have H3 := Lib.hid (HH.out.turn HG.out hs hg)
      clear hs hg
      go_wp2_with fail
      refine (range2_any w.heap.size g _ H3.out.src 0 25 (by omega) (by omega) (by omega)).mono ?_
      rintro e w4 ⟨x2, rfl, _, _, hs, hg⟩
      have H4 := Lib.hid (H3.out.turn HG.out hs hg)
      clear hs hg
      go_wp2_with fail
      refine (range2_any w.heap.size g _ H4.out.src 0 22 (by omega) (by omega) (by omega)).mono ?_
      rintro e w5 ⟨x3, rfl, _, _, hs, hg⟩
      have H5 := Lib.hid (H4.out.turn HG.out hs hg)
      clear hs hg
      go_wp2_with fail
      refine (range2_any w.heap.size g _ H5.out.src (-1) 13 (by omega) (by omega) (by omega)).mono ?_
      rintro e w6 ⟨x4, rfl, _, _, hs, hg⟩
      have H6 := Lib.hid (H5.out.turn HG.out hs hg)
      have HA := Lib.hid (show Calls Try.prog 9 #[.slice A l.length c, .agg #[.int .i64 x1, .int .i64 x2], .int .i64 x3, .int .i64 x4] w6 (fun e w' => e = .returned (.bool true) ∧ Below w6.heap.size w6 w') from agrees5_any A l.length c l ⟨x1, x2⟩ x3 x4 w6 H6.out.dl)
      clear hs hg
      go_wp2_with fail
      refine HA.out.mono ?_
      rintro e w7 ⟨rfl, hb⟩
      have H7 := Lib.hid (H6.out.below hb)
      clear hb
      go_wp2
      go_roundw
      case rel => exact ⟨j + 1, by omega, by go_num, H7.out⟩
      case measure => simp [intOf]; omega
    · obtain rfl : j = 4 := by omega
      by_cases hn0 : 0 < l.length
      · have hn0' : (0 : Int) < (l.length : Int) := by omega
        have HRD := Lib.hid HH.out.dl.rd
        go_wp2_with (at_builtin; refine wpList_append_rd _ rfl (.const (.slice none 0 0)) (.tmp 29) 22 rfl wr.heap.size 24 i0 _ 2 16 Try.underlying22 HI.out HZ.out.1 HZ.out.2.1 HZ.out.2.2 rfl (by omega) (.slice none 0 0) 0 [] rfl (World.ownsRow_nil _ _ _ _) wr.heap.size A l.length c (dcs l) rfl HRD.out (dcs_one l) (by have := HL12.out; unfold maxLen; omega) (by have := HL12.out; omega) (Nat.le_refl _) ?_; intro v3 w3 hown3 hg3 hat3; rw [Nat.zero_add, List.nil_append] at hown3; obtain ⟨q, cap, rfl, hq, hle, hmx, hrow⟩ := own_row hown3 hn0; have HROW := Lib.hid hrow; have HM := Lib.hid (And.intro hle hmx); have HB3 := Lib.hid ((Below.refl wr.heap.size wr).grown hg3 (Nat.le_refl _) (fun k e => by simp [Value.ownBlock] at e)); have HQ := Lib.hid (show w.heap.size ≤ q ∧ q ≠ g from ⟨by have := HBG.out; have := HG.out; have := HH.out.grow.size; omega, by have := HG.out; have := HH.out.grow.size; omega⟩); clear hown3 hg3 hat3 hq hle hmx hrow)
        have HS3 := Lib.hid (HH.out.src.below HB3.out)
        have HW3 := Lib.hid ((HBL.out _ HH.out).trans (HB3.out.mono (HBL.out _ HH.out).size))
        refine (n_any w.heap.size g _ HS3.out l.length (by omega) (by omega)).mono ?_
        rintro e w4 ⟨k, rfl, hk0, hk1, hs, hg⟩
        obtain ⟨k, rfl⟩ := Int.eq_ofNat_of_zero_le hk0
        have HS4 := Lib.hid hs
        have HR4 := Lib.hid (HROW.out.grownG hg HQ.out.2)
        have HW4 := Lib.hid (below_only HW3.out hg HBG.out (Nat.le_refl _))
        have hkl : k < l.length := by omega
        clear hs hg
        go_wp2_with fail
        refine (range2_any w.heap.size g _ HS4.out 0 12 (by omega) (by omega) (by omega)).mono ?_
        rintro e w5 ⟨x1, rfl, _, _, hs, hg⟩
        have HS5 := Lib.hid hs
        have HR5 := Lib.hid (HR4.out.grownG hg HQ.out.2)
        have HW5 := Lib.hid (below_only HW4.out hg HBG.out (Nat.le_refl _))
        clear hs hg
        go_wp2_with fail
        refine (range2_any w.heap.size g _ HS5.out 1 20 (by omega) (by omega) (by omega)).mono ?_
        rintro e w6 ⟨x2, rfl, _, _, hs, hg⟩
        have HS6 := Lib.hid hs
        have HR6 := Lib.hid (HR5.out.grownG hg HQ.out.2)
        have HW6 := Lib.hid (below_only HW5.out hg HBG.out (Nat.le_refl _))
        clear hs hg
        obtain ⟨y0, y1, f0, f1, hql⟩ := HR6.out.at_ hkl
        have hkl' : (k : Int) < (l.length : Int) := by omega
        go_wp2_with fail
        have HR7 := Lib.hid ((HR6.out.put hkl ⟨x1, x2⟩).congr (g := ge (l.set k ⟨x1, x2⟩)) fun t ht => by rw [ge_set _ _ _ _ hkl])
        have HS7 := Lib.hid ((HS6.out.other (p := ⟨q, k * 2, none⟩) HQ.out.2 HQ.out.1 (.int .i64 x1)).other (p := ⟨q, k * 2 + 1, none⟩) HQ.out.2 HQ.out.1 (.int .i64 x2))
        have HW7 := Lib.hid ((HW6.out.setCell (p := ⟨q, k * 2, none⟩) HQ.out.1 (.int .i64 x1)).setCell (p := ⟨q, k * 2 + 1, none⟩) HQ.out.1 (.int .i64 x2))
        clear y0 y1 f0 f1 hql
        generalize ((w6.setCell ⟨q, k * 2, none⟩ (.int .i64 x1)).setCell ⟨q, k * 2 + 1, none⟩ (.int .i64 x2)) = w7 at *
        refine (range2_any w.heap.size g _ HS7.out 1 20 (by omega) (by omega) (by omega)).mono ?_
        rintro e w8 ⟨x3, rfl, _, _, hs, hg⟩
        have HR8 := Lib.hid (HR7.out.grownG hg HQ.out.2)
        have HW8 := Lib.hid (below_only HW7.out hg HBG.out (Nat.le_refl _))
        have HA := Lib.hid (show Calls Try.prog 9 #[.slice (some ⟨q, 0, none⟩) l.length cap, .agg #[.int .i64 4, .int .i64 30], .int .i64 x3, .int .i64 6] w8 (fun e w' => e = .returned (.bool true) ∧ Below w8.heap.size w8 w') from agrees5_any (some ⟨q, 0, none⟩) l.length cap (l.set k ⟨x1, x2⟩) ⟨4, 30⟩ x3 6 w8 (HR8.out.dl' (by simp) HM.out.1 HM.out.2))
        clear hs hg
        go_wp2_with fail
        refine HA.out.mono ?_
        rintro e w9 ⟨rfl, hb⟩
        have HW9 := Lib.hid (HW8.out.trans (hb.mono HW8.out.size))
        clear hb
        go_wp2_with fail
        refine (awake5_any _).mono ?_
        rintro e w10 ⟨rfl, hb⟩
        have HW10 := Lib.hid (HW9.out.trans (hb.mono HW9.out.size))
        clear hb
        go_wp2
        go_ret
        exact ⟨rfl, HW10.out⟩
      · have hn0' : ¬ (0 : Int) < (l.length : Int) := by omega
        go_wp2_with fail
        refine (range2_any w.heap.size g _ HH.out.src 1 20 (by omega) (by omega) (by omega)).mono ?_
        rintro e w8 ⟨x3, rfl, _, _, hs, hg⟩
        have H8 := Lib.hid (HH.out.turn HG.out hs hg)
        have HW8 := Lib.hid (HBL.out _ H8.out)
        have HA := Lib.hid (show Calls Try.prog 9 #[.slice A l.length c, .agg #[.int .i64 4, .int .i64 30], .int .i64 x3, .int .i64 6] w8 (fun e w' => e = .returned (.bool true) ∧ Below w8.heap.size w8 w') from agrees5_any A l.length c l ⟨4, 30⟩ x3 6 w8 H8.out.dl)
        clear hs hg
        go_wp2_with fail
        refine HA.out.mono ?_
        rintro e w9 ⟨rfl, hb⟩
        have HW9 := Lib.hid (HW8.out.trans (hb.mono HW8.out.size))
        clear hb
        go_wp2_with fail
        refine (awake5_any _).mono ?_
        rintro e w10 ⟨rfl, hb⟩
        have HW10 := Lib.hid (HW9.out.trans (hb.mono HW9.out.size))
        clear hb
        go_wp2
        go_ret
        exact ⟨rfl, HW10.out⟩

/-! The row's step, as the guide's shell has it. -/
namespace dueBuilt
open Go.ChangeShapes Go.WideShapes Go.ChangeAt
open Go.ChangeMaps (open_string shut_string)
theorem own : ownKnob Try.prog.godebug = none := by kernel_rfl
theorem laidOut : laidOutB Try.prog = true := by kernel_rfl

set_option maxRecDepth 100000 in
theorem lifted (os : Os) (started : os.Started) (H : Type) (enc : TypeId × Value → H) :
    ReturnsInHanded {} Try.checked os 4 .any (Rows.dueBuiltSpec.pre6 enc Try.prog Try.f4 Rows.dueBuiltRow.domain false) (Rows.dueBuiltSpec.post enc Try.prog Try.f4 false true false false) := by
  refine returnsInHanded_of_change (C := Try.checked) own started (by kernel_rfl) Try.func4
    (ChangeSpec.witness6 (enc := enc) (C := Try.checked) false ⟨#[], #[.slice none 0 0], []⟩ 8 (by kernel_rfl) (by kernel_rfl) (by kernel_rfl) (by kernel_rfl)) ?_
  intro W base args ds gs before hval0 hW hcnd _
  have hval : ∀ (j : Nat) t v, Try.f4.params[j]? = some t → args[j]? = some v → Value.okWide Try.prog W .any base t v := hval0
  have hW' := hW
  obtain ⟨p, q, hA0, hV, rfl, hfz, hnd⟩ := hW
  have hA : DataW.TrodAll enc Try.prog W 0 (fun _ => true) true Try.f4.params.toList args.toList ds p := hA0
  rw [Try.params4] at hA hval
  obtain ⟨v0, vs0, d0, ds0, p0, q0, hargs, rfl, rfl, h0, r0⟩ := trodAll_cons hA
  obtain ⟨rfl, rfl, rfl⟩ := trodAll_nil r0
  obtain rfl : args = #[v0] := by cases args; simp_all
  obtain ⟨rfl, rfl⟩ := trodVars_none hV
  obtain ⟨a0, len0, cap0, rfl⟩ := okWide_slice Try.underlying27 (hval 0 27 v0 rfl rfl)
  have k0 := h0
  have lt0 : ∀ x ∈ p0, x.block < W.heap.size := by obtain ⟨m, hm⟩ := k0; exact DataW.trod_lt m _ _ _ hm
  obtain ⟨z0, w0⟩ : ∃ zs, Ns W W.heap.size (.slice a0 len0 cap0) zs := by
    obtain ⟨fuel, hf⟩ := h0
    rcases open_ints Try.underlying27 Try.underlying3 (by kernel_rfl) hf with ⟨hcs, _⟩ | ⟨x, l, c, zs, hcs, _, hl, hm, hz, _, hcell, hwz⟩
    · simp [Value.cells] at hcs
      obtain ⟨rfl, rfl, rfl⟩ := hcs
      exact ⟨[], Ns.nil⟩
    · simp [Value.cells] at hcs
      obtain ⟨rfl, rfl, rfl⟩ := hcs
      exact Ns.of_cells hl hm (by simpa using hz) hcell hwz
  clear hA0 hval0
  refine (DueBuilt_walk W a0 len0 cap0 z0 w0).mono fun e W' ⟨he, bel⟩ => ?_
  subst he
  exact ⟨_, rfl, _, _, _, [], _, [], hW', trodAll_mk1 (shut_bool Try.underlying4 _), (trodAll_cons_mk (Below.trod laidOut (by kernel_rfl) (of_decide_eq_true (by kernel_rfl)) k0 bel lt0) trodAll_mk0), rfl, bel.frame _, fun h => by cases h⟩

theorem over : Rows.dueBuiltRow.holds Try.pinned (OpenSpec.ofChange Rows.dueBuiltSpec) :=
  OpenClaim.holds_of_wide 4 Try.f4 rfl rfl rfl rfl rfl rfl rfl ⟨rfl, rfl, rfl, rfl, rfl⟩ rfl rfl rfl rfl rfl (by kernel_rfl) Try.func4 (by kernel_rfl)
    (of_decide_eq_true (by kernel_rfl)) (by unfold Func.isWrapper; first | (rw [if_pos (by decide +kernel)]; kernel_rfl) | (rw [if_neg (by decide +kernel)]; exact ⟨rfl, rfl⟩))
    (fun os started H enc _ => lifted os started H enc)

/-- The statement. -/
theorem proved : Rows.DueBuiltSaid := over
#print axioms proved
end dueBuilt
end Go.Proofs.Ytobimcpkhgfliaa
