/- What is proved here: due.siftDown by a contract; slices.insertionSortCmpFunc of deadlines sorts a row; math/bits.Len of a small number returns some number. -/
import Derived.Test.YtobimcpkhgfliaaJ03
import Derived.Deep.CutRange
import Derived.Deep.QuietTactic
import Derived.BigQuiet
import Derived.Deep.DeepCutAuto
import Derived.Test.YtobimcpkhgfliaaJ01
namespace Go.Proofs.Ytobimcpkhgfliaa
open Go.RowKit
set_option linter.unusedVariables false

set_option maxHeartbeats 2000000 in
set_option maxRecDepth 20000 in
theorem siftdown_any (q n cap i : Nat) (h : List Du) (w : World) (hr : DRow w q n (ge h)) (hn : h.length = n) (hi : i < n) (h100 : n ≤ 100) :
    Calls Try.prog 49 #[.slice (some ⟨q, 0, none⟩) n cap, .int .i64 i] w fun e w' => e = .returned (.tuple #[]) ∧ RwAt w q n (dnF h i) w' := by
  have H := Lib.hid (RwAt.mk hr hn (Below.refl q w))
  have h100' : (n : Int) ≤ 100 := by omega
  have hi' : (i : Int) ≤ 100 := by omega
  clear hr hn
  go_enter Try.func49, Try.ntmps49
  go_wp2
  go_loopw [1, 4] (fun iv cv wr => ∃ (j : Nat) (g : List Du), iv = .int .i64 j ∧ cv = .int .i64 (2 * (j : Int) + 1) ∧ j < n ∧ dnF g j = dnF h i ∧ RwAt w q n g wr) (fun iv _ _ => n - (intOf iv).toNat)
  case atStart => exact ⟨i, h, rfl, by go_num, hi, rfl, H.out⟩
  case round =>
    obtain ⟨j, g, rfl, rfl, hjn, hu, hra⟩ := hrel
    have HR := Lib.hid hra
    have HU := Lib.hid hu
    clear hra hu
    by_cases hl : 2 * j + 1 < n
    · have hl' : 2 * (j : Int) + 1 < (n : Int) := by omega
      obtain ⟨kk, hkk⟩ : ∃ kk, kk = decide (2 * j + 2 < n ∧ bef (ge g (2 * j + 2)) (ge g (2 * j + 1)) = true) := ⟨_, rfl⟩
      go_wp2
      go_cut [31] (fun s31 wx => s31 = .bool kk ∧ RwAt w q n g wx)
      case first =>
        by_cases h2 : 2 * j + 2 < n
        · have HB := Lib.hid (fun w => before_any (ge g (2 * j + 2)) (ge g (2 * j + 1)) w)
          have HKK := Lib.hid (show kk = bef (ge g (2 * j + 2)) (ge g (2 * j + 1)) by rw [hkk]; simp [h2])
          have HSW := Lib.hid (fun w1 (hb1 : Below wr.drew.heap.size wr.drew w1) => HR.out.drew.below hb1)
          obtain ⟨c0, c1, f0, f1, hq⟩ := HR.out.row.at_ h2
          obtain ⟨d0, d1, e0, e1, -⟩ := HR.out.row.at_ hl
          generalize ge g (2 * j + 2) = X at *
          generalize ge g (2 * j + 1) = Y at *
          rw [← HKK.out] at HB
          have HSC := Lib.hid (fun w1 (hb1 : Below wr.drew.heap.size wr.drew w1) => show w1.cell? ⟨q, (2 * j + 2) * 2, none⟩ = some (.int .i64 X.dl) ∧ w1.cell? ⟨q, (2 * j + 2) * 2 + 1, none⟩ = some (.int .i64 X.id) ∧ w1.cell? ⟨q, (2 * j + 1) * 2, none⟩ = some (.int .i64 Y.dl) ∧ w1.cell? ⟨q, (2 * j + 1) * 2 + 1, none⟩ = some (.int .i64 Y.id) from ⟨(hb1.cell (p := ⟨q, (2 * j + 2) * 2, none⟩) hq).trans c0, (hb1.cell (p := ⟨q, (2 * j + 2) * 2 + 1, none⟩) hq).trans c1, (hb1.cell (p := ⟨q, (2 * j + 1) * 2, none⟩) hq).trans d0, (hb1.cell (p := ⟨q, (2 * j + 1) * 2 + 1, none⟩) hq).trans d1⟩)
          clear hkk f0 f1 e0 e1
          have h2' : 2 * (j : Int) + 1 + 1 < (n : Int) := by omega
          have h2d : decide (2 * (j : Int) + 1 + 1 < (n : Int)) = true := by simpa using h2'
          have hw1 : IntKind.i64.wrap (2 * (j : Int) + 1 + 1) = 2 * (j : Int) + 1 + 1 := IntWalk.i64_in _ (by omega)
          have hn1 : (0 : Int) ≤ 2 * (j : Int) + 1 + 1 := by omega
          have ht1 : (2 * (j : Int) + 1 + 1).toNat = 2 * j + 2 := by omega
          have hn0 : (0 : Int) ≤ 2 * (j : Int) + 1 := by omega
          have ht0 : (2 * (j : Int) + 1).toNat = 2 * j + 1 := by omega
          have HSA := Lib.hid (show wr.drew.cell? ⟨q, (2 * j + 2) * 2, none⟩ = some (.int .i64 X.dl) ∧ wr.drew.cell? ⟨q, (2 * j + 2) * 2 + 1, none⟩ = some (.int .i64 X.id) ∧ wr.drew.cell? ⟨q, (2 * j + 1) * 2, none⟩ = some (.int .i64 Y.dl) ∧ wr.drew.cell? ⟨q, (2 * j + 1) * 2 + 1, none⟩ = some (.int .i64 Y.id) from ⟨c0, c1, d0, d1⟩)
          go_region_held3 (fun W => W.cell? ⟨q, (2 * j + 2) * 2, none⟩ = some (.int .i64 X.dl) ∧ W.cell? ⟨q, (2 * j + 2) * 2 + 1, none⟩ = some (.int .i64 X.id) ∧ W.cell? ⟨q, (2 * j + 1) * 2, none⟩ = some (.int .i64 Y.dl) ∧ W.cell? ⟨q, (2 * j + 1) * 2 + 1, none⟩ = some (.int .i64 Y.id))
            (first | with_reducible exact HSA.out | with_reducible exact HSB.out)
            ((go_at_call 46; (with_reducible refine (HB.out _).mono ?_); rintro e w1 ⟨rfl, hb1⟩; have HR1 := Lib.hid (HSW.out _ hb1); have HSB := Lib.hid (HSC.out _ hb1); clear hb1))
          go_wp2_with fail
          go_meet
          exact ⟨rfl, HR1.out⟩
        · have HKK := Lib.hid (show kk = false by rw [hkk]; simp [h2])
          have h2d : decide (2 * (j : Int) + 1 + 1 < (n : Int)) = false := by simp; omega
          clear hkk h2
          have hw1 : IntKind.i64.wrap (2 * (j : Int) + 1 + 1) = 2 * (j : Int) + 1 + 1 := IntWalk.i64_in _ (by omega)
          go_quiet (fail)
          go_wp2_with fail
          go_meet
          exact ⟨by rw [HKK.out], HR.out.drewN _⟩
      case rest =>
        obtain ⟨rfl, hrc⟩ := hcut
        have HRC := Lib.hid hrc
        have hlen : g.length = n := hrc.len
        clear hrc
        cases kk with
        | true =>
          have hk2 := of_decide_eq_true hkk.symm
          have HCH := Lib.hid (chF_two (h := g) (i := j) (by rw [hlen]; exact hk2.1) hk2.2)
          have hcl := hk2.1
          clear hkk hk2
          have HCL := Lib.hid (show 2 * j + 2 < n by omega)
          have hjn' : (j : Int) < (n : Int) := by omega
          have HB := Lib.hid (fun w => before_any (ge g (2 * j + 2)) (ge g j) w)
          have HSW := Lib.hid (fun w1 (hb1 : Below wc.drew.heap.size wc.drew w1) => HRC.out.drew.below hb1)
          obtain ⟨c0, c1, f0, f1, hq⟩ := HRC.out.row.at_ HCL.out
          obtain ⟨d0, d1, e0, e1, -⟩ := HRC.out.row.at_ hjn
          obtain ⟨X, hX⟩ : ∃ X, ge g (2 * j + 2) = X := ⟨_, rfl⟩
          obtain ⟨Y, hY⟩ : ∃ Y, ge g j = Y := ⟨_, rfl⟩
          rw [hX, hY] at HB
          rw [hX] at c0 c1
          rw [hY] at d0 d1
          have HX := Lib.hid hX
          have HY := Lib.hid hY
          cases hb : bef (ge g (2 * j + 2)) (ge g j) with
          | true =>
            have HBB := Lib.hid hb
            rw [hX, hY] at hb
            rw [hb] at HB
            clear hb
            go_wp2
            have HSA := Lib.hid (show wc.drew.cell? ⟨q, (2 * j + 2) * 2, none⟩ = some (.int .i64 X.dl) ∧ wc.drew.cell? ⟨q, (2 * j + 2) * 2 + 1, none⟩ = some (.int .i64 X.id) ∧ wc.drew.cell? ⟨q, j * 2, none⟩ = some (.int .i64 Y.dl) ∧ wc.drew.cell? ⟨q, j * 2 + 1, none⟩ = some (.int .i64 Y.id) from ⟨c0, c1, d0, d1⟩)
            have HSC := Lib.hid (fun w1 (hb1 : Below wc.drew.heap.size wc.drew w1) => show w1.cell? ⟨q, (2 * j + 2) * 2, none⟩ = some (.int .i64 X.dl) ∧ w1.cell? ⟨q, (2 * j + 2) * 2 + 1, none⟩ = some (.int .i64 X.id) ∧ w1.cell? ⟨q, j * 2, none⟩ = some (.int .i64 Y.dl) ∧ w1.cell? ⟨q, j * 2 + 1, none⟩ = some (.int .i64 Y.id) from ⟨(hb1.cell (p := ⟨q, (2 * j + 2) * 2, none⟩) hq).trans c0, (hb1.cell (p := ⟨q, (2 * j + 2) * 2 + 1, none⟩) hq).trans c1, (hb1.cell (p := ⟨q, j * 2, none⟩) hq).trans d0, (hb1.cell (p := ⟨q, j * 2 + 1, none⟩) hq).trans d1⟩)
            clear hX hY f0 f1 e0 e1
            have hcn : 2 * (j : Int) + 1 + 1 < (n : Int) := by omega
            have hn1 : (0 : Int) ≤ 2 * (j : Int) + 1 + 1 := by omega
            have ht1 : (2 * (j : Int) + 1 + 1).toNat = 2 * j + 2 := by omega
            go_region_held3 (fun W => W.cell? ⟨q, (2 * j + 2) * 2, none⟩ = some (.int .i64 X.dl) ∧ W.cell? ⟨q, (2 * j + 2) * 2 + 1, none⟩ = some (.int .i64 X.id) ∧ W.cell? ⟨q, j * 2, none⟩ = some (.int .i64 Y.dl) ∧ W.cell? ⟨q, j * 2 + 1, none⟩ = some (.int .i64 Y.id))
              (first | with_reducible exact HSA.out | with_reducible exact HSB.out)
              ((go_at_call 46; (with_reducible refine (HB.out _).mono ?_); rintro e w1 ⟨rfl, hb1⟩; have HR1 := Lib.hid (HSW.out _ hb1); have HSB := Lib.hid (HSC.out _ hb1); clear hb1))
            clear c0 c1 d0 d1 hq
            obtain ⟨c0, c1, f0, f1, hq⟩ := HR1.out.row.at_ HCL.out
            obtain ⟨d0, d1, e0, e1, -⟩ := HR1.out.row.at_ hjn
            rw [HX.out] at c0 c1
            rw [HY.out] at d0 d1
            have n1 : ¬ (j = 2 * j + 2) := by omega
            have n2 : ¬ (2 * j + 2 = j) := by omega
            go_wp2
            go_region
            clear c0 c1 d0 d1 f0 f1 e0 e1 hq n1 n2
            have HR2 := Lib.hid ((HR1.out.swap hjn HCL.out).drew)
            rw [HX.out, HY.out] at HR2
            generalize ((((w1.setCell ⟨q, j * 2, none⟩ (.int .i64 X.dl)).setCell ⟨q, j * 2 + 1, none⟩ (.int .i64 X.id)).setCell ⟨q, (2 * j + 2) * 2, none⟩ (.int .i64 Y.dl)).setCell ⟨q, (2 * j + 2) * 2 + 1, none⟩ (.int .i64 Y.id)).drew = w2 at *
            have HUU := Lib.hid (show dnF (swp g j (2 * j + 2)) (2 * j + 2) = dnF h i by
              rw [← HU.out, dnF_step (by rw [hlen]; exact hl) HCH.out HBB.out])
            go_wp2
            go_roundw
            case rel => exact ⟨2 * j + 2, swp g j (2 * j + 2), by go_num, by go_num, HCL.out, HUU.out, HR2.out⟩
            case measure => have := HCL.out; simp [intOf]; omega
          | false =>
            have HUU := Lib.hid (show dnF h i = g by rw [← HU.out, dnF_stop HCH.out hb])
            rw [hX, hY] at hb
            rw [hb] at HB
            clear hb
            go_wp2
            have HSA := Lib.hid (show wc.drew.cell? ⟨q, (2 * j + 2) * 2, none⟩ = some (.int .i64 X.dl) ∧ wc.drew.cell? ⟨q, (2 * j + 2) * 2 + 1, none⟩ = some (.int .i64 X.id) ∧ wc.drew.cell? ⟨q, j * 2, none⟩ = some (.int .i64 Y.dl) ∧ wc.drew.cell? ⟨q, j * 2 + 1, none⟩ = some (.int .i64 Y.id) from ⟨c0, c1, d0, d1⟩)
            have HSC := Lib.hid (fun w1 (hb1 : Below wc.drew.heap.size wc.drew w1) => show w1.cell? ⟨q, (2 * j + 2) * 2, none⟩ = some (.int .i64 X.dl) ∧ w1.cell? ⟨q, (2 * j + 2) * 2 + 1, none⟩ = some (.int .i64 X.id) ∧ w1.cell? ⟨q, j * 2, none⟩ = some (.int .i64 Y.dl) ∧ w1.cell? ⟨q, j * 2 + 1, none⟩ = some (.int .i64 Y.id) from ⟨(hb1.cell (p := ⟨q, (2 * j + 2) * 2, none⟩) hq).trans c0, (hb1.cell (p := ⟨q, (2 * j + 2) * 2 + 1, none⟩) hq).trans c1, (hb1.cell (p := ⟨q, j * 2, none⟩) hq).trans d0, (hb1.cell (p := ⟨q, j * 2 + 1, none⟩) hq).trans d1⟩)
            clear hX hY f0 f1 e0 e1
            have hcn : 2 * (j : Int) + 1 + 1 < (n : Int) := by omega
            have hn1 : (0 : Int) ≤ 2 * (j : Int) + 1 + 1 := by omega
            have ht1 : (2 * (j : Int) + 1 + 1).toNat = 2 * j + 2 := by omega
            go_region_held3 (fun W => W.cell? ⟨q, (2 * j + 2) * 2, none⟩ = some (.int .i64 X.dl) ∧ W.cell? ⟨q, (2 * j + 2) * 2 + 1, none⟩ = some (.int .i64 X.id) ∧ W.cell? ⟨q, j * 2, none⟩ = some (.int .i64 Y.dl) ∧ W.cell? ⟨q, j * 2 + 1, none⟩ = some (.int .i64 Y.id))
              (first | with_reducible exact HSA.out | with_reducible exact HSB.out)
              ((go_at_call 46; (with_reducible refine (HB.out _).mono ?_); rintro e w1 ⟨rfl, hb1⟩; have HR1 := Lib.hid (HSW.out _ hb1); have HSB := Lib.hid (HSC.out _ hb1); clear hb1))
            go_wp2
            refine bodyPost_ret (results_none rfl _ _ _) rfl ?_
            exact ⟨rfl, by rw [HUU.out]; exact HR1.out⟩
        | false =>
          have hk2 := of_decide_eq_false hkk.symm
          have HCH := Lib.hid (chF_one (h := g) (i := j) (by rw [hlen]; exact hk2))
          clear hkk hk2
          have HCL := Lib.hid (show 2 * j + 1 < n by omega)
          have hjn' : (j : Int) < (n : Int) := by omega
          have HB := Lib.hid (fun w => before_any (ge g (2 * j + 1)) (ge g j) w)
          have HSW := Lib.hid (fun w1 (hb1 : Below wc.drew.heap.size wc.drew w1) => HRC.out.drew.below hb1)
          obtain ⟨c0, c1, f0, f1, hq⟩ := HRC.out.row.at_ HCL.out
          obtain ⟨d0, d1, e0, e1, -⟩ := HRC.out.row.at_ hjn
          obtain ⟨X, hX⟩ : ∃ X, ge g (2 * j + 1) = X := ⟨_, rfl⟩
          obtain ⟨Y, hY⟩ : ∃ Y, ge g j = Y := ⟨_, rfl⟩
          rw [hX, hY] at HB
          rw [hX] at c0 c1
          rw [hY] at d0 d1
          have HX := Lib.hid hX
          have HY := Lib.hid hY
          cases hb : bef (ge g (2 * j + 1)) (ge g j) with
          | true =>
            have HBB := Lib.hid hb
            rw [hX, hY] at hb
            rw [hb] at HB
            clear hb
            go_wp2
            have HSA := Lib.hid (show wc.drew.cell? ⟨q, (2 * j + 1) * 2, none⟩ = some (.int .i64 X.dl) ∧ wc.drew.cell? ⟨q, (2 * j + 1) * 2 + 1, none⟩ = some (.int .i64 X.id) ∧ wc.drew.cell? ⟨q, j * 2, none⟩ = some (.int .i64 Y.dl) ∧ wc.drew.cell? ⟨q, j * 2 + 1, none⟩ = some (.int .i64 Y.id) from ⟨c0, c1, d0, d1⟩)
            have HSC := Lib.hid (fun w1 (hb1 : Below wc.drew.heap.size wc.drew w1) => show w1.cell? ⟨q, (2 * j + 1) * 2, none⟩ = some (.int .i64 X.dl) ∧ w1.cell? ⟨q, (2 * j + 1) * 2 + 1, none⟩ = some (.int .i64 X.id) ∧ w1.cell? ⟨q, j * 2, none⟩ = some (.int .i64 Y.dl) ∧ w1.cell? ⟨q, j * 2 + 1, none⟩ = some (.int .i64 Y.id) from ⟨(hb1.cell (p := ⟨q, (2 * j + 1) * 2, none⟩) hq).trans c0, (hb1.cell (p := ⟨q, (2 * j + 1) * 2 + 1, none⟩) hq).trans c1, (hb1.cell (p := ⟨q, j * 2, none⟩) hq).trans d0, (hb1.cell (p := ⟨q, j * 2 + 1, none⟩) hq).trans d1⟩)
            clear hX hY f0 f1 e0 e1
            have hn0 : (0 : Int) ≤ 2 * (j : Int) + 1 := by omega
            have ht0 : (2 * (j : Int) + 1).toNat = 2 * j + 1 := by omega
            go_region_held3 (fun W => W.cell? ⟨q, (2 * j + 1) * 2, none⟩ = some (.int .i64 X.dl) ∧ W.cell? ⟨q, (2 * j + 1) * 2 + 1, none⟩ = some (.int .i64 X.id) ∧ W.cell? ⟨q, j * 2, none⟩ = some (.int .i64 Y.dl) ∧ W.cell? ⟨q, j * 2 + 1, none⟩ = some (.int .i64 Y.id))
              (first | with_reducible exact HSA.out | with_reducible exact HSB.out)
              ((go_at_call 46; (with_reducible refine (HB.out _).mono ?_); rintro e w1 ⟨rfl, hb1⟩; have HR1 := Lib.hid (HSW.out _ hb1); have HSB := Lib.hid (HSC.out _ hb1); clear hb1))
            clear c0 c1 d0 d1 hq
            obtain ⟨c0, c1, f0, f1, hq⟩ := HR1.out.row.at_ HCL.out
            obtain ⟨d0, d1, e0, e1, -⟩ := HR1.out.row.at_ hjn
            rw [HX.out] at c0 c1
            rw [HY.out] at d0 d1
            have n1 : ¬ (j = 2 * j + 1) := by omega
            have n2 : ¬ (2 * j + 1 = j) := by omega
            go_wp2
            go_region
            clear c0 c1 d0 d1 f0 f1 e0 e1 hq n1 n2
            have HR2 := Lib.hid ((HR1.out.swap hjn HCL.out).drew)
            rw [HX.out, HY.out] at HR2
            generalize ((((w1.setCell ⟨q, j * 2, none⟩ (.int .i64 X.dl)).setCell ⟨q, j * 2 + 1, none⟩ (.int .i64 X.id)).setCell ⟨q, (2 * j + 1) * 2, none⟩ (.int .i64 Y.dl)).setCell ⟨q, (2 * j + 1) * 2 + 1, none⟩ (.int .i64 Y.id)).drew = w2 at *
            have HUU := Lib.hid (show dnF (swp g j (2 * j + 1)) (2 * j + 1) = dnF h i by
              rw [← HU.out, dnF_step (by rw [hlen]; exact hl) HCH.out HBB.out])
            go_wp2
            go_roundw
            case rel => exact ⟨2 * j + 1, swp g j (2 * j + 1), by go_num, by go_num, HCL.out, HUU.out, HR2.out⟩
            case measure => have := HCL.out; simp [intOf]; omega
          | false =>
            have HUU := Lib.hid (show dnF h i = g by rw [← HU.out, dnF_stop HCH.out hb])
            rw [hX, hY] at hb
            rw [hb] at HB
            clear hb
            go_wp2
            have HSA := Lib.hid (show wc.drew.cell? ⟨q, (2 * j + 1) * 2, none⟩ = some (.int .i64 X.dl) ∧ wc.drew.cell? ⟨q, (2 * j + 1) * 2 + 1, none⟩ = some (.int .i64 X.id) ∧ wc.drew.cell? ⟨q, j * 2, none⟩ = some (.int .i64 Y.dl) ∧ wc.drew.cell? ⟨q, j * 2 + 1, none⟩ = some (.int .i64 Y.id) from ⟨c0, c1, d0, d1⟩)
            have HSC := Lib.hid (fun w1 (hb1 : Below wc.drew.heap.size wc.drew w1) => show w1.cell? ⟨q, (2 * j + 1) * 2, none⟩ = some (.int .i64 X.dl) ∧ w1.cell? ⟨q, (2 * j + 1) * 2 + 1, none⟩ = some (.int .i64 X.id) ∧ w1.cell? ⟨q, j * 2, none⟩ = some (.int .i64 Y.dl) ∧ w1.cell? ⟨q, j * 2 + 1, none⟩ = some (.int .i64 Y.id) from ⟨(hb1.cell (p := ⟨q, (2 * j + 1) * 2, none⟩) hq).trans c0, (hb1.cell (p := ⟨q, (2 * j + 1) * 2 + 1, none⟩) hq).trans c1, (hb1.cell (p := ⟨q, j * 2, none⟩) hq).trans d0, (hb1.cell (p := ⟨q, j * 2 + 1, none⟩) hq).trans d1⟩)
            clear hX hY f0 f1 e0 e1
            have hn0 : (0 : Int) ≤ 2 * (j : Int) + 1 := by omega
            have ht0 : (2 * (j : Int) + 1).toNat = 2 * j + 1 := by omega
            go_region_held3 (fun W => W.cell? ⟨q, (2 * j + 1) * 2, none⟩ = some (.int .i64 X.dl) ∧ W.cell? ⟨q, (2 * j + 1) * 2 + 1, none⟩ = some (.int .i64 X.id) ∧ W.cell? ⟨q, j * 2, none⟩ = some (.int .i64 Y.dl) ∧ W.cell? ⟨q, j * 2 + 1, none⟩ = some (.int .i64 Y.id))
              (first | with_reducible exact HSA.out | with_reducible exact HSB.out)
              ((go_at_call 46; (with_reducible refine (HB.out _).mono ?_); rintro e w1 ⟨rfl, hb1⟩; have HR1 := Lib.hid (HSW.out _ hb1); have HSB := Lib.hid (HSC.out _ hb1); clear hb1))
            go_wp2
            refine bodyPost_ret (results_none rfl _ _ _) rfl ?_
            exact ⟨rfl, by rw [HUU.out]; exact HR1.out⟩
    · have HUU := Lib.hid (show dnF h i = g by rw [← HU.out, dnF_leaf (by rw [HR.out.len]; exact hl)])
      have hl' : ¬ (2 * (j : Int) + 1 < (n : Int)) := by omega
      go_wp2
      go_end0
      exact ⟨rfl, by rw [HUU.out]; exact HR.out⟩
end Go.Proofs.Ytobimcpkhgfliaa
namespace Go.Proofs.Ytobimcpkhgfliaa
open Go.RowKit
set_option linter.unusedVariables false

/-- The row is sorted. -/
def IsP (w : World) (q n : Nat) (h : List Du) (e : Ending) (w' : World) : Prop := e = .returned (.tuple #[]) ∧ ∃ g : List Du, g.Perm h ∧ Srt g ∧ RwAt w q n g w'
set_option maxHeartbeats 8000000 in
set_option maxRecDepth 20000 in
theorem isort_any (q n cap : Nat) (h : List Du) (w : World) (hr : DRow w q n (ge h)) (hn : h.length = n) (h100 : n ≤ 100) :
    Calls Try.prog 62 #[.slice (some ⟨q, 0, none⟩) n cap, .int .i64 0, .int .i64 n, .func (.func 39) #[] #[]] w (IsP w q n h) := by
  have H := Lib.hid (RwAt.mk hr hn (Below.refl q w))
  have hn100 : (n : Int) ≤ 100 := by omega
  clear hr hn
  go_enter Try.func62, Try.ntmps62
  go_wp2
  go_loopw [8] (fun iv wr => ∃ (i : Nat) (g : List Du), iv = .int .i64 i ∧ 1 ≤ i ∧ i ≤ 101 ∧ SrtTo h i g ∧ RwAt w q n g wr) (fun iv _ => n - (intOf iv).toNat)
  case atStart => exact ⟨1, h, rfl, Nat.le_refl _, by omega, SrtTo.start h, H.out⟩
  case round =>
    obtain ⟨i, g, rfl, hi1, hi2, hso, hra⟩ := hrel
    have HS := Lib.hid hso
    have HR := Lib.hid hra
    clear hso hra
    have hi3 : (i : Int) ≤ 101 := by omega
    by_cases hlt : i < n
    · have hlt' : (i : Int) < (n : Int) := by omega
      go_wp2
      go_loopw [9] (fun jv wr2 => ∃ (j : Nat) (g2 : List Du), jv = .int .i64 j ∧ j ≤ i ∧ Ins h i j g2 ∧ RwAt w q n g2 wr2) (fun jv _ => (intOf jv).toNat)
      case atStart => exact ⟨i, g, rfl, Nat.le_refl _, HS.out.ins, HR.out⟩
      case round =>
        obtain ⟨j, g2, rfl, hji, hin, hr2⟩ := hrel
        have HI := Lib.hid hin
        have HR2 := Lib.hid hr2
        clear hin hr2
        by_cases hj0 : 0 < j
        · obtain ⟨k, hk⟩ : ∃ k, k = j - 1 := ⟨_, rfl⟩
          have HK := Lib.hid hk
          have hw : IntKind.i64.wrap ((j : Int) - 1) = (k : Int) := by rw [IntWalk.i64_in _ (by omega)]; omega
          have hjn : j < n := by omega
          have hkn : k < n := by omega
          obtain ⟨c0, c1, f0, f1, hq⟩ := HR2.out.row.at_ hjn
          obtain ⟨d0, d1, e0, e1, -⟩ := HR2.out.row.at_ hkn
          obtain ⟨X, hX⟩ : ∃ X, ge g2 j = X := ⟨_, rfl⟩
          obtain ⟨Y, hY⟩ : ∃ Y, ge g2 k = Y := ⟨_, rfl⟩
          have HX := Lib.hid hX
          have HY := Lib.hid hY
          rw [hX] at c0 c1
          rw [hY] at d0 d1
          have HC := Lib.hid (fun w => compare_any X Y w)
          have HSA := Lib.hid (show wr.drew.cell? ⟨q, j * 2, none⟩ = some (.int .i64 X.dl) ∧ wr.drew.cell? ⟨q, j * 2 + 1, none⟩ = some (.int .i64 X.id) ∧ wr.drew.cell? ⟨q, k * 2, none⟩ = some (.int .i64 Y.dl) ∧ wr.drew.cell? ⟨q, k * 2 + 1, none⟩ = some (.int .i64 Y.id) from ⟨c0, c1, d0, d1⟩)
          have HSC := Lib.hid (fun w1 (hb1 : Below wr.drew.heap.size wr.drew w1) => show (w1.cell? ⟨q, j * 2, none⟩ = some (.int .i64 X.dl) ∧ w1.cell? ⟨q, j * 2 + 1, none⟩ = some (.int .i64 X.id) ∧ w1.cell? ⟨q, k * 2, none⟩ = some (.int .i64 Y.dl) ∧ w1.cell? ⟨q, k * 2 + 1, none⟩ = some (.int .i64 Y.id)) ∧ RwAt w q n g2 w1 from ⟨⟨(hb1.cell (p := ⟨q, j * 2, none⟩) hq).trans c0, (hb1.cell (p := ⟨q, j * 2 + 1, none⟩) hq).trans c1, (hb1.cell (p := ⟨q, k * 2, none⟩) hq).trans d0, (hb1.cell (p := ⟨q, k * 2 + 1, none⟩) hq).trans d1⟩, HR2.out.drew.below hb1⟩)
          have hj0' : (0 : Int) < (j : Int) := by omega
          have hjn' : (j : Int) < (n : Int) := by omega
          have hkn' : (k : Int) < (n : Int) := by omega
          have hgd : decide ((0 : Int) < (j : Int)) = true := decide_eq_true hj0'
          clear hX hY hk f0 f1 e0 e1
          cases hb : bef X Y with
          | true =>
            have HBB := Lib.hid (show bef (ge g2 j) (ge g2 (j - 1)) = true by rw [HX.out, ← HK.out, HY.out]; exact hb)
            have hne : ¬ j = k ∧ ¬ k = j := by have := HK.out; omega
            have HNE := Lib.hid hne
            rw [cmF_lt hb] at HC
            clear hb hne
            go_wp2
            go_region_held3 (fun W => W.cell? ⟨q, j * 2, none⟩ = some (.int .i64 X.dl) ∧ W.cell? ⟨q, j * 2 + 1, none⟩ = some (.int .i64 X.id) ∧ W.cell? ⟨q, k * 2, none⟩ = some (.int .i64 Y.dl) ∧ W.cell? ⟨q, k * 2 + 1, none⟩ = some (.int .i64 Y.id))
              (first | with_reducible exact HSA.out | with_reducible exact HSB.out)
              ((go_at_call 39; (with_reducible refine (HC.out _).mono ?_); rintro e w1 ⟨rfl, hb1⟩; obtain ⟨hs, hr⟩ := HSC.out _ hb1; have HSB := Lib.hid hs; have HR3 := Lib.hid hr; clear hb1 hs hr))
            clear c0 c1 d0 d1 hq
            obtain ⟨c0, c1, f0, f1, hq⟩ := HR3.out.row.at_ hjn
            obtain ⟨d0, d1, e0, e1, -⟩ := HR3.out.row.at_ hkn
            rw [HX.out] at c0 c1
            rw [HY.out] at d0 d1
            obtain ⟨n1, n2⟩ := HNE.out
            go_wp2
            go_region
            clear c0 c1 d0 d1 f0 f1 e0 e1 hq n1 n2
            have HR4 := Lib.hid ((HR3.out.swap hjn hkn).drew)
            rw [HX.out, HY.out] at HR4
            generalize ((((w1.setCell ⟨q, j * 2, none⟩ (.int .i64 Y.dl)).setCell ⟨q, j * 2 + 1, none⟩ (.int .i64 Y.id)).setCell ⟨q, k * 2, none⟩ (.int .i64 X.dl)).setCell ⟨q, k * 2 + 1, none⟩ (.int .i64 X.id)).drew = w2 at *
            have HI2 := Lib.hid (show Ins h i k (swp g2 j k) by rw [HK.out]; exact HI.out.step hj0 hji (by rw [HR2.out.len]; omega) HBB.out)
            go_wp2
            go_roundw
            case rel => exact ⟨k, swp g2 j k, by have := HK.out; go_num, by have := HK.out; omega, HI2.out, HR4.out⟩
            case measure => have := HK.out; simp [intOf]; omega
          | false =>
            have HDN := Lib.hid (HI.out.done hji (.inr (by rw [HX.out, ← HK.out, HY.out]; exact hb)))
            have hcn : ¬ (cmF X Y < 0) := fun hc => by rw [(cmF_neg X Y).1 hc] at hb; cases hb
            generalize cmF X Y = cv at *
            have hcd : decide (cv < 0) = false := decide_eq_false hcn
            clear hb
            go_wp2
            go_region_held3 (fun W => W.cell? ⟨q, j * 2, none⟩ = some (.int .i64 X.dl) ∧ W.cell? ⟨q, j * 2 + 1, none⟩ = some (.int .i64 X.id) ∧ W.cell? ⟨q, k * 2, none⟩ = some (.int .i64 Y.dl) ∧ W.cell? ⟨q, k * 2 + 1, none⟩ = some (.int .i64 Y.id))
              (first | with_reducible exact HSA.out | with_reducible exact HSB.out)
              ((go_at_call 39; (with_reducible refine (HC.out _).mono ?_); rintro e w1 ⟨rfl, hb1⟩; obtain ⟨hs, hr⟩ := HSC.out _ hb1; have HSB := Lib.hid hs; have HR3 := Lib.hid hr; clear hb1 hs hr))
            clear c0 c1 d0 d1 hq
            go_wp2
            go_roundw
            case rel => exact ⟨i + 1, g2, by go_num, by omega, by omega, HDN.out, HR3.out⟩
            case measure => simp [intOf]; omega
        · obtain rfl : j = 0 := by omega
          have HDN := Lib.hid (HI.out.done (Nat.zero_le _) (.inl rfl))
          go_wp2
          go_quiet (fail)
          go_wp2
          go_roundw
          case rel => exact ⟨i + 1, g2, by go_num, by omega, by omega, HDN.out, HR2.out.drewN _⟩
          case measure => simp [intOf]; omega
    · have hlt' : ¬ (i : Int) < (n : Int) := by omega
      have HF := Lib.hid (show ∃ g : List Du, g.Perm h ∧ Srt g ∧ RwAt w q n g wr from ⟨g, HS.out.perm, HS.out.srt (by rw [HR.out.len]; omega), HR.out⟩)
      go_wp2
      go_end0
      exact ⟨rfl, HF.out⟩
end Go.Proofs.Ytobimcpkhgfliaa
namespace Go.Proofs.Ytobimcpkhgfliaa
open Go.RowKit
set_option linter.unusedVariables false

def LnP (w : World) (e : Ending) (w' : World) : Prop := ∃ r : Int, e = .returned (.int .i64 r) ∧ w = w'
set_option maxHeartbeats 8000000 in
set_option maxRecDepth 200000 in
theorem len64_any (x : Nat) (hx : x ≤ 12) (w : World) : Calls Try.prog 71 #[.int .u64 (x : Int)] w (LnP w) := by
  have hc : x = 0 ∨ x = 1 ∨ x = 2 ∨ x = 3 ∨ x = 4 ∨ x = 5 ∨ x = 6 ∨ x = 7 ∨ x = 8 ∨ x = 9 ∨ x = 10 ∨ x = 11 ∨ x = 12 := by omega
  clear hx
  rcases hc with rfl | rfl | rfl | rfl | rfl | rfl | rfl | rfl | rfl | rfl | rfl | rfl | rfl
  all_goals
    go_enter Try.func71, Try.ntmps71
    go_wp2
    go_ret
    exact ⟨_, rfl, rfl⟩
theorem len_any (x : Nat) (hx : x ≤ 12) (w : World) : Calls Try.prog 60 #[.int .u64 (x : Int)] w (LnP w) := by
  have HL := Lib.hid (len64_any x hx)
  have hx' : (x : Int) ≤ 12 := by omega
  clear hx
  go_enter Try.func60, Try.ntmps60
  go_wp2_with fail
  refine (HL.out _).mono ?_
  rintro e w1 ⟨r, rfl, rfl⟩
  go_wp2
  go_ret
  exact ⟨_, rfl, rfl⟩
end Go.Proofs.Ytobimcpkhgfliaa
