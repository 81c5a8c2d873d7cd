/- What is proved here: shardqueueref05.down by a contract; shardqueueref05.cut by a contract; shardqueueref05.Remove by a contract. -/
import Derived.Test.YtjclhlejbidpgaaGreatJ22
import Derived.Deep.CutRange
import Derived.Deep.DeepCutAuto
import Derived.Test.YtjclhlejbidpgaaGreatJ15
namespace Go.Proofs.YtjclhlejbidpgaaGreat
open Go.RowKit
set_option linter.unusedVariables false

set_option maxHeartbeats 4000000 in
set_option maxRecDepth 20000 in
theorem rdown_any (lo : Nat) (A : Option Addr) (n c i : Nat) (l : List Du) (w : World) (hv : Dl w w.heap.size (.slice A n c) l) (hlo : lo ≤ w.heap.size) (hnw : Nw lo A) (hi : i < n) (h100 : n ≤ 100) :
    Calls Tryz.prog 95 #[.slice A n c, .int .i64 i] w (LvP w lo (dnF l i)) := by
  obtain ⟨rfl, hm1, hm2⟩ := hv.len
  have H := Lib.hid (show LsAt w lo (.slice A l.length c) l w from ⟨hv, nwv_mk hnw, Below.refl _ _⟩)
  have HLO := Lib.hid hlo
  have hi100 : (i : Int) ≤ 100 := by omega
  have HN := Lib.hid (show l.length ≤ 100 from h100)
  obtain ⟨n, hn⟩ : ∃ n, n = l.length := ⟨_, rfl⟩
  rw [← hn] at H HN hi ⊢
  have HLN := Lib.hid hn
  have hn100 : (n : Int) ≤ 100 := by have := HN.out; omega
  clear hv hm1 hm2 hnw hlo h100 hn
  go_enter Tryz.func95, Tryz.ntmps95
  go_wp2
  go_loopw [0, 1] (fun hv iv wr => ∃ (j : Nat) (A' : Option Addr) (c' : Nat) (g : List Du), hv = .slice A' n c' ∧ iv = .int .i64 j ∧ j < n ∧ g.length = n ∧ dnF g j = dnF l i ∧ LsAt w lo (.slice A' n c') g wr) (fun _ iv _ => n - (intOf iv).toNat)
  case atStart => exact ⟨i, A, c, l, rfl, rfl, hi, HLN.out.symm, rfl, H.out⟩
  case round =>
    obtain ⟨j, A', c', g, rfl, rfl, hjn, hgn, hu, hla⟩ := hrel
    have HL := Lib.hid hla
    have HU := Lib.hid hu
    have HGN := Lib.hid hgn
    clear hla hu hgn
    by_cases hl : 2 * j + 1 < n
    · have hl' : 2 * (j : Int) + 1 < (n : Int) := by omega
      obtain ⟨kk, hkk⟩ : ∃ kk, kk = decide (2 * j + 2 < n ∧ bef (ge g (2 * j + 2)) (ge g (2 * j + 1)) = true) := ⟨_, rfl⟩
      go_wp2
      go_cut [31] (fun s31 wx => s31 = .bool kk ∧ LsAt w lo (.slice A' n c') g wx)
      case first =>
        by_cases h2 : 2 * j + 2 < n
        · have HKK := Lib.hid (show kk = bef (ge g (2 * j + 2)) (ge g (2 * j + 1)) by rw [hkk]; simp [h2])
          obtain ⟨b, o, rfl, hbl, c0, c1⟩ := HL.out.dl.atg (k := 2 * j + 2) (by rw [HGN.out]; omega)
          obtain ⟨b', o', e', hb', d0, d1⟩ := HL.out.dl.atg (k := (2 * j + 1)) (by rw [HGN.out]; omega)
          injection e' with e'
          injection e' with e1 e2
          subst e1; subst e2
          clear hb'
          obtain ⟨X, hX⟩ : ∃ X, ge g (2 * j + 2) = X := ⟨_, rfl⟩
          obtain ⟨Y, hY⟩ : ∃ Y, ge g ((2 * j + 1)) = Y := ⟨_, rfl⟩
          have HX := Lib.hid hX
          have HY := Lib.hid hY
          rw [hX] at c0 c1
          rw [hY] at d0 d1
          clear hX hY
          have HF := Lib.hid (fun w1 => rbef_any X Y w1)
          have HSA := Lib.hid (show wr.drew.cell? ⟨b, o + (2 * j + 2) * 2, none⟩ = some (.int .i64 X.dl) ∧ wr.drew.cell? ⟨b, o + (2 * j + 2) * 2 + 1, none⟩ = some (.int .i64 X.id) ∧ wr.drew.cell? ⟨b, o + (2 * j + 1) * 2, none⟩ = some (.int .i64 Y.dl) ∧ wr.drew.cell? ⟨b, o + (2 * j + 1) * 2 + 1, none⟩ = some (.int .i64 Y.id) from ⟨c0, c1, d0, d1⟩)
          have HSC := Lib.hid (fun w1 (hb1 : Below wr.drew.heap.size wr.drew w1) => show (w1.cell? ⟨b, o + (2 * j + 2) * 2, none⟩ = some (.int .i64 X.dl) ∧ w1.cell? ⟨b, o + (2 * j + 2) * 2 + 1, none⟩ = some (.int .i64 X.id) ∧ w1.cell? ⟨b, o + (2 * j + 1) * 2, none⟩ = some (.int .i64 Y.dl) ∧ w1.cell? ⟨b, o + (2 * j + 1) * 2 + 1, none⟩ = some (.int .i64 Y.id)) ∧ LsAt w lo (.slice (some ⟨b, o, none⟩) n c') g w1 from ⟨⟨(hb1.cell (p := ⟨b, o + (2 * j + 2) * 2, none⟩) hbl).trans c0, (hb1.cell (p := ⟨b, o + (2 * j + 2) * 2 + 1, none⟩) hbl).trans c1, (hb1.cell (p := ⟨b, o + (2 * j + 1) * 2, none⟩) hbl).trans d0, (hb1.cell (p := ⟨b, o + (2 * j + 1) * 2 + 1, none⟩) hbl).trans d1⟩, HL.out.below (drew_bel hb1)⟩)
          clear hbl
          rw [HX.out, HY.out] at HKK
          rw [← HKK.out] at HF
          clear hkk
          have h2' : 2 * (j : Int) + 1 + 1 < (n : Int) := by omega
          have h2d : decide (2 * (j : Int) + 1 + 1 < (n : Int)) = true := by simpa using h2'
          have hw1 : IntKind.i64.wrap (2 * (j : Int) + 1 + 1) = 2 * (j : Int) + 1 + 1 := IntWalk.i64_in _ (by omega)
          have hn1 : (0 : Int) ≤ 2 * (j : Int) + 1 + 1 := by omega
          have ht1 : (2 * (j : Int) + 1 + 1).toNat = 2 * j + 2 := by omega
          have hn0 : (0 : Int) ≤ 2 * (j : Int) + 1 := by omega
          have ht0 : (2 * (j : Int) + 1).toNat = 2 * j + 1 := by omega
          go_region_held3 (fun W => W.cell? ⟨b, o + (2 * j + 2) * 2, none⟩ = some (.int .i64 X.dl) ∧ W.cell? ⟨b, o + (2 * j + 2) * 2 + 1, none⟩ = some (.int .i64 X.id) ∧ W.cell? ⟨b, o + (2 * j + 1) * 2, none⟩ = some (.int .i64 Y.dl) ∧ W.cell? ⟨b, o + (2 * j + 1) * 2 + 1, none⟩ = some (.int .i64 Y.id))
            (first | with_reducible exact HSA.out | with_reducible exact HSB.out)
            ((go_at_call 66; (with_reducible refine (HF.out _).mono ?_); rintro e w1 ⟨rfl, hb1⟩; obtain ⟨hs, hbb⟩ := HSC.out _ hb1; have HSB := Lib.hid hs; have HL1 := Lib.hid hbb; clear hb1 hs hbb))
          go_wp2_with fail
          go_meet
          exact ⟨rfl, HL1.out⟩
        · have HKK := Lib.hid (show kk = false by rw [hkk]; simp [h2])
          have h2d : decide (2 * (j : Int) + 1 + 1 < (n : Int)) = false := by simp; omega
          clear hkk h2
          have hw1 : IntKind.i64.wrap (2 * (j : Int) + 1 + 1) = 2 * (j : Int) + 1 + 1 := IntWalk.i64_in _ (by omega)
          go_quiet (fail)
          go_wp2_with fail
          go_meet
          exact ⟨by rw [HKK.out], HL.out.drewN _⟩
      case rest =>
        obtain ⟨rfl, hrc⟩ := hcut
        have HLC := Lib.hid hrc
        clear hrc
        cases kk with
        | true =>
          have hk2 := of_decide_eq_true hkk.symm
          have HCH := Lib.hid (chF_two (h := g) (i := j) (by rw [HGN.out]; exact hk2.1) hk2.2)
          have hcl := hk2.1
          clear hkk hk2
          have HCL := Lib.hid (show 2 * j + 2 < n by omega)
          obtain ⟨b, o, rfl, hbl, c0, c1⟩ := HLC.out.dl.atg (k := 2 * j + 2) (by rw [HGN.out]; omega)
          obtain ⟨b', o', e', hb', d0, d1⟩ := HLC.out.dl.atg (k := j) (by rw [HGN.out]; omega)
          injection e' with e'
          injection e' with e1 e2
          subst e1; subst e2
          clear hb'
          obtain ⟨X, hX⟩ : ∃ X, ge g (2 * j + 2) = X := ⟨_, rfl⟩
          obtain ⟨Y, hY⟩ : ∃ Y, ge g (j) = Y := ⟨_, rfl⟩
          have HX := Lib.hid hX
          have HY := Lib.hid hY
          rw [hX] at c0 c1
          rw [hY] at d0 d1
          clear hX hY
          have HF := Lib.hid (fun w1 => rbef_any X Y w1)
          have HSA := Lib.hid (show wc.drew.cell? ⟨b, o + (2 * j + 2) * 2, none⟩ = some (.int .i64 X.dl) ∧ wc.drew.cell? ⟨b, o + (2 * j + 2) * 2 + 1, none⟩ = some (.int .i64 X.id) ∧ wc.drew.cell? ⟨b, o + j * 2, none⟩ = some (.int .i64 Y.dl) ∧ wc.drew.cell? ⟨b, o + j * 2 + 1, none⟩ = some (.int .i64 Y.id) from ⟨c0, c1, d0, d1⟩)
          have HSC := Lib.hid (fun w1 (hb1 : Below wc.drew.heap.size wc.drew w1) => show (w1.cell? ⟨b, o + (2 * j + 2) * 2, none⟩ = some (.int .i64 X.dl) ∧ w1.cell? ⟨b, o + (2 * j + 2) * 2 + 1, none⟩ = some (.int .i64 X.id) ∧ w1.cell? ⟨b, o + j * 2, none⟩ = some (.int .i64 Y.dl) ∧ w1.cell? ⟨b, o + j * 2 + 1, none⟩ = some (.int .i64 Y.id)) ∧ LsAt w lo (.slice (some ⟨b, o, none⟩) n c') g w1 from ⟨⟨(hb1.cell (p := ⟨b, o + (2 * j + 2) * 2, none⟩) hbl).trans c0, (hb1.cell (p := ⟨b, o + (2 * j + 2) * 2 + 1, none⟩) hbl).trans c1, (hb1.cell (p := ⟨b, o + j * 2, none⟩) hbl).trans d0, (hb1.cell (p := ⟨b, o + j * 2 + 1, none⟩) hbl).trans d1⟩, HLC.out.below (drew_bel hb1)⟩)
          clear hbl
          have hjn' : (j : Int) < (n : Int) := by omega
          cases hbf : bef X Y with
          | true =>
            have HBB := Lib.hid (show bef (ge g (2 * j + 2)) (ge g j) = true by rw [HX.out, HY.out]; exact hbf)
            have HSW := Lib.hid (fun w1 hv => rswap_any (some ⟨b, o, none⟩) n c' j (2 * j + 2) g w1 hv hjn HCL.out (by omega) HN.out)
            rw [hbf] at HF
            clear hbf
            go_wp2
            have hcn : 2 * (j : Int) + 1 + 1 < (n : Int) := by omega
            have hn1 : (0 : Int) ≤ 2 * (j : Int) + 1 + 1 := by omega
            have ht1 : (2 * (j : Int) + 1 + 1).toNat = 2 * j + 2 := by omega
            go_region_held3 (fun W => W.cell? ⟨b, o + (2 * j + 2) * 2, none⟩ = some (.int .i64 X.dl) ∧ W.cell? ⟨b, o + (2 * j + 2) * 2 + 1, none⟩ = some (.int .i64 X.id) ∧ W.cell? ⟨b, o + j * 2, none⟩ = some (.int .i64 Y.dl) ∧ W.cell? ⟨b, o + j * 2 + 1, none⟩ = some (.int .i64 Y.id))
              (first | with_reducible exact HSA.out | with_reducible exact HSB.out)
              ((go_at_call 66; (with_reducible refine (HF.out _).mono ?_); rintro e w1 ⟨rfl, hb1⟩; obtain ⟨hs, hbb⟩ := HSC.out _ hb1; have HSB := Lib.hid hs; have HL1 := Lib.hid hbb; clear hb1 hs hbb))
            clear c0 c1 d0 d1
            have HUU := Lib.hid (show dnF (swp g j (2 * j + 2)) (2 * j + 2) = dnF l i by
              rw [← HU.out, dnF_step (by rw [HGN.out]; exact hl) HCH.out HBB.out])
            go_wp2_with fail
            refine (HSW.out _ HL1.out.dl).mono ?_
            rintro e w2 ⟨A2, c2, rfl, hnw2, hl2, hb2⟩
            have hsl : (swp g j (2 * j + 2)).length = n := by rw [swp_len]; exact HGN.out
            rw [hsl] at hl2 ⊢
            have HL2 := Lib.hid (show LsAt w lo (.slice A2 n c2) (swp g j (2 * j + 2)) w2 from ⟨hl2, nwv_mk (nw_low hnw2 (Nat.le_trans HLO.out HL1.out.bel.size)), HL1.out.bel.trans (hb2.mono HL1.out.bel.size)⟩)
            have HSL := Lib.hid hsl
            clear hnw2 hl2 hb2 hsl
            go_wp2
            go_roundw
            case rel => exact ⟨2 * j + 2, A2, c2, swp g j (2 * j + 2), rfl, by go_num, HCL.out, HSL.out, HUU.out, HL2.out⟩
            case measure => have := HCL.out; simp [intOf]; omega
          | false =>
            have HUU := Lib.hid (show dnF l i = g by rw [← HU.out, dnF_stop HCH.out (by rw [HX.out, HY.out]; exact hbf)])
            rw [hbf] at HF
            clear hbf
            go_wp2
            have hcn : 2 * (j : Int) + 1 + 1 < (n : Int) := by omega
            have hn1 : (0 : Int) ≤ 2 * (j : Int) + 1 + 1 := by omega
            have ht1 : (2 * (j : Int) + 1 + 1).toNat = 2 * j + 2 := by omega
            go_region_held3 (fun W => W.cell? ⟨b, o + (2 * j + 2) * 2, none⟩ = some (.int .i64 X.dl) ∧ W.cell? ⟨b, o + (2 * j + 2) * 2 + 1, none⟩ = some (.int .i64 X.id) ∧ W.cell? ⟨b, o + j * 2, none⟩ = some (.int .i64 Y.dl) ∧ W.cell? ⟨b, o + j * 2 + 1, none⟩ = some (.int .i64 Y.id))
              (first | with_reducible exact HSA.out | with_reducible exact HSB.out)
              ((go_at_call 66; (with_reducible refine (HF.out _).mono ?_); rintro e w1 ⟨rfl, hb1⟩; obtain ⟨hs, hbb⟩ := HSC.out _ hb1; have HSB := Lib.hid hs; have HL1 := Lib.hid hbb; clear hb1 hs hbb))
            clear c0 c1 d0 d1
            go_wp2
            go_ret
            exact ⟨_, rfl, by rw [HUU.out]; exact HL1.out⟩
        | false =>
          have hk2 := of_decide_eq_false hkk.symm
          have HCH := Lib.hid (chF_one (h := g) (i := j) (by rw [HGN.out]; exact hk2))
          clear hkk hk2
          have HCL := Lib.hid (show 2 * j + 1 < n by omega)
          obtain ⟨b, o, rfl, hbl, c0, c1⟩ := HLC.out.dl.atg (k := 2 * j + 1) (by rw [HGN.out]; omega)
          obtain ⟨b', o', e', hb', d0, d1⟩ := HLC.out.dl.atg (k := j) (by rw [HGN.out]; omega)
          injection e' with e'
          injection e' with e1 e2
          subst e1; subst e2
          clear hb'
          obtain ⟨X, hX⟩ : ∃ X, ge g (2 * j + 1) = X := ⟨_, rfl⟩
          obtain ⟨Y, hY⟩ : ∃ Y, ge g (j) = Y := ⟨_, rfl⟩
          have HX := Lib.hid hX
          have HY := Lib.hid hY
          rw [hX] at c0 c1
          rw [hY] at d0 d1
          clear hX hY
          have HF := Lib.hid (fun w1 => rbef_any X Y w1)
          have HSA := Lib.hid (show wc.drew.cell? ⟨b, o + (2 * j + 1) * 2, none⟩ = some (.int .i64 X.dl) ∧ wc.drew.cell? ⟨b, o + (2 * j + 1) * 2 + 1, none⟩ = some (.int .i64 X.id) ∧ wc.drew.cell? ⟨b, o + j * 2, none⟩ = some (.int .i64 Y.dl) ∧ wc.drew.cell? ⟨b, o + j * 2 + 1, none⟩ = some (.int .i64 Y.id) from ⟨c0, c1, d0, d1⟩)
          have HSC := Lib.hid (fun w1 (hb1 : Below wc.drew.heap.size wc.drew w1) => show (w1.cell? ⟨b, o + (2 * j + 1) * 2, none⟩ = some (.int .i64 X.dl) ∧ w1.cell? ⟨b, o + (2 * j + 1) * 2 + 1, none⟩ = some (.int .i64 X.id) ∧ w1.cell? ⟨b, o + j * 2, none⟩ = some (.int .i64 Y.dl) ∧ w1.cell? ⟨b, o + j * 2 + 1, none⟩ = some (.int .i64 Y.id)) ∧ LsAt w lo (.slice (some ⟨b, o, none⟩) n c') g w1 from ⟨⟨(hb1.cell (p := ⟨b, o + (2 * j + 1) * 2, none⟩) hbl).trans c0, (hb1.cell (p := ⟨b, o + (2 * j + 1) * 2 + 1, none⟩) hbl).trans c1, (hb1.cell (p := ⟨b, o + j * 2, none⟩) hbl).trans d0, (hb1.cell (p := ⟨b, o + j * 2 + 1, none⟩) hbl).trans d1⟩, HLC.out.below (drew_bel hb1)⟩)
          clear hbl
          have hjn' : (j : Int) < (n : Int) := by omega
          cases hbf : bef X Y with
          | true =>
            have HBB := Lib.hid (show bef (ge g (2 * j + 1)) (ge g j) = true by rw [HX.out, HY.out]; exact hbf)
            have HSW := Lib.hid (fun w1 hv => rswap_any (some ⟨b, o, none⟩) n c' j (2 * j + 1) g w1 hv hjn HCL.out (by omega) HN.out)
            rw [hbf] at HF
            clear hbf
            go_wp2
            have hn0 : (0 : Int) ≤ 2 * (j : Int) + 1 := by omega
            have ht0 : (2 * (j : Int) + 1).toNat = 2 * j + 1 := by omega
            go_region_held3 (fun W => W.cell? ⟨b, o + (2 * j + 1) * 2, none⟩ = some (.int .i64 X.dl) ∧ W.cell? ⟨b, o + (2 * j + 1) * 2 + 1, none⟩ = some (.int .i64 X.id) ∧ W.cell? ⟨b, o + j * 2, none⟩ = some (.int .i64 Y.dl) ∧ W.cell? ⟨b, o + j * 2 + 1, none⟩ = some (.int .i64 Y.id))
              (first | with_reducible exact HSA.out | with_reducible exact HSB.out)
              ((go_at_call 66; (with_reducible refine (HF.out _).mono ?_); rintro e w1 ⟨rfl, hb1⟩; obtain ⟨hs, hbb⟩ := HSC.out _ hb1; have HSB := Lib.hid hs; have HL1 := Lib.hid hbb; clear hb1 hs hbb))
            clear c0 c1 d0 d1
            have HUU := Lib.hid (show dnF (swp g j (2 * j + 1)) (2 * j + 1) = dnF l i by
              rw [← HU.out, dnF_step (by rw [HGN.out]; exact hl) HCH.out HBB.out])
            go_wp2_with fail
            refine (HSW.out _ HL1.out.dl).mono ?_
            rintro e w2 ⟨A2, c2, rfl, hnw2, hl2, hb2⟩
            have hsl : (swp g j (2 * j + 1)).length = n := by rw [swp_len]; exact HGN.out
            rw [hsl] at hl2 ⊢
            have HL2 := Lib.hid (show LsAt w lo (.slice A2 n c2) (swp g j (2 * j + 1)) w2 from ⟨hl2, nwv_mk (nw_low hnw2 (Nat.le_trans HLO.out HL1.out.bel.size)), HL1.out.bel.trans (hb2.mono HL1.out.bel.size)⟩)
            have HSL := Lib.hid hsl
            clear hnw2 hl2 hb2 hsl
            go_wp2
            go_roundw
            case rel => exact ⟨2 * j + 1, A2, c2, swp g j (2 * j + 1), rfl, by go_num, HCL.out, HSL.out, HUU.out, HL2.out⟩
            case measure => have := HCL.out; simp [intOf]; omega
          | false =>
            have HUU := Lib.hid (show dnF l i = g by rw [← HU.out, dnF_stop HCH.out (by rw [HX.out, HY.out]; exact hbf)])
            rw [hbf] at HF
            clear hbf
            go_wp2
            have hn0 : (0 : Int) ≤ 2 * (j : Int) + 1 := by omega
            have ht0 : (2 * (j : Int) + 1).toNat = 2 * j + 1 := by omega
            go_region_held3 (fun W => W.cell? ⟨b, o + (2 * j + 1) * 2, none⟩ = some (.int .i64 X.dl) ∧ W.cell? ⟨b, o + (2 * j + 1) * 2 + 1, none⟩ = some (.int .i64 X.id) ∧ W.cell? ⟨b, o + j * 2, none⟩ = some (.int .i64 Y.dl) ∧ W.cell? ⟨b, o + j * 2 + 1, none⟩ = some (.int .i64 Y.id))
              (first | with_reducible exact HSA.out | with_reducible exact HSB.out)
              ((go_at_call 66; (with_reducible refine (HF.out _).mono ?_); rintro e w1 ⟨rfl, hb1⟩; obtain ⟨hs, hbb⟩ := HSC.out _ hb1; have HSB := Lib.hid hs; have HL1 := Lib.hid hbb; clear hb1 hs hbb))
            clear c0 c1 d0 d1
            go_wp2
            go_ret
            exact ⟨_, rfl, by rw [HUU.out]; exact HL1.out⟩
    · have HUU := Lib.hid (show dnF l i = g by rw [← HU.out, dnF_leaf (by rw [HGN.out]; exact hl)])
      have hl' : ¬ (2 * (j : Int) + 1 < (n : Int)) := by omega
      go_wp2
      go_ret
      exact ⟨_, rfl, by rw [HUU.out]; exact HL.out⟩
end Go.Proofs.YtjclhlejbidpgaaGreat
namespace Go.Proofs.YtjclhlejbidpgaaGreat
open Go.RowKit
set_option linter.unusedVariables false

set_option maxHeartbeats 4000000 in
set_option maxRecDepth 20000 in
theorem rcut_any (A : Option Addr) (m c i : Nat) (l : List Du) (w : World) (hv : Dl w w.heap.size (.slice A (m + 1) c) l) (hi : i ≤ m) (h100 : m ≤ 99) :
    Calls Tryz.prog 74 #[.slice A (m + 1) c, .int .i64 i] w (DlV w (cuF l i)) := by
  obtain ⟨hn, hm1, hm2⟩ := hv.len
  have hlen : l.length = m + 1 := hn.symm
  have HLEN := Lib.hid hlen
  obtain ⟨i0, hi0, hz0⟩ := Option.map_eq_some_iff.1 info_due
  simp only [Prod.mk.injEq] at hz0
  have HI := Lib.hid hi0
  have HZ := Lib.hid hz0
  have HV := Lib.hid hv
  obtain ⟨b, o, rfl, hb, c0, c1⟩ := hv.atg (k := m) (by omega)
  obtain ⟨X, hX⟩ : ∃ X, ge l m = X := ⟨_, rfl⟩
  have HX := Lib.hid hX
  rw [hX] at c0 c1
  have hlt : (l.take m).length = m := by rw [List.length_take]; omega
  have HVT := Lib.hid (hv.upto m (by omega)).rd
  have HBB := Lib.hid hb
  have HC := Lib.hid (And.intro c0 c1)
  have hcut := run_dupto (some ⟨b, o, none⟩) (m + 1) c .i64 m (by omega)
  have hm9 : (m : Int) ≤ 99 := by omega
  have him : (i : Int) ≤ (m : Int) := by omega
  have hmlt : (m : Int) < ((m + 1 : Nat) : Int) := by omega
  clear hv hn hlen hm1 hm2 hX hb c0 c1 hi0 hz0
  go_enter Tryz.func74, Tryz.ntmps74
  by_cases hime : i = m
  · subst hime
    go_wp2_with (at_builtin; refine wpList_append_rd _ rfl (.const (.slice none 0 0)) (.tmp 12) 23 rfl w.heap.size 41 i0 _ 2 16 Tryz.underlying23 HI.out HZ.out.1 HZ.out.2.1 HZ.out.2.2 rfl (by omega) (.slice none 0 0) 0 [] rfl (World.ownsRow_nil _ _ _ _) w.heap.size (some ⟨b, o, none⟩) i c (dcs (l.take i)) rfl HVT.out (dcs_one _) (by unfold maxLen; omega) (by omega) (Nat.le_refl _) ?_; intro v1 w1 hown1 hg1 hat1)
    rw [Nat.zero_add, List.nil_append] at hown1
    have HB1 := Lib.hid (show Below w.heap.size w w1 from (Below.refl w.heap.size w).grown hg1 (Nat.le_refl _) (fun k e => by simp [Value.ownBlock] at e))
    have HF := Lib.hid (show DlV w (cuF l i) (.returned v1) w1 from by
      rw [cuF_last HLEN.out]
      exact DlV.of_own (by rw [hlt]; exact hown1) (Nat.le_refl _) HB1.out)
    clear hown1 hg1 hat1 hlt
    go_wp2
    go_ret
    exact HF.out
  · have hilt : i < m := by omega
    have hieq : ((i : Int) == (m : Int)) = false := by simp; omega
    have hilt' : (i : Int) < (m : Int) := by omega
    clear hime
    go_wp2_with (at_builtin; refine wpList_append_rd _ rfl (.const (.slice none 0 0)) (.tmp 12) 23 rfl w.heap.size 41 i0 _ 2 16 Tryz.underlying23 HI.out HZ.out.1 HZ.out.2.1 HZ.out.2.2 rfl (by omega) (.slice none 0 0) 0 [] rfl (World.ownsRow_nil _ _ _ _) w.heap.size (some ⟨b, o, none⟩) m c (dcs (l.take m)) rfl HVT.out (dcs_one _) (by unfold maxLen; omega) (by omega) (Nat.le_refl _) ?_; intro v1 w1 hown1 hg1 hat1; rw [Nat.zero_add, List.nil_append] at hown1; have HB1 := Lib.hid (show Below w.heap.size w w1 from (Below.refl w.heap.size w).grown hg1 (Nat.le_refl _) (fun k e => by simp [Value.ownBlock] at e)); obtain ⟨q, cap, rfl, hq, hle, hmx, hrow⟩ := own_row hown1 (by omega); have HR := Lib.hid (RwAt.mk (w := w1) hrow hlt (Below.refl q w1)); have HQ := Lib.hid hq; have HM := Lib.hid (And.intro hle hmx); clear hown1 hg1 hat1 hq hle hmx hrow; obtain ⟨y0, y1, f0, f1, hql⟩ := HR.out.row.at_ hilt; have c0 := (HB1.out.cell (p := ⟨b, o + m * 2, none⟩) HBB.out).trans HC.out.1; have c1 := (HB1.out.cell (p := ⟨b, o + m * 2 + 1, none⟩) HBB.out).trans HC.out.2)
    have HR2 := Lib.hid (HR.out.put hilt X)
    clear y0 y1 f0 f1 hql c0 c1 hcut
    generalize ((w1.setCell ⟨q, i * 2, none⟩ (.int .i64 X.dl)).setCell ⟨q, i * 2 + 1, none⟩ (.int .i64 X.id)) = w2 at *
    obtain ⟨y, hy⟩ : ∃ y, y = (l.take m).set i X := ⟨_, rfl⟩
    rw [← hy] at HR2
    have HY := Lib.hid hy
    have HYI := Lib.hid (show ge y i = X from by rw [hy, ge_set _ _ _ _ (by rw [hlt]; exact hilt), if_pos rfl])
    clear hy hlt
    have HBW := Lib.hid (show Below w.heap.size w w2 from HB1.out.trans (HR2.out.bel.mono HQ.out))
    have HDL := Lib.hid (HR2.out.row.dl' HR2.out.len HM.out.1 HM.out.2)
    have HFI := Lib.hid (fun (z : List Du) (hz : z = cuF l i) e w4 (h : ∃ v, e = .returned v ∧ LsAt w2 w.heap.size v z w4) => show DlV w (cuF l i) e w4 from by
      subst hz
      obtain ⟨v, rfl, hla⟩ := h
      obtain ⟨A4, c4, rfl, _, _⟩ := hla.dl.form
      exact ⟨A4, c4, rfl, nwv_of hla.nw, hla.dl, HBW.out.trans (hla.bel.mono HBW.out.size)⟩)
    by_cases hi0 : 0 < i
    · obtain ⟨p, hp⟩ : ∃ p, p = (i - 1) / 2 := ⟨_, rfl⟩
      have HPP := Lib.hid hp
      have hpm : p < m := by omega
      have hw1 : IntKind.i64.wrap ((i : Int) - 1) = (i : Int) - 1 := IntWalk.i64_in _ (by omega)
      have hq1 : ((i : Int) - 1).tdiv 2 = (p : Int) := by rw [Int.tdiv_eq_ediv_of_nonneg (by omega)]; omega
      have hw2 : IntKind.i64.wrap (p : Int) = (p : Int) := IntWalk.i64_in _ (by omega)
      clear hp
      obtain ⟨Y, hY⟩ : ∃ Y, ge y p = Y := ⟨_, rfl⟩
      obtain ⟨c0, c1, f0, f1, hql⟩ := HR2.out.row.at_ hilt
      obtain ⟨d0, d1, g0, g1, -⟩ := HR2.out.row.at_ hpm
      rw [HYI.out] at c0 c1
      rw [hY] at d0 d1
      have HF := Lib.hid (fun w1 => rbef_any X Y w1)
      have HSA := Lib.hid (show w2.drew.cell? ⟨q, i * 2, none⟩ = some (.int .i64 X.dl) ∧ w2.drew.cell? ⟨q, i * 2 + 1, none⟩ = some (.int .i64 X.id) ∧ w2.drew.cell? ⟨q, p * 2, none⟩ = some (.int .i64 Y.dl) ∧ w2.drew.cell? ⟨q, p * 2 + 1, none⟩ = some (.int .i64 Y.id) from ⟨c0, c1, d0, d1⟩)
      have HSC := Lib.hid (fun w3 (hb1 : Below w2.drew.heap.size w2.drew w3) => show (w3.cell? ⟨q, i * 2, none⟩ = some (.int .i64 X.dl) ∧ w3.cell? ⟨q, i * 2 + 1, none⟩ = some (.int .i64 X.id) ∧ w3.cell? ⟨q, p * 2, none⟩ = some (.int .i64 Y.dl) ∧ w3.cell? ⟨q, p * 2 + 1, none⟩ = some (.int .i64 Y.id)) ∧ Dl w3 w3.heap.size (.slice (some ⟨q, 0, none⟩) m cap) y ∧ Below w2.heap.size w2 w3 from ⟨⟨(hb1.cell (p := ⟨q, i * 2, none⟩) hql).trans c0, (hb1.cell (p := ⟨q, i * 2 + 1, none⟩) hql).trans c1, (hb1.cell (p := ⟨q, p * 2, none⟩) hql).trans d0, (hb1.cell (p := ⟨q, p * 2 + 1, none⟩) hql).trans d1⟩, HDL.out.up (drew_bel hb1), drew_bel hb1⟩)
      have hi0' : (0 : Int) < (i : Int) := by omega
      have hpm' : (p : Int) < (m : Int) := by omega
      have hgd : decide ((0 : Int) < (i : Int)) = true := decide_eq_true hi0'
      clear f0 f1 g0 g1 hql
      cases hb : bef X Y with
      | true =>
        have HCU := Lib.hid (show upF y i = cuF l i from by
          rw [HY.out, ← HX.out, cuF_up HLEN.out (by omega)]
          rw [HX.out, ← HY.out, HYI.out, ← HPP.out, hY]
          exact hb)
        rw [hb] at HF
        clear hb hY
        go_region_held3 (fun W => W.cell? ⟨q, i * 2, none⟩ = some (.int .i64 X.dl) ∧ W.cell? ⟨q, i * 2 + 1, none⟩ = some (.int .i64 X.id) ∧ W.cell? ⟨q, p * 2, none⟩ = some (.int .i64 Y.dl) ∧ W.cell? ⟨q, p * 2 + 1, none⟩ = some (.int .i64 Y.id))
          (first | with_reducible exact HSA.out | with_reducible exact HSB.out)
          ((go_at_call 66; (with_reducible refine (HF.out _).mono ?_); rintro e w3 ⟨rfl, hb1⟩; obtain ⟨hs, hd3, hb3⟩ := HSC.out _ hb1; have HSB := Lib.hid hs; have HD3 := Lib.hid hd3; have HB3 := Lib.hid hb3; clear hb1 hs hd3 hb3))
        clear c0 c1 d0 d1 hw1 hq1 hw2
        have HU := Lib.hid (rup_any w.heap.size (some ⟨q, 0, none⟩) m cap i y w3 HD3.out (by have := HBW.out.size; have := HB3.out.size; omega) (nw_some HQ.out) hilt (by omega))
        go_wp2_with fail
        refine HU.out.mono ?_
        rintro e w4 ⟨v4, rfl, h4⟩
        have HFF := Lib.hid (HFI.out _ HCU.out (.returned v4) w4 ⟨v4, rfl, ⟨h4.dl, h4.nw, HB3.out.trans (h4.bel.mono HB3.out.size)⟩⟩)
        clear h4
        go_wp2
        go_ret
        exact HFF.out
      | false =>
        have HCU := Lib.hid (show dnF y i = cuF l i from by
          rw [HY.out, ← HX.out, cuF_dn HLEN.out (by omega)]
          rw [HX.out, ← HY.out, HYI.out, ← HPP.out, hY]
          exact hb)
        rw [hb] at HF
        clear hb hY
        go_region_held3 (fun W => W.cell? ⟨q, i * 2, none⟩ = some (.int .i64 X.dl) ∧ W.cell? ⟨q, i * 2 + 1, none⟩ = some (.int .i64 X.id) ∧ W.cell? ⟨q, p * 2, none⟩ = some (.int .i64 Y.dl) ∧ W.cell? ⟨q, p * 2 + 1, none⟩ = some (.int .i64 Y.id))
          (first | with_reducible exact HSA.out | with_reducible exact HSB.out)
          ((go_at_call 66; (with_reducible refine (HF.out _).mono ?_); rintro e w3 ⟨rfl, hb1⟩; obtain ⟨hs, hd3, hb3⟩ := HSC.out _ hb1; have HSB := Lib.hid hs; have HD3 := Lib.hid hd3; have HB3 := Lib.hid hb3; clear hb1 hs hd3 hb3))
        clear c0 c1 d0 d1 hw1 hq1 hw2
        have HU := Lib.hid (rdown_any w.heap.size (some ⟨q, 0, none⟩) m cap i y w3 HD3.out (by have := HBW.out.size; have := HB3.out.size; omega) (nw_some HQ.out) hilt (by omega))
        go_wp2_with fail
        refine HU.out.mono ?_
        rintro e w4 ⟨v4, rfl, h4⟩
        have HFF := Lib.hid (HFI.out _ HCU.out (.returned v4) w4 ⟨v4, rfl, ⟨h4.dl, h4.nw, HB3.out.trans (h4.bel.mono HB3.out.size)⟩⟩)
        clear h4
        go_wp2
        go_ret
        exact HFF.out
    · obtain rfl : i = 0 := by omega
      have HCU := Lib.hid (show dnF y 0 = cuF l 0 from by
        rw [HY.out, ← HX.out, cuF_dn HLEN.out (by omega)]
        exact bef_irr _)
      go_quiet (fail)
      have HU := Lib.hid (fun k => (show Calls Tryz.prog 95 #[.slice (some ⟨q, 0, none⟩) m cap, .int .i64 0] (w2.drewN k) (LvP (w2.drewN k) w.heap.size (dnF y 0)) from rdown_any w.heap.size (some ⟨q, 0, none⟩) m cap 0 y (w2.drewN k) (HDL.out.drewN k) HBW.out.size (nw_some HQ.out) hilt (by omega)))
      go_wp2_with fail
      refine (HU.out _).mono ?_
      rintro e w4 ⟨v4, rfl, h4⟩
      have HFF := Lib.hid (HFI.out _ HCU.out (.returned v4) w4 ⟨v4, rfl, ⟨h4.dl, h4.nw, ⟨h4.bel.os, h4.bel.tape, h4.bel.output, h4.bel.size, h4.bel.block⟩⟩⟩)
      clear h4
      go_wp2
      go_ret
      exact HFF.out
end Go.Proofs.YtjclhlejbidpgaaGreat
namespace Go.Proofs.YtjclhlejbidpgaaGreat
open Go.RowKit
set_option linter.unusedVariables false

theorem rix5b_any (A : Option Addr) (n c : Nat) (l : List Du) (id : Int) (w : World) (hv : Dl w w.heap.size (.slice A n c) l) :
    Calls Tryz.prog 65 #[.slice A n c, .int .i64 id] w fun e w' => e = .returned (.int .i64 (ixD l id)) ∧ Below w.heap.size w w' :=
  (rix5_any A n c l id w _ hv).mono fun e w' ⟨h, hw⟩ => ⟨h, hw ▸ Below.refl _ _⟩
set_option maxHeartbeats 2000000 in
theorem rremove5_any (A : Option Addr) (n c : Nat) (l : List Du) (id : Int) (w : World) (hv : Dl w w.heap.size (.slice A n c) l) :
    Calls Tryz.prog 55 #[.slice A n c, .int .i64 id] w (DlE w (rmR l id) (hrmE l id)) := by
  obtain ⟨rfl, hm1, hm2⟩ := hv.len
  have HV := Lib.hid hv
  have HVA := Lib.hid (fun w1 hv => rvalid5_any A l.length c l w1 hv)
  have HFI := Lib.hid (fun w1 hv => rix5b_any A l.length c l id w1 hv)
  clear hv hm1 hm2
  by_cases h0 : vaF l = 0
  · have h12 := (vaF_zero h0).1
    by_cases hi : ixD l id < 0
    · have hE : hrmE l id = 4 := by unfold hrmE; rw [if_neg (by simpa using h0), if_pos hi]
      have HR := Lib.hid (show rmR l id = [] by unfold rmR; rw [hE]; rfl)
      rw [h0] at HVA
      rw [hE]
      generalize ixD l id = r at *
      clear h0 hE
      go_enter Tryz.func55, Tryz.ntmps55
      go_wp2_with fail
      refine (HVA.out _ HV.out).mono ?_
      rintro e w1 ⟨rfl, hb⟩
      have HB1 := Lib.hid hb
      clear hb
      go_wp2_with fail
      refine (HFI.out _ (HV.out.up HB1.out)).mono ?_
      rintro e w2 ⟨rfl, hb⟩
      have HB2 := Lib.hid (HB1.out.trans (hb.mono HB1.out.size))
      clear hb
      go_wp2
      exact bodyPost_ret (v := .tuple #[.slice none 0 0, .int .i64 4]) (by simp only [results, Tryz.results55]; go_simp <;> rfl) rfl ⟨none, 0, by rw [HR.out]; rfl, nw_none, by rw [HR.out]; exact Dl.nil, HB2.out⟩
    · have hE : hrmE l id = 0 := by unfold hrmE; rw [if_neg (by simpa using h0), if_neg hi]
      obtain ⟨_, k, hk, hke, _⟩ := hrmE_zero hE
      obtain ⟨m, hm⟩ : ∃ m, l.length = m + 1 := ⟨l.length - 1, by omega⟩
      have HR := Lib.hid (show rmR l id = cuF l k by unfold rmR; rw [if_pos hE, hke]; rfl)
      rw [h0] at HVA
      rw [hE]
      rw [hke] at HFI
      rw [hm] at HVA HFI HV ⊢
      have HW := Lib.hid (fun w1 hv => rcut_any A m c k l w1 hv (by omega) (by omega))
      have hk0 : ¬ ((k : Int) < 0) := by omega
      clear h0 hE hi hk hke hm h12
      go_enter Tryz.func55, Tryz.ntmps55
      go_wp2_with fail
      refine (HVA.out _ HV.out).mono ?_
      rintro e w1 ⟨rfl, hb⟩
      have HB1 := Lib.hid hb
      clear hb
      go_wp2_with fail
      refine (HFI.out _ (HV.out.up HB1.out)).mono ?_
      rintro e w2 ⟨rfl, hb⟩
      have HB2 := Lib.hid (HB1.out.trans (hb.mono HB1.out.size))
      clear hb
      go_wp2_with fail
      refine (HW.out _ (HV.out.up HB2.out)).mono ?_
      rintro e w3 ⟨A3, c3, rfl, hnw, hl, hb⟩
      have HB3 := Lib.hid (HB2.out.trans (hb.mono HB2.out.size))
      have HN := Lib.hid (nw_low hnw HB2.out.size)
      have HL := Lib.hid hl
      clear hb hnw hl
      go_wp2
      exact bodyPost_ret (v := .tuple #[.slice A3 (cuF l k).length c3, .int .i64 0]) (by simp only [results, Tryz.results55]; go_simp <;> rfl) rfl ⟨A3, c3, by rw [HR.out], HN.out, by rw [HR.out]; exact HL.out, HB3.out⟩
  · have hE : hrmE l id = vaF l := by unfold hrmE; rw [if_pos h0]
    have HR := Lib.hid (show rmR l id = [] by unfold rmR; rw [if_neg (by rw [hE]; exact h0)])
    have hne : (vaF l != 0) = true := bne_iff_ne.2 h0
    rw [hE]
    generalize vaF l = x at *
    clear h0 hE
    go_enter Tryz.func55, Tryz.ntmps55
    go_wp2_with fail
    refine (HVA.out _ HV.out).mono ?_
    rintro e w1 ⟨rfl, hb⟩
    have HB1 := Lib.hid hb
    clear hb
    go_wp2
    exact bodyPost_ret (v := .tuple #[.slice none 0 0, .int .i64 x]) (by simp only [results, Tryz.results55]; go_simp <;> rfl) rfl ⟨none, 0, by rw [HR.out]; rfl, nw_none, by rw [HR.out]; exact Dl.nil, HB1.out⟩
end Go.Proofs.YtjclhlejbidpgaaGreat
