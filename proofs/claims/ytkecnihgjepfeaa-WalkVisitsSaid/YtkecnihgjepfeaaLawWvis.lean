/- What is proved here: shardqueuelaw16.WalkVisits returns true for every input and leaves its arguments as they were. No condition. -/
import Derived.Test.YtkecnihgjepfeaaJ14
import Derived.Test.YtkecnihgjepfeaaJ04
import Derived.ProofKit
import Derived.OpenShut
import Derived.ChangeOld
import Derived.Deep.DeepCutAuto
import Derived.Deep.RegionHeld3
import Derived.BigQuiet
import Derived.Deep.QuietTactic
namespace Go.Proofs.Ytkecnihgjepfeaa
open Go.RowKit
set_option linter.unusedVariables false
set_option linter.unusedSimpArgs false

abbrev S13 (q p b o : Nat) (x : Wk) (A : Option Addr) (D : Dd) (X : Dx) (M : Sp) (W : World) : Prop := W.cell? ⟨q, 0, none⟩ = some (.int .i64 x.nx) ∧ W.cell? ⟨p, 1, none⟩ = some (.slice A D.l.length X.c) ∧ W.cell? ⟨b, o, none⟩ = some (.int .i64 M.lo) ∧ W.cell? ⟨b, o + 1, none⟩ = some (.int .i64 M.hi)
abbrev S14 (q p b o : Nat) (x : Wk) (A : Option Addr) (D : Dd) (X : Dx) (M : Sp) (W : World) : Prop := W.cell? ⟨q, 0, none⟩ = some (.int .i64 x.nx) ∧ W.cell? ⟨q, 1, none⟩ = some (.int .i64 x.cv) ∧ W.cell? ⟨p, 1, none⟩ = some (.slice A D.l.length X.c) ∧ W.cell? ⟨b, o, none⟩ = some (.int .i64 M.lo) ∧ W.cell? ⟨b, o + 1, none⟩ = some (.int .i64 M.hi)
set_option maxHeartbeats 8000000 in
set_option maxRecDepth 20000 in
theorem WalkVisits_walk (w : World) (a1 : Option Addr) (l1 c1 : Nat) (zs : List Int) (hz : Ns w w.heap.size (.slice a1 l1 c1) zs) (ro : Int) (wr0 : (Lit.int .i64 ro).wf = true) :
    Calls Try.prog 4 #[.slice a1 l1 c1, .int .i64 ro] w fun e w' => e = .returned (.bool true) ∧ Below w.heap.size w w' := by
  have HNS := Lib.hid (new_src a1 l1 c1 zs w hz)
  obtain ⟨st, hst⟩ : ∃ st, st = ro % 65536 := ⟨_, rfl⟩
  have hand : bits .and .i64 ro 65535 = st := by rw [hst]; exact i64_and65535 ro
  have s12 : 0 ≤ st ∧ st ≤ 65535 := by omega
  have HBE := Lib.hid (fun W => wbegin_any st W)
  rw [(bgW_y (wki_t s12.1 s12.2)).1, (bgW_y (wki_t s12.1 s12.2)).2] at HBE
  have HST := Lib.hid s12
  have HAD := Lib.hid (fun V a b W => wadvance_any V a b W)
  have HOV := Lib.hid (fun V W => wover_any V W)
  have HAW := Lib.hid (fun W => awake16_any W)
  clear hst s12 wr0 hz
  go_enter Try.func4, Try.ntmps4
  go_wp2_with fail
  refine HNS.out.mono ?_
  rintro e w1 ⟨g, rfl, hs, hb⟩
  have HS := Lib.hid hs
  have HB := Lib.hid hb
  clear hs hb HNS
  go_wp2_with fail
  refine (directory_any w.heap.size g _ HS.out).mono ?_
  rintro e w2 ⟨D, X, rfl, hva, hdr, hnw, hs, hg⟩
  have HB := Lib.hid (HB.out.grown hg HB.out.size (fun k e => by injection e with e; have := HS.out.1; omega))
  have HWL := Lib.hid (wl_of hva)
  have HDR := Lib.hid hdr
  have HDB := Lib.hid (Db10.start w2 D X 40)
  clear hva hdr hnw hs hg HS
  go_upto_region 2 with (fail)
  have HPB := Lib.hid HB.out.size
  have HDR := Lib.hid (HDR.out.alloc (.cells #[.int .i64 D.vn, .slice X.A D.l.length X.c, .slice X.A2 D.F.length X.c2] 40))
  have HB := Lib.hid (HB.out.trans (((Below.refl w2.heap.size w2).alloc (Nat.le_refl _) (.cells #[.int .i64 D.vn, .slice X.A D.l.length X.c, .slice X.A2 D.F.length X.c2] 40)).mono HB.out.size))
  obtain ⟨p, hp⟩ : ∃ p, p = w2.heap.size := ⟨_, rfl⟩
  rw [← hp] at HDB HPB ⊢
  clear hp
  generalize w2.alloc (.cells #[.int .i64 D.vn, .slice X.A D.l.length X.c, .slice X.A2 D.F.length X.c2] 40) = w3 at *
  go_wp2_with fail
  refine (HBE.out _).mono ?_
  rintro e w4 ⟨rfl, hb⟩
  have HB := Lib.hid (HB.out.trans (hb.mono HB.out.size))
  have HDR := Lib.hid (HDR.out.up hb)
  have HDB := Lib.hid (HDB.out.up hb)
  clear hb HBE
  go_upto_region 3 with (fail)
  have HQ0 := Lib.hid (Wb.start w4 ⟨st, 0⟩ 23)
  have HAL := (Below.refl w4.heap.size w4).alloc (Nat.le_refl _) (.cells #[.int .i64 st, .int .i64 0] 23)
  have HQB := Lib.hid (show w.heap.size ≤ w4.heap.size ∧ p < w4.heap.size from ⟨HB.out.size, HDB.out.lt⟩)
  have HOQ := Lib.hid (HDR.out.offs (Nat.le_refl _))
  have HB := Lib.hid (HB.out.trans (HAL.mono HB.out.size))
  have HDR := Lib.hid (HDR.out.up HAL)
  have HDB := Lib.hid (HDB.out.up HAL)
  clear HAL
  have HSZ := Lib.hid (show (w4.alloc (.cells #[.int .i64 st, .int .i64 0] 23)).heap.size = w4.heap.size + 1 by simp)
  obtain ⟨q, hq⟩ : ∃ q, q = w4.heap.size := ⟨_, rfl⟩
  rw [← hq] at HQ0 HQB HOQ HSZ ⊢
  clear hq
  generalize w4.alloc (.cells #[.int .i64 st, .int .i64 0] 23) = w5 at *
  go_upto_region 6 with (fail)
  have HZ := Lib.hid (show Wz w p q w5.heap.size D X ⟨st, 0⟩ (fun _ => 0) (w5.alloc (.cells #[.int .i64 0, .int .i64 0, .int .i64 0, .int .i64 0, .int .i64 0, .int .i64 0] 42)) from
    ⟨HDB.out.alloc _, HDR.out.alloc _, HQ0.out.up ((Below.refl _ _).alloc (Nat.le_refl _) _), vs_start w5 42, ⟨by have := HQB.out; omega, by have := HQB.out; have := HSZ.out; omega, by have := HSZ.out; omega⟩, ⟨HPB.out, HQB.out.1, by have := HQB.out; have := HSZ.out; omega⟩, HOQ.out, HDR.out.offs (Nat.le_refl _), HB.out.trans (((Below.refl w5.heap.size w5).alloc (Nat.le_refl _) _).mono HB.out.size)⟩)
  obtain ⟨v, hv⟩ : ∃ v, v = w5.heap.size := ⟨_, rfl⟩
  rw [← hv] at HZ ⊢
  clear hv HB HDR HDB HQ0 HQB HOQ HSZ HPB
  generalize w5.alloc (.cells #[.int .i64 0, .int .i64 0, .int .i64 0, .int .i64 0, .int .i64 0, .int .i64 0] 42) = w6 at *
  obtain ⟨k0, hk0, hr1, hr2⟩ := HWL.out.find HST.out.1 HST.out.2
  have HK0 := Lib.hid hk0
  have HR := Lib.hid (And.intro hr1 hr2)
  have HV := Lib.hid (Wv.start HWL.out hk0 ⟨hr1, hr2⟩)
  clear hk0 hr1 hr2 hand
  go_upto_region 8 with (fail)
  go_loopw [9, 10, 11, 12, 13] (fun f iv _ _ _ wr => ∃ (i : Nat) (x : Wk) (V : Nat → Int) (F : Int), f = .int .i64 F ∧ iv = .int .i64 i ∧ Hid (Wv D.l st k0 i x V F) ∧ Hid (Wz w p q v D X x V wr)) (fun _ iv _ _ _ _ => D.l.length + 2 - (intOf iv).toNat)
  case atStart => exact ⟨0, ⟨st, 0⟩, fun _ => 0, -1, rfl, rfl, HV, HZ⟩
  case round =>
    clear HV HZ
    obtain ⟨i, x, V, F, rfl, rfl, HV, HZ⟩ := hrel
    have hway : (i ≤ D.l.length ∧ x.cv < 65536) ∨ (i ≤ D.l.length ∧ ¬ x.cv < 65536) ∨ (¬ i ≤ D.l.length ∧ ¬ x.cv < 65536) := by
      have h1 := HV.out.i1
      have h2 := HV.out.e
      by_cases h3 : i ≤ D.l.length
      · by_cases h4 : x.cv < 65536
        · exact .inl ⟨h3, h4⟩
        · exact .inr (.inl ⟨h3, h4⟩)
      · exact .inr (.inr ⟨h3, by have := h2 (by omega); omega⟩)
    rcases hway with ⟨hi, ho⟩ | ⟨hi, ho⟩ | ⟨hi, ho⟩
    · have hil : (i : Int) ≤ (D.l.length : Int) := by omega
      have HOX := Lib.hid (fun W => HOV.out x W)
      rw [show ovB x = false from decide_eq_false (by omega)] at HOX
      have HO := Lib.hid (And.intro hi ho)
      clear hi ho
      obtain ⟨⟨p0, p1, p2, pl⟩, -⟩ := HZ.out.db.all
      obtain ⟨x0, x1, xl, f0, f1⟩ := HZ.out.wb.all
      go_wp2_with fail
      refine (HOX.out _).mono ?_
      rintro e w7 ⟨rfl, hb⟩
      have HZ := Lib.hid (HZ.out.below hb)
      clear p0 p1 p2 pl x0 x1 xl f0 f1 hb HOX hil
      go_upto_region 11 with (fail)
      obtain ⟨κ, hκ⟩ : ∃ κ, κ = kap D.l.length k0 i := ⟨_, rfl⟩
      have HKA := Lib.hid hκ
      have hh := HV.out.here HWL.out HK0.out HR.out HO.out.2
      rw [← hκ] at hh
      have HH := Lib.hid hh
      clear hκ hh
      go_loopw [9, 11, 12, 13] (fun f kv _ _ wr => ∃ (k : Nat), f = .int .i64 F ∧ kv = .int .i64 k ∧ k ≤ κ ∧ Hid (Wz w p q v D X x V wr)) (fun _ kv _ _ _ => κ + 1 - (intOf kv).toNat)
      case atStart => exact ⟨0, rfl, rfl, Nat.zero_le _, HZ⟩
      case round =>
        clear HZ
        obtain ⟨k, rfl, rfl, hk, HZ⟩ := hrel
        have hkl : k < D.l.length := by have := HH.out.2.1; omega
        have hkl2 : (k : Int) < (D.l.length : Int) := by omega
        obtain ⟨b, o, hA, hbl, c0, c1, c2⟩ := HZ.out.dr.pl.atg hkl
        have HA := Lib.hid hA
        obtain ⟨⟨p0, p1, p2, pl⟩, -⟩ := HZ.out.db.all
        rw [hA] at p1
        clear hA
        go_upto_region 13 with (fail)
        obtain ⟨M, hM⟩ : ∃ M, M = sg D.l k := ⟨_, rfl⟩
        rw [← hM] at c0 c1 c2
        have HM := Lib.hid hM
        clear hM
        have HC2 := Lib.hid c2
        by_cases hlt : k < κ
        · have h1 := HH.out.2.2.2.1 k hlt
          rw [← HM.out] at h1
          have hd1 : decide (M.lo ≤ x.nx) = true := decide_eq_true h1.1
          have hd2 : decide (x.nx ≤ M.hi) = false := decide_eq_false (by omega)
          have hg1 : M.lo ≤ x.nx := h1.1
          have hg2 : ¬ x.nx ≤ M.hi := by omega
          clear h1
          obtain ⟨x0, x1, xl, f0, f1⟩ := HZ.out.wb.all
          go_quiet (fail)
          rename_i nq
          have HZ := Lib.hid (HZ.out.below (bel_drewN (Below.refl _ _) nq))
          clear c0 c1 c2 p0 p1 p2 pl x0 x1 xl f0 f1 hd1 hd2 hg1 hg2
          have hwk : IntKind.i64.wrap ((k : Int) + 1) = ((k + 1 : Nat) : Int) := by rw [IntWalk.i64_in _ (by have := HWL.out.n6; omega)]; omega
          go_wp2
          go_roundw
          case rel => exact ⟨k + 1, rfl, rfl, by omega, HZ⟩
          case measure => simp only [intOf]; omega
        · obtain rfl : k = κ := by omega
          have h1 := HH.out.2.2.1
          rw [← HM.out] at h1
          have hd1 : decide (M.lo ≤ x.nx) = true := decide_eq_true h1.1
          have hd2 : decide (x.nx ≤ M.hi) = true := decide_eq_true h1.2
          have hg1 : M.lo ≤ x.nx := h1.1
          have hg2 : x.nx ≤ M.hi := h1.2
          clear h1
          obtain ⟨x0, x1, xl, f0, f1⟩ := HZ.out.wb.all
          go_quiet (fail)
          rename_i nq
          have HZ := Lib.hid (HZ.out.below (bel_drewN (Below.refl _ _) nq))
          clear c0 c1 c2 p0 p1 p2 pl x0 x1 xl f0 f1 hd1 hd2 hg1 hg2
          generalize wr.drewN nq = wn at *
          go_upto_region 14 with (fail)
          have HADk := Lib.hid (fun W => HAD.out x M.lo M.hi W)
          have hB : adB x M.lo M.hi = true := by
            have h1 := HH.out.2.2.1
            rw [← HM.out] at h1
            have h2 := HWL.out.rg hkl
            rw [← HM.out] at h2
            unfold adB
            rw [wki_t h2.1 h1.1, wki_t h1.2 h2.2.2, wki_t HH.out.2.2.2.2 (by have := HO.out.2; omega)]
            rfl
          rw [(adW_y hB).1, (adW_y hB).2] at HADk
          have HV2 := HV.out.step HWL.out HK0.out HR.out HO.out.2 HKA.out
          rw [← HM.out] at HV2
          have HV2 := Lib.hid HV2
          obtain ⟨y1, hy1⟩ : ∃ y, y = nxW M.hi := ⟨_, rfl⟩
          obtain ⟨y2, hy2⟩ : ∃ y, y = x.cv + M.hi - x.nx + 1 := ⟨_, rfl⟩
          rw [← hy1, ← hy2] at HADk HV2
          clear hB hy1 hy2
          have HSP := Lib.hid (fun W (h2 : Wz w p q v D X x V W) => show S14 q p b (o + k * 3) x (some ⟨b, o, none⟩) D X M W from by
            obtain ⟨b2, o2, hA2, -, d0, d1, -⟩ := h2.dr.pl.atg hkl
            rw [HA.out] at hA2
            obtain ⟨rfl, rfl⟩ : b2 = b ∧ o2 = o := by injection hA2 with e; injection e with e1 e2; exact ⟨e1.symm, e2.symm⟩
            rw [← HM.out] at d0 d1
            exact ⟨h2.wb.c0, h2.wb.c1, by rw [← HA.out]; exact h2.db.c1, d0, d1⟩)
          have HSK := Lib.hid (fun W (hb : Below wn.heap.size wn W) => HSP.out W (HZ.out.below hb))
          have HB0 := Lib.hid (Below.refl wn.heap.size wn)
          clear HSP
          go_cut [12, 13] from 39 to 103 (fun s12 s13 wx => ∃ r : Nat, s12 = .pointer (some ⟨r, 0, none⟩) ∧ s13 = .int .i64 0 ∧ Hid (Wx w p q v D X x V r ⟨y1, y2⟩ wx))
          case first =>
            go_region_held3 (fun W => W.cell? ⟨q, 0, none⟩ = some (.int .i64 x.nx) ∧ W.cell? ⟨q, 1, none⟩ = some (.int .i64 x.cv) ∧ W.cell? ⟨p, 1, none⟩ = some (.slice (some ⟨b, o, none⟩) D.l.length X.c) ∧ W.cell? ⟨b, o + k * 3, none⟩ = some (.int .i64 M.lo) ∧ W.cell? ⟨b, o + k * 3 + 1, none⟩ = some (.int .i64 M.hi))
              ((refine HSK.out _ ?_; repeat' (first | with_reducible exact HB0.out | with_reducible exact HB4.out | with_reducible refine wbal ?_ _ | with_reducible refine wbdr ?_ | with_reducible refine wbst ?_ ?_ _ | exact Nat.le_refl _ | (simp; done) | (simp; omega))))
              (first
              | (go_at_call 9; (with_reducible refine (HADk.out _).mono ?_); rintro e w8 ⟨rfl, hb⟩; have HP := Lib.hid (wx_a (y := ⟨y1, y2⟩) HZ.out hb 23); have HB4 := Lib.hid ((wbdr HB0.out).trans (hb.mono (by simp))); clear hb)
              | (go_at_call 9; (with_reducible refine (HADk.out _).mono ?_); rintro e w8 ⟨rfl, hb⟩; have HP := Lib.hid (wx_b (y := ⟨y1, y2⟩) HZ.out hb).2; have HXU := Lib.hid (wx_b (y := ⟨y1, y2⟩) HZ.out hb).1; have HB4 := Lib.hid ((wbdr (wbal HB0.out (.cells #[.int .i64 0, .int .i64 0] 23))).trans (hb.mono (by simp <;> omega))); obtain ⟨u0, u1, ul, g0, g1⟩ := HXU.out.all; clear hb))
            all_goals
              go_wp2_with fail
              go_meet
              exact ⟨_, rfl, rfl, HP⟩
          case rest =>
            obtain ⟨r, rfl, rfl, HX⟩ := hcut
            generalize wc = w9 at *
            clear HSK HB0 HADk HZ
            go_upto_region 17 with (fail)
            obtain ⟨x0, x1, xl, f0, f1⟩ := HX.out.z.wb.all
            obtain ⟨u0, u1, ul, g0, g1⟩ := HX.out.b.all
            go_upto_region 18 with (fail)
            have HZ := Lib.hid (HX.out.z.put ⟨y1, y2⟩)
            clear x0 x1 xl f0 f1 u0 u1 ul g0 g1 HX
            generalize (w9.setCell ⟨q, 0, none⟩ (.int .i64 y1)).setCell ⟨q, 1, none⟩ (.int .i64 y2) = wa at *
            obtain ⟨s, hs⟩ : ∃ s : Nat, M.sh = (s : Int) := ⟨M.sh.toNat, by have := (HWL.out.sh k hkl).1; rw [← HM.out] at this; omega⟩
            have hs6 : s < 6 := by have := (HWL.out.sh k hkl).2; rw [← HM.out] at this; omega
            have hs6i : (s : Int) < 6 := by omega
            have HVB := Lib.hid (show 0 ≤ V s ∧ V s ≤ 2 from by
              have h1 := HV.out.v k hkl
              rw [← HM.out, show M.sh.toNat = s by omega] at h1
              rw [h1]
              exact cnW_in _ _ _ _)
            have hwv : IntKind.i64.wrap (V s + 1) = V s + 1 := IntWalk.i64_in _ (by have := HVB.out; omega)
            have HSS := Lib.hid hs
            obtain ⟨⟨p0, p1, p2, pl⟩, -⟩ := HZ.out.db.all
            rw [HA.out] at p1
            obtain ⟨b2, o2, hA2, -, -, -, c2⟩ := HZ.out.dr.pl.atg hkl
            rw [HA.out] at hA2
            obtain ⟨eb, eo⟩ : b2 = b ∧ o2 = o := by injection hA2 with e; injection e with e1 e2; exact ⟨e1.symm, e2.symm⟩
            rw [← HM.out, hs, eb, eo] at c2
            clear eb eo
            clear hA2 hs
            have d0 := HZ.out.vb.c s _ (vsL_at V hs6)
            have dl := HZ.out.vb.lt
            have df := HZ.out.vb.f s
            go_upto_region 19 with (fail)
            have HZ := Lib.hid (HZ.out.inc hs6)
            clear d0 dl df p0 p1 p2 pl c2 hwv
            generalize wa.setCell ⟨v, s, none⟩ (.int .i64 (V s + 1)) = wb at *
            have HV3 := Lib.hid (show Wv D.l st k0 (i + 1) ⟨y1, y2⟩ (fun t => if t = s then V t + 1 else V t) (if F < 0 then M.sh else F) from by
              have h1 := HV2.out
              rw [show M.sh.toNat = s by have := HSS.out; omega] at h1
              exact h1)
            have hwi : IntKind.i64.wrap ((i : Int) + 1) = ((i + 1 : Nat) : Int) := by rw [IntWalk.i64_in _ (by have := HWL.out.n6; have := HO.out.1; omega)]; omega
            by_cases hF : F < 0
            · have HV4 := Lib.hid HV3.out
              rw [if_pos hF, HSS.out] at HV4
              obtain ⟨⟨p0, p1, p2, pl⟩, -⟩ := HZ.out.db.all
              rw [HA.out] at p1
              obtain ⟨b2, o2, hA2, -, -, -, c2⟩ := HZ.out.dr.pl.atg hkl
              rw [HA.out] at hA2
              obtain ⟨eb, eo⟩ : b2 = b ∧ o2 = o := by injection hA2 with e; injection e with e1 e2; exact ⟨e1.symm, e2.symm⟩
              rw [← HM.out, HSS.out, eb, eo] at c2
              clear eb eo
              clear hA2
              go_wp2
              clear p0 p1 p2 pl c2
              go_roundw
              case rel => exact ⟨i + 1, ⟨y1, y2⟩, _, (s : Int), rfl, rfl, HV4, HZ⟩
              case measure => simp only [intOf]; have := HO.out.1; omega
            · have HV4 := Lib.hid HV3.out
              rw [if_neg hF] at HV4
              go_wp2
              go_roundw
              case rel => exact ⟨i + 1, ⟨y1, y2⟩, _, F, rfl, rfl, HV4, HZ⟩
              case measure => simp only [intOf]; have := HO.out.1; omega
    · have hil : (i : Int) ≤ (D.l.length : Int) := by omega
      have HOX := Lib.hid (fun W => HOV.out x W)
      rw [show ovB x = true from decide_eq_true (by omega)] at HOX
      have HO := Lib.hid ho
      clear hi ho
      obtain ⟨⟨p0, p1, p2, pl⟩, -⟩ := HZ.out.db.all
      obtain ⟨x0, x1, xl, f0, f1⟩ := HZ.out.wb.all
      go_wp2_with fail
      refine (HOX.out _).mono ?_
      rintro e w7 ⟨rfl, hb⟩
      have HZ := Lib.hid (HZ.out.below hb)
      clear p0 p1 p2 pl x0 x1 xl f0 f1 hb hil
      go_upto_region 21 with (fail)
      obtain ⟨x0, x1, xl, f0, f1⟩ := HZ.out.wb.all
      go_wp2_with fail
      refine (HOX.out _).mono ?_
      rintro e w8 ⟨rfl, hb⟩
      have HZ := Lib.hid (HZ.out.below hb)
      clear x0 x1 xl f0 f1 hb HOX
      go_upto_region 24 with (fail)
      go_loopw [14, 15] (fun kv _ wr => ∃ k : Nat, kv = .int .i64 k ∧ k ≤ D.l.length ∧ Hid (Wz w p q v D X x V wr)) (fun kv _ _ => D.l.length - (intOf kv).toNat)
      case atStart => exact ⟨0, rfl, Nat.zero_le _, HZ⟩
      case round =>
        clear HZ
        obtain ⟨k, rfl, hk, HZ⟩ := hrel
        obtain ⟨⟨p0, p1, p2, pl⟩, -⟩ := HZ.out.db.all
        by_cases hkl : k < D.l.length
        · have hkl2 : (k : Int) < (D.l.length : Int) := by omega
          have hdn := HV.out.done HWL.out HK0.out HR.out (by have := HO.out; omega) hkl
          obtain ⟨b, o, hA, hbl, c0, c1, c2⟩ := HZ.out.dr.pl.atg hkl
          rw [hA] at p1
          obtain ⟨M, hM⟩ : ∃ M, M = sg D.l k := ⟨_, rfl⟩
          rw [← hM] at hdn c2
          have hsh := HWL.out.sh k hkl
          rw [← hM] at hsh
          obtain ⟨s, hs⟩ : ∃ s : Nat, M.sh = (s : Int) := ⟨M.sh.toNat, by omega⟩
          have hs6 : s < 6 := by omega
          have hs6i : (s : Int) < 6 := by omega
          have hsn : M.sh.toNat = s := by omega
          rw [hs] at c2
          rw [hsn, hs] at hdn
          have d0 := HZ.out.vb.c s _ (vsL_at V hs6)
          have dl := HZ.out.vb.lt
          obtain ⟨N, hN⟩ : ∃ N, N = V s := ⟨_, rfl⟩
          rw [← hN] at hdn d0
          have HDN := Lib.hid hdn
          have hwk : IntKind.i64.wrap ((k : Int) + 1) = ((k + 1 : Nat) : Int) := by rw [IntWalk.i64_in _ (by have := HWL.out.n6; omega)]; omega
          clear hA hM hsh hs hsn hN hdn c0 c1 hbl
          have hway : N = 1 ∨ N = 2 := by have := HDN.out.1; omega
          rcases hway with rfl | rfl
          · go_wp2
            clear p0 p1 p2 pl c2 d0 dl
            go_roundw
            case rel => exact ⟨k + 1, rfl, by omega, HZ⟩
            case measure => simp only [intOf]; omega
          · have hF := HDN.out.2 rfl
            have hFn : ((s : Int) != F) = false := by simp [hF]
            clear hF
            go_wp2
            clear p0 p1 p2 pl c2 d0 dl
            go_roundw
            case rel => exact ⟨k + 1, rfl, by omega, HZ⟩
            case measure => simp only [intOf]; omega
        · obtain rfl : k = D.l.length := by omega
          go_wp2_with fail
          refine (HAW.out _).mono ?_
          rintro e w9 ⟨rfl, hb⟩
          have HF := Lib.hid (HZ.out.below hb).bel
          clear hb
          go_wp2
          go_ret
          exact ⟨rfl, HF.out⟩
    · have hil : ¬ (i : Int) ≤ (D.l.length : Int) := by omega
      have HOX := Lib.hid (fun W => HOV.out x W)
      rw [show ovB x = true from decide_eq_true (by omega)] at HOX
      have HO := Lib.hid ho
      clear hi ho
      obtain ⟨⟨p0, p1, p2, pl⟩, -⟩ := HZ.out.db.all
      go_upto_region 21 with (fail)
      clear p0 p1 p2 pl hil
      obtain ⟨x0, x1, xl, f0, f1⟩ := HZ.out.wb.all
      go_wp2_with fail
      refine (HOX.out _).mono ?_
      rintro e w8 ⟨rfl, hb⟩
      have HZ := Lib.hid (HZ.out.below hb)
      clear x0 x1 xl f0 f1 hb HOX
      go_upto_region 24 with (fail)
      go_loopw [14, 15] (fun kv _ wr => ∃ k : Nat, kv = .int .i64 k ∧ k ≤ D.l.length ∧ Hid (Wz w p q v D X x V wr)) (fun kv _ _ => D.l.length - (intOf kv).toNat)
      case atStart => exact ⟨0, rfl, Nat.zero_le _, HZ⟩
      case round =>
        clear HZ
        obtain ⟨k, rfl, hk, HZ⟩ := hrel
        obtain ⟨⟨p0, p1, p2, pl⟩, -⟩ := HZ.out.db.all
        by_cases hkl : k < D.l.length
        · have hkl2 : (k : Int) < (D.l.length : Int) := by omega
          have hdn := HV.out.done HWL.out HK0.out HR.out (by have := HO.out; omega) hkl
          obtain ⟨b, o, hA, hbl, c0, c1, c2⟩ := HZ.out.dr.pl.atg hkl
          rw [hA] at p1
          obtain ⟨M, hM⟩ : ∃ M, M = sg D.l k := ⟨_, rfl⟩
          rw [← hM] at hdn c2
          have hsh := HWL.out.sh k hkl
          rw [← hM] at hsh
          obtain ⟨s, hs⟩ : ∃ s : Nat, M.sh = (s : Int) := ⟨M.sh.toNat, by omega⟩
          have hs6 : s < 6 := by omega
          have hs6i : (s : Int) < 6 := by omega
          have hsn : M.sh.toNat = s := by omega
          rw [hs] at c2
          rw [hsn, hs] at hdn
          have d0 := HZ.out.vb.c s _ (vsL_at V hs6)
          have dl := HZ.out.vb.lt
          obtain ⟨N, hN⟩ : ∃ N, N = V s := ⟨_, rfl⟩
          rw [← hN] at hdn d0
          have HDN := Lib.hid hdn
          have hwk : IntKind.i64.wrap ((k : Int) + 1) = ((k + 1 : Nat) : Int) := by rw [IntWalk.i64_in _ (by have := HWL.out.n6; omega)]; omega
          clear hA hM hsh hs hsn hN hdn c0 c1 hbl
          have hway : N = 1 ∨ N = 2 := by have := HDN.out.1; omega
          rcases hway with rfl | rfl
          · go_wp2
            clear p0 p1 p2 pl c2 d0 dl
            go_roundw
            case rel => exact ⟨k + 1, rfl, by omega, HZ⟩
            case measure => simp only [intOf]; omega
          · have hF := HDN.out.2 rfl
            have hFn : ((s : Int) != F) = false := by simp [hF]
            clear hF
            go_wp2
            clear p0 p1 p2 pl c2 d0 dl
            go_roundw
            case rel => exact ⟨k + 1, rfl, by omega, HZ⟩
            case measure => simp only [intOf]; omega
        · obtain rfl : k = D.l.length := by omega
          go_wp2_with fail
          refine (HAW.out _).mono ?_
          rintro e w9 ⟨rfl, hb⟩
          have HF := Lib.hid (HZ.out.below hb).bel
          clear hb
          go_wp2
          go_ret
          exact ⟨rfl, HF.out⟩

/-! The row's step, as the guide's shell has it. -/
namespace walkVisits
open Go.ChangeShapes Go.WideShapes Go.ChangeAt
open Go.ChangeMaps (open_string shut_string)
theorem own : ownKnob Try.prog.godebug = none := by kernel_rfl
theorem laidOut : laidOutB Try.prog = true := by kernel_rfl

set_option maxRecDepth 100000 in
theorem lifted (os : Os) (started : os.Started) (H : Type) (enc : TypeId × Value → H) :
    ReturnsInHanded {} Try.checked os 4 .any (Rows.walkVisitsSpec.pre6 enc Try.prog Try.f4 Rows.walkVisitsRow.domain false) (Rows.walkVisitsSpec.post enc Try.prog Try.f4 false true false false) := by
  refine returnsInHanded_of_change (C := Try.checked) own started (by kernel_rfl) Try.func4
    (ChangeSpec.witness6 (enc := enc) (C := Try.checked) false ⟨#[], #[.slice none 0 0, .int .i64 0], []⟩ 8 (by kernel_rfl) (by kernel_rfl) (by kernel_rfl) (by kernel_rfl)) ?_
  intro W base args ds gs before hval0 hW hcnd _
  have hval : ∀ (j : Nat) t v, Try.f4.params[j]? = some t → args[j]? = some v → Value.okWide Try.prog W .any base t v := hval0
  have hW' := hW
  obtain ⟨p, q, hA0, hV, rfl, hfz, hnd⟩ := hW
  have hA : DataW.TrodAll enc Try.prog W 0 (fun _ => true) true Try.f4.params.toList args.toList ds p := hA0
  rw [Try.params4] at hA hval
  obtain ⟨v0, vs0, d0, ds0, p0, q0, hargs, rfl, rfl, h0, r0⟩ := trodAll_cons hA
  obtain ⟨v1, vs1, d1, ds1, p1, q1, rfl, rfl, rfl, h1, r1⟩ := trodAll_cons r0
  obtain ⟨rfl, rfl, rfl⟩ := trodAll_nil r1
  obtain rfl : args = #[v0, v1] := by cases args; simp_all
  obtain ⟨rfl, rfl⟩ := trodVars_none hV
  obtain ⟨a0, len0, cap0, rfl⟩ := okWide_slice Try.underlying24 (hval 0 24 v0 rfl rfl)
  have k0 := h0
  have lt0 : ∀ x ∈ p0, x.block < W.heap.size := by obtain ⟨m, hm⟩ := k0; exact DataW.trod_lt m _ _ _ hm
  obtain ⟨z0, w0⟩ : ∃ zs, Ns W W.heap.size (.slice a0 len0 cap0) zs := by
    obtain ⟨fuel, hf⟩ := h0
    rcases open_ints Try.underlying24 Try.underlying3 (by kernel_rfl) hf with ⟨hcs, _⟩ | ⟨x, l, c, zs, hcs, _, hl, hm, hz, _, hcell, hwz⟩
    · simp [Value.cells] at hcs
      obtain ⟨rfl, rfl, rfl⟩ := hcs
      exact ⟨[], Ns.nil⟩
    · simp [Value.cells] at hcs
      obtain ⟨rfl, rfl, rfl⟩ := hcs
      exact Ns.of_cells hl hm (by simpa using hz) hcell hwz
  obtain ⟨a1, rfl, rfl, rfl, w1⟩ := open_int Try.underlying3 (hval 1 3 v1 rfl rfl) h1
  clear hA0 hval0
  refine (WalkVisits_walk W a0 len0 cap0 z0 w0 a1 w1).mono fun e W' ⟨he, bel⟩ => ?_
  subst he
  exact ⟨_, rfl, _, _, _, [], _, [], hW', trodAll_mk1 (shut_bool Try.underlying4 _), (trodAll_cons_mk (Below.trod laidOut (by kernel_rfl) (of_decide_eq_true (by kernel_rfl)) k0 bel lt0) (trodAll_cons_mk (shut_int Try.underlying3 w1) trodAll_mk0)), rfl, bel.frame _, fun h => by cases h⟩

theorem over : Rows.walkVisitsRow.holds Try.pinned (OpenSpec.ofChange Rows.walkVisitsSpec) :=
  OpenClaim.holds_of_wide 4 Try.f4 rfl rfl rfl rfl rfl rfl rfl ⟨rfl, rfl, rfl, rfl, rfl⟩ rfl rfl rfl rfl rfl (by kernel_rfl) Try.func4 (by kernel_rfl)
    (of_decide_eq_true (by kernel_rfl)) (by unfold Func.isWrapper; first | (rw [if_pos (by decide +kernel)]; kernel_rfl) | (rw [if_neg (by decide +kernel)]; exact ⟨rfl, rfl⟩))
    (fun os started H enc _ => lifted os started H enc)

/-- The statement. -/
theorem proved : Rows.WalkVisitsSaid := over
#print axioms proved
end walkVisits
end Go.Proofs.Ytkecnihgjepfeaa
