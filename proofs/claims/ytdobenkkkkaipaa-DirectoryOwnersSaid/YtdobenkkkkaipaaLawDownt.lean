/- What is proved here: shardqueuelaw10.DirectoryOwners returns true for every input and leaves its arguments as they were. No condition. -/
import Derived.Test.YtdobenkkkkaipaaJ12
import Derived.Test.YtdobenkkkkaipaaJ11
import Derived.Test.YtdobenkkkkaipaaJ13
import Derived.ProofKit
import Derived.OpenShut
import Derived.ChangeOld
import Derived.Deep.DeepCutAuto
import Derived.Deep.RegionHeld3
namespace Go.Proofs.Ytdobenkkkkaipaa
open Go.RowKit
set_option linter.unusedVariables false

open Classical in
set_option maxHeartbeats 4000000 in
set_option maxRecDepth 20000 in
theorem DirectoryOwners_walk (w : World) (a0 : Option Addr) (l0 c0 : Nat) (zs : List Int) (hz : Ns w w.heap.size (.slice a0 l0 c0) zs) (rt : Int) (w1 : (Lit.int .i64 rt).wf = true) :
    Calls Try.prog 5 #[.slice a0 l0 c0, .int .i64 rt] w fun e w' => e = .returned (.bool true) ∧ Below w.heap.size w w' := by
  have HNS := Lib.hid (new_src a0 l0 c0 zs w hz)
  have HAW := Lib.hid (fun W => awake10_any W)
  obtain ⟨R, hR⟩ : ∃ R, R = rt % 65536 := ⟨_, rfl⟩
  have HRR := Lib.hid (show 0 ≤ R ∧ R ≤ 65535 by omega)
  have hand : bits .and .i64 rt 65535 = R := by rw [hR]; exact i64_and65535 rt
  clear hz w1 hR
  go_enter Try.func5, Try.ntmps5
  go_wp2_with fail
  refine HNS.out.mono ?_
  rintro e w2 ⟨g, rfl, hs, hb⟩
  have HS := Lib.hid hs
  have HB := Lib.hid hb
  have HGW := Lib.hid (show w.heap.size ≤ g from hs.1)
  clear hs hb HNS
  go_wp2_with fail
  refine (range_any w.heap.size g _ HS.out 1 6 (by omega) (by omega) (by omega)).mono ?_
  rintro e w3 ⟨n, rfl, n1, n2, hs, hg⟩
  have HN := Lib.hid (And.intro n1 n2)
  have HS3 := Lib.hid hs
  have HB3 := Lib.hid (HB.out.grown hg HB.out.size (fun k e => by injection e with e; subst e; exact HGW.out))
  clear hs hg n1 n2 HS HB
  go_wp2_with fail
  refine (range_any w.heap.size g _ HS3.out 1 n (by omega) HN.out.1 (by have := HN.out; omega)).mono ?_
  rintro e w4 ⟨m, rfl, m1, m2, hs, hg⟩
  have HM := Lib.hid (And.intro m1 m2)
  have HS4 := Lib.hid hs
  have HB4 := Lib.hid (HB3.out.grown hg HB3.out.size (fun k e => by injection e with e; subst e; exact HGW.out))
  clear hs hg m1 m2 HS3 HB3
  go_wp2_with fail
  refine (dnew_any n m _).mono ?_
  rintro e w5 ⟨X, rfl, hnw, hdr, hb⟩
  have hE : nwE n m = 0 := by unfold nwE; rw [if_pos (by have := HN.out; have := HM.out; omega)]
  obtain ⟨N, hN⟩ : ∃ N : Nat, n = N := ⟨n.toNat, by have := HN.out; omega⟩
  obtain ⟨M, hM⟩ : ∃ M : Nat, m = M := ⟨m.toNat, by have := HN.out; have := HM.out; omega⟩
  have HVA := Lib.hid (show vaD (nwD n m) = 0 ∧ (nwD n m).F.length = N from by
    subst hN
    subst hM
    have h1 := HN.out
    have h2 := HM.out
    refine ⟨nw_va (by omega) (by omega) (by omega), ?_⟩
    unfold nwD
    rw [if_pos hE]
    simp)
  rw [hE]
  obtain ⟨D, hD⟩ : ∃ D, D = nwD n m := ⟨_, rfl⟩
  rw [← hD] at HVA hdr ⊢
  clear hD hE hM HM
  subst hN
  have HD0 := Lib.hid (DsAt.start (w := w) (HS4.out.below hb) hdr (hnw.off (by have := HS4.out.2.1; exact this)) HGW.out (Nat.le_refl _) (HB4.out.trans (hb.mono HB4.out.size)) 25)
  clear hnw hdr hb HS4 HB4
  go_upto_region 4 with (fail)
  obtain ⟨p, hp⟩ : ∃ p, p = w5.heap.size := ⟨_, rfl⟩
  rw [← hp] at HD0 ⊢
  generalize w5.alloc (.cells #[.int .i64 D.vn, .slice X.A D.l.length X.c, .slice X.A2 D.F.length X.c2] 25) = w6 at *
  clear hp
  go_wp2_with fail
  clear hand
  go_loopw [9] (fun iv wr => ∃ (i : Nat) (D : Dd) (X : Dx), iv = .int .i64 i ∧ i ≤ 12 ∧ Hid (vaD D = 0 ∧ D.F.length = N) ∧ Hid (DsAt w w.heap.size g p D X wr)) (fun iv _ => 12 - (intOf iv).toNat)
  case atStart => exact ⟨0, D, X, rfl, by omega, HVA, HD0⟩
  case round =>
    clear HVA HD0
    obtain ⟨i, D, X, rfl, hi, HVA, HD⟩ := hrel
    by_cases hlt : i < 12
    · have hlt' : (i : Int) < 12 := by omega
      clear hlt hi
      go_upto_region 10 with (fail)
      have HP0 := Lib.hid (DnAt.start HD.out)
      have HP := Lib.hid HP0.out.drew
      have HCE := Lib.hid (fun W (oz : Option Nat) (k : DnAt w w.heap.size g p D X oz W) => edit_any w.heap.size g W k.ds.src (N : Int) HN.out.1 (by have := HN.out; omega))
      have HCA := Lib.hid (fun E W (oz : Option Nat) (k : DnAt w w.heap.size g p D X oz W) => dapply_any D X E W k.ds.dr (by have := okd_len HVA.out.1; omega))
      go_cut [10, 11] (fun s10 s11 wx => ∃ (z : Nat) (E : Ed) (Y : Dx), s10 = .pointer (some ⟨z, 0, none⟩) ∧ s11 = .int .i64 (apE D E) ∧ Hid (DyAt w w.heap.size g p z D X (apD D E) Y wx))
      case first =>
        have HSK := Lib.hid (fun W' (hb : Below (p + 1) wr W') => HP0.out.k3 hb)
        have HBZ := Lib.hid (Below.refl (p + 1) wr)
        have hpl := HD.out.db.lt
        have HLF := Lib.hid (And.intro (rfl : D.l.length = D.l.length) (rfl : D.F.length = D.F.length))
        go_region_held3 (fun W => K3 p D X W)
          ((refine HSK.out _ ?_; repeat' (first | with_reducible exact HBZ.out | with_reducible refine dal ?_ ?_ | with_reducible refine dst ?_ ?_ | with_reducible refine ddr ?_ | omega | (simp; omega))))
          (first
            | (go_at_call 16; (first | (have HV := Lib.hid HP.out; with_reducible refine (HCE.out _ _ HV.out).mono ?_) | (have HV := Lib.hid (HP.out.ax 25); with_reducible refine (HCE.out _ _ HV.out).mono ?_) | (have HV := Lib.hid (HP0.out.ax 25).drew; with_reducible refine (HCE.out _ _ HV.out).mono ?_)); rintro e w3 ⟨E, rfl, -, -, -, -, hs, hg⟩; have HP := Lib.hid (HV.out.turn hs hg); have HSK := Lib.hid (fun W' (hb : Below (p + 1) w3 W') => HP.out.k3 hb); have HBZ := Lib.hid (Below.refl (p + 1) w3); have hpl := HP.out.ds.db.lt; clear HV hs hg)
            | (go_at_call 20; (first | (have HV := Lib.hid HP.out; with_reducible refine (HCA.out _ _ _ HV.out).mono ?_) | (have HV := Lib.hid (HP.out.ax 25); with_reducible refine (HCA.out _ _ _ HV.out).mono ?_)); rintro e w4 ⟨Y, rfl, hnw, hdr, hb⟩; have HY := Lib.hid (And.intro hnw hdr); have HVV := HV; have HP := Lib.hid (HV.out.below hb); have HSK := Lib.hid (fun W' (hb : Below (p + 1) w4 W') => HP.out.k3 hb); have HBZ := Lib.hid (Below.refl (p + 1) w4); have hpl := HP.out.ds.db.lt; (try (obtain ⟨⟨b0, b1, b2, bl⟩, g0, g1, g2⟩ := HP.out.xf.1.all; have hxr := HP.out.xf.2)); clear HV hnw hdr hb))
        all_goals
          go_wp2_with fail
          go_meet
          first
          | exact ⟨_, E, Y, rfl, rfl, Lib.hid (dy_1 HP.out HY.out.2 (HY.out.1.off HVV.out.ds.db.lt) (HY.out.1.off HVV.out.ds.src.2.1) 25)⟩
          | exact ⟨_, E, Y, rfl, rfl, Lib.hid (dy_2 HP.out HY.out.2 (HY.out.1.off HVV.out.ds.db.lt) (HY.out.1.off HVV.out.ds.src.2.1) (HY.out.1.off HVV.out.xf.1.lt))⟩
      case rest =>
        clear HP0 HP HCE HCA HD
        obtain ⟨z, E, Y, rfl, rfl, HY⟩ := hcut
        generalize wc = w7 at *
        have HST := Lib.hid (show ∀ D' x, apE D E = x → apD D E = D' → x = 0 → vaD D' = 0 ∧ D'.vn = D.vn + 1 ∧ D'.F.length = N from fun D' x e1 e2 e3 => by
          subst e1
          subst e2
          have h := apD_ok e3
          exact ⟨h.1, h.2.1, h.2.2.trans HVA.out.2⟩)
        obtain ⟨D', hD'⟩ : ∃ D', apD D E = D' := ⟨_, rfl⟩
        obtain ⟨x, hx⟩ : ∃ x, apE D E = x := ⟨_, rfl⟩
        have HST := Lib.hid (HST.out D' x hx hD')
        rw [hD'] at HY
        rw [hx]
        clear hD' hx
        obtain ⟨⟨x0, x1, x2, xl⟩, f0, f1, f2⟩ := HY.out.ds.db.all
        obtain ⟨⟨z0, z1, z2, zl⟩, -, -, -⟩ := HY.out.xb.all
        obtain ⟨hz1, hz2⟩ := HY.out.zn
        have hz3 : ¬ p = z := fun e => hz2 e.symm
        by_cases hx0 : x = 0
        · subst hx0
          obtain ⟨v1, v2, v3⟩ := HST.out rfl
          have HV1 := Lib.hid (And.intro v1 v3)
          have hvw : IntKind.i64.wrap (D.vn + 1) = D'.vn := by
            rw [v2]
            have := (ok_va HVA.out.1).rg.1
            exact IntWalk.i64_in _ (by omega)
          have HDS := Lib.hid (HY.out.ds.put HY.out.xr HY.out.o1 HY.out.o2)
          clear v1 v2 v3
          go_upto_region 15 with (fail)
          generalize ((w7.setCell ⟨p, 0, none⟩ (.int .i64 D'.vn)).setCell ⟨p, 1, none⟩ (.slice Y.A D'.l.length Y.c)).setCell ⟨p, 2, none⟩ (.slice Y.A2 D'.F.length Y.c2) = w8 at *
          clear x0 x1 x2 xl f0 f1 f2 z0 z1 z2 zl hz1 hz2 hz3 HY HST
          have HOW := Lib.hid (fun W (k : DsAt w w.heap.size g p D' Y W) => downer_any D' Y R W k.dr)
          have HSP := Lib.hid (fun (j : Nat) W (k : DsAt w w.heap.size g p D' Y W) => dspan_any D' Y (j : Int) W k.dr)
          have HVV := Lib.hid (fun W (k : DsAt w w.heap.size g p D' Y W) => show Calls Try.prog 23 #[dv D' Y] W (VlR W 0) from by
            have h := dvalid_any D' Y W k.dr
            rwa [HV1.out.1] at h)
          have HKS := Lib.hid (own_slot HV1.out.1 HRR.out.1 HRR.out.2)
          have HKI := Lib.hid (fun j : Int => own_iff HV1.out.1 HRR.out.1 HRR.out.2 j)
          have HSH := Lib.hid (fun (j : Int) (h : spnB D' j = true) => spn_sh h)
          rw [HV1.out.2] at HKS
          generalize ownD D' R = K at *
          obtain ⟨⟨x0, x1, x2, xl⟩, -⟩ := HDS.out.db.all
          go_wp2_with fail
          clear x0 x1 x2 xl
          refine (HOW.out _ HDS.out).mono ?_
          rintro e w9 ⟨rfl, hb⟩
          have HD9 := Lib.hid (HDS.out.below hb)
          clear hb HDS HOW
          go_wp2_with fail
          go_loopw [13, 14] (fun cv jv wr => ∃ j : Nat, jv = .int .i64 j ∧ cv = .int .i64 (if K < (j : Int) then 1 else 0) ∧ j ≤ N ∧ Hid (DsAt w w.heap.size g p D' Y wr)) (fun _ jv _ => N - (intOf jv).toNat)
          case atStart => exact ⟨0, rfl, by rw [if_neg (by have := HKS.out.1; omega)], Nat.zero_le _, HD9⟩
          case round =>
            clear HD9
            obtain ⟨j, rfl, rfl, hjn, HDJ⟩ := hrel
            obtain ⟨c, hc⟩ : ∃ c : Int, c = if K < (j : Int) then 1 else 0 := ⟨_, rfl⟩
            rw [← hc]
            obtain ⟨⟨x0, x1, x2, xl⟩, -⟩ := HDJ.out.db.all
            by_cases hj : j < N
            · have hj' : (j : Int) < (N : Int) := by omega
              have hw64 : wrap64 ((j : Int) + 1) = (j : Int) + 1 := IntWalk.wrap64_in _ (by have := HN.out; omega)
              have hwi64 : IntKind.i64.wrap ((j : Int) + 1) = (j : Int) + 1 := IntWalk.i64_in _ (by have := HN.out; omega)
              have hcw : 0 ≤ c ∧ c ≤ 1 := by rw [hc]; split <;> omega
              have hcw2 : IntKind.i64.wrap (c + 1) = c + 1 := IntWalk.i64_in _ (by omega)
              clear hcw
              go_wp2_with fail
              refine (HSP.out j _ HDJ.out).mono ?_
              rintro e w10 ⟨rfl, hb⟩
              have HD10 := Lib.hid (HDJ.out.below hb)
              have hki := HKI.out (j : Int)
              have HSJ := Lib.hid (HSH.out (j : Int))
              clear hb x0 x1 x2 xl HDJ
              generalize spnD D' (j : Int) = S at *
              generalize spnB D' (j : Int) = bb at *
              by_cases hjk : (j : Int) = K
              · obtain ⟨b1, b2, b3⟩ := hki.2 hjk
                subst b1
                have hss := HSJ.out rfl
                subst hjk
                have HCN := Lib.hid (show c + 1 = if (j : Int) < ((j + 1 : Nat) : Int) then 1 else 0 by rw [hc, if_neg (by omega), if_pos (by omega)]; rfl)
                clear hki hc
                go_wp2
                exact ⟨⟨j + 1, by rw [Int.natCast_add]; rfl, by rw [← HCN.out], by omega, Lib.hid (HD10.out.below ((Below.refl _ _).alloc (Nat.le_refl _) _))⟩, by simp [intOf]; omega⟩
              · have HCN := Lib.hid (show c = if K < ((j + 1 : Nat) : Int) then 1 else 0 by rw [hc]; split <;> split <;> omega)
                have hno : bb = false ∨ (bb = true ∧ ¬ S.lo ≤ R) ∨ (bb = true ∧ S.lo ≤ R ∧ ¬ R ≤ S.hi) := by
                  cases bb with
                  | false => exact .inl rfl
                  | true =>
                    right
                    by_cases h1 : S.lo ≤ R
                    · by_cases h2 : R ≤ S.hi
                      · exact absurd (hki.1 ⟨rfl, h1, h2⟩) hjk
                      · exact .inr ⟨rfl, h1, h2⟩
                    · exact .inl ⟨rfl, h1⟩
                clear hki hc hjk
                rcases hno with rfl | ⟨rfl, b1⟩ | ⟨rfl, b1, b2⟩
                all_goals
                  go_wp2
                  exact ⟨⟨j + 1, by rw [Int.natCast_add]; rfl, by rw [← HCN.out], by omega, Lib.hid (HD10.out.below ((Below.refl _ _).alloc (Nat.le_refl _) _))⟩, by simp [intOf]; omega⟩
            · have hje : j = N := by omega
              subst hje
              have hc1 : c = 1 := by rw [hc, if_pos HKS.out.2]
              subst hc1
              clear hc hjn hj
              go_wp2_with fail
              clear x0 x1 x2 xl
              refine (HVV.out _ HDJ.out).mono ?_
              rintro e w10 ⟨rfl, hb⟩
              have HD10 := Lib.hid (HDJ.out.below hb)
              clear hb HDJ
              go_wp2
              exact ⟨⟨i + 1, D', Y, by rw [Int.natCast_add]; rfl, by omega, HV1, HD10⟩, by simp [intOf]; omega⟩
        · have hx1 : (x == 0) = false := by simpa using hx0
          have HDS := Lib.hid HY.out.ds
          go_upto_region 15 with (fail)
          have HV1 := HVA
          clear x0 x1 x2 xl f0 f1 f2 z0 z1 z2 zl hz1 hz2 hz3 HY HST
          have HOW := Lib.hid (fun W (k : DsAt w w.heap.size g p D X W) => downer_any D X R W k.dr)
          have HSP := Lib.hid (fun (j : Nat) W (k : DsAt w w.heap.size g p D X W) => dspan_any D X (j : Int) W k.dr)
          have HVV := Lib.hid (fun W (k : DsAt w w.heap.size g p D X W) => show Calls Try.prog 23 #[dv D X] W (VlR W 0) from by
            have h := dvalid_any D X W k.dr
            rwa [HV1.out.1] at h)
          have HKS := Lib.hid (own_slot HV1.out.1 HRR.out.1 HRR.out.2)
          have HKI := Lib.hid (fun j : Int => own_iff HV1.out.1 HRR.out.1 HRR.out.2 j)
          have HSH := Lib.hid (fun (j : Int) (h : spnB D j = true) => spn_sh h)
          rw [HV1.out.2] at HKS
          generalize ownD D R = K at *
          obtain ⟨⟨x0, x1, x2, xl⟩, -⟩ := HDS.out.db.all
          go_wp2_with fail
          clear x0 x1 x2 xl
          refine (HOW.out _ HDS.out).mono ?_
          rintro e w9 ⟨rfl, hb⟩
          have HD9 := Lib.hid (HDS.out.below hb)
          clear hb HDS HOW
          go_wp2_with fail
          go_loopw [13, 14] (fun cv jv wr => ∃ j : Nat, jv = .int .i64 j ∧ cv = .int .i64 (if K < (j : Int) then 1 else 0) ∧ j ≤ N ∧ Hid (DsAt w w.heap.size g p D X wr)) (fun _ jv _ => N - (intOf jv).toNat)
          case atStart => exact ⟨0, rfl, by rw [if_neg (by have := HKS.out.1; omega)], Nat.zero_le _, HD9⟩
          case round =>
            clear HD9
            obtain ⟨j, rfl, rfl, hjn, HDJ⟩ := hrel
            obtain ⟨c, hc⟩ : ∃ c : Int, c = if K < (j : Int) then 1 else 0 := ⟨_, rfl⟩
            rw [← hc]
            obtain ⟨⟨x0, x1, x2, xl⟩, -⟩ := HDJ.out.db.all
            by_cases hj : j < N
            · have hj' : (j : Int) < (N : Int) := by omega
              have hw64 : wrap64 ((j : Int) + 1) = (j : Int) + 1 := IntWalk.wrap64_in _ (by have := HN.out; omega)
              have hwi64 : IntKind.i64.wrap ((j : Int) + 1) = (j : Int) + 1 := IntWalk.i64_in _ (by have := HN.out; omega)
              have hcw : 0 ≤ c ∧ c ≤ 1 := by rw [hc]; split <;> omega
              have hcw2 : IntKind.i64.wrap (c + 1) = c + 1 := IntWalk.i64_in _ (by omega)
              clear hcw
              go_wp2_with fail
              refine (HSP.out j _ HDJ.out).mono ?_
              rintro e w10 ⟨rfl, hb⟩
              have HD10 := Lib.hid (HDJ.out.below hb)
              have hki := HKI.out (j : Int)
              have HSJ := Lib.hid (HSH.out (j : Int))
              clear hb x0 x1 x2 xl HDJ
              generalize spnD D (j : Int) = S at *
              generalize spnB D (j : Int) = bb at *
              by_cases hjk : (j : Int) = K
              · obtain ⟨b1, b2, b3⟩ := hki.2 hjk
                subst b1
                have hss := HSJ.out rfl
                subst hjk
                have HCN := Lib.hid (show c + 1 = if (j : Int) < ((j + 1 : Nat) : Int) then 1 else 0 by rw [hc, if_neg (by omega), if_pos (by omega)]; rfl)
                clear hki hc
                go_wp2
                exact ⟨⟨j + 1, by rw [Int.natCast_add]; rfl, by rw [← HCN.out], by omega, Lib.hid (HD10.out.below ((Below.refl _ _).alloc (Nat.le_refl _) _))⟩, by simp [intOf]; omega⟩
              · have HCN := Lib.hid (show c = if K < ((j + 1 : Nat) : Int) then 1 else 0 by rw [hc]; split <;> split <;> omega)
                have hno : bb = false ∨ (bb = true ∧ ¬ S.lo ≤ R) ∨ (bb = true ∧ S.lo ≤ R ∧ ¬ R ≤ S.hi) := by
                  cases bb with
                  | false => exact .inl rfl
                  | true =>
                    right
                    by_cases h1 : S.lo ≤ R
                    · by_cases h2 : R ≤ S.hi
                      · exact absurd (hki.1 ⟨rfl, h1, h2⟩) hjk
                      · exact .inr ⟨rfl, h1, h2⟩
                    · exact .inl ⟨rfl, h1⟩
                clear hki hc hjk
                rcases hno with rfl | ⟨rfl, b1⟩ | ⟨rfl, b1, b2⟩
                all_goals
                  go_wp2
                  exact ⟨⟨j + 1, by rw [Int.natCast_add]; rfl, by rw [← HCN.out], by omega, Lib.hid (HD10.out.below ((Below.refl _ _).alloc (Nat.le_refl _) _))⟩, by simp [intOf]; omega⟩
            · have hje : j = N := by omega
              subst hje
              have hc1 : c = 1 := by rw [hc, if_pos HKS.out.2]
              subst hc1
              clear hc hjn hj
              go_wp2_with fail
              clear x0 x1 x2 xl
              refine (HVV.out _ HDJ.out).mono ?_
              rintro e w10 ⟨rfl, hb⟩
              have HD10 := Lib.hid (HDJ.out.below hb)
              clear hb HDJ
              go_wp2
              exact ⟨⟨i + 1, D, X, by rw [Int.natCast_add]; rfl, by omega, HV1, HD10⟩, by simp [intOf]; omega⟩
    · have HB := Lib.hid HD.out.bel
      clear HD HVA
      go_wp2_with fail
      refine (HAW.out _).mono ?_
      rintro e w8 ⟨rfl, hb⟩
      have HBB := Lib.hid (HB.out.trans (hb.mono HB.out.size))
      clear hb
      go_wp2
      go_ret
      exact ⟨rfl, HBB.out⟩
/-! The row's step, as the guide's shell has it. -/
namespace directoryOwners
open Go.ChangeShapes Go.WideShapes Go.ChangeAt
open Go.ChangeMaps (open_string shut_string)
theorem own : ownKnob Try.prog.godebug = none := by kernel_rfl
theorem laidOut : laidOutB Try.prog = true := by kernel_rfl

set_option maxRecDepth 100000 in
theorem lifted (os : Os) (started : os.Started) (H : Type) (enc : TypeId × Value → H) :
    ReturnsInHanded {} Try.checked os 5 .any (Rows.directoryOwnersSpec.pre6 enc Try.prog Try.f5 Rows.directoryOwnersRow.domain false) (Rows.directoryOwnersSpec.post enc Try.prog Try.f5 false true false false) := by
  refine returnsInHanded_of_change (C := Try.checked) own started (by kernel_rfl) Try.func5
    (ChangeSpec.witness6 (enc := enc) (C := Try.checked) false ⟨#[], #[.slice none 0 0, .int .i64 0], []⟩ 8 (by kernel_rfl) (by kernel_rfl) (by kernel_rfl) (by kernel_rfl)) ?_
  intro W base args ds gs before hval0 hW hcnd _
  have hval : ∀ (j : Nat) t v, Try.f5.params[j]? = some t → args[j]? = some v → Value.okWide Try.prog W .any base t v := hval0
  have hW' := hW
  obtain ⟨p, q, hA0, hV, rfl, hfz, hnd⟩ := hW
  have hA : DataW.TrodAll enc Try.prog W 0 (fun _ => true) true Try.f5.params.toList args.toList ds p := hA0
  rw [Try.params5] at hA hval
  obtain ⟨v0, vs0, d0, ds0, p0, q0, hargs, rfl, rfl, h0, r0⟩ := trodAll_cons hA
  obtain ⟨v1, vs1, d1, ds1, p1, q1, rfl, rfl, rfl, h1, r1⟩ := trodAll_cons r0
  obtain ⟨rfl, rfl, rfl⟩ := trodAll_nil r1
  obtain rfl : args = #[v0, v1] := by cases args; simp_all
  obtain ⟨rfl, rfl⟩ := trodVars_none hV
  obtain ⟨a0, len0, cap0, rfl⟩ := okWide_slice Try.underlying23 (hval 0 23 v0 rfl rfl)
  have k0 := h0
  have lt0 : ∀ x ∈ p0, x.block < W.heap.size := by obtain ⟨m, hm⟩ := k0; exact DataW.trod_lt m _ _ _ hm
  obtain ⟨z0, w0⟩ : ∃ zs, Ns W W.heap.size (.slice a0 len0 cap0) zs := by
    obtain ⟨fuel, hf⟩ := h0
    rcases open_ints Try.underlying23 Try.underlying3 (by kernel_rfl) hf with ⟨hcs, _⟩ | ⟨x, l, c, zs, hcs, _, hl, hm, hz, _, hcell, hwz⟩
    · simp [Value.cells] at hcs
      obtain ⟨rfl, rfl, rfl⟩ := hcs
      exact ⟨[], Ns.nil⟩
    · simp [Value.cells] at hcs
      obtain ⟨rfl, rfl, rfl⟩ := hcs
      exact Ns.of_cells hl hm (by simpa using hz) hcell hwz
  obtain ⟨a1, rfl, rfl, rfl, w1⟩ := open_int Try.underlying3 (hval 1 3 v1 rfl rfl) h1
  clear hA0 hval0
  refine (DirectoryOwners_walk W a0 len0 cap0 z0 w0 a1 w1).mono fun e W' ⟨he, bel⟩ => ?_
  subst he
  exact ⟨_, rfl, _, _, _, [], _, [], hW', trodAll_mk1 (shut_bool Try.underlying4 _), (trodAll_cons_mk (Below.trod laidOut (by kernel_rfl) (of_decide_eq_true (by kernel_rfl)) k0 bel lt0) (trodAll_cons_mk (shut_int Try.underlying3 w1) trodAll_mk0)), rfl, bel.frame _, fun h => by cases h⟩

theorem over : Rows.directoryOwnersRow.holds Try.pinned (OpenSpec.ofChange Rows.directoryOwnersSpec) :=
  OpenClaim.holds_of_wide 5 Try.f5 rfl rfl rfl rfl rfl rfl rfl ⟨rfl, rfl, rfl, rfl, rfl⟩ rfl rfl rfl rfl rfl (by kernel_rfl) Try.func5 (by kernel_rfl)
    (of_decide_eq_true (by kernel_rfl)) (by unfold Func.isWrapper; first | (rw [if_pos (by decide +kernel)]; kernel_rfl) | (rw [if_neg (by decide +kernel)]; exact ⟨rfl, rfl⟩))
    (fun os started H enc _ => lifted os started H enc)

/-- The statement. -/
theorem proved : Rows.DirectoryOwnersSaid := over
#print axioms proved
end directoryOwners
end Go.Proofs.Ytdobenkkkkaipaa
