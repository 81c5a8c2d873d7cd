/- What is proved here: ref10.Apply by a contract (merge, the lower one goes). -/
import Derived.Test.YtkecnihgjepfeaaJ09
import Derived.Deep.QuietTactic
import Derived.BigQuiet
namespace Go.Proofs.Ytkecnihgjepfeaa
open Go.RowKit
set_option linter.unusedVariables false

set_option maxHeartbeats 16000000 in
set_option maxRecDepth 20000 in
theorem rap_me2 (d : Dd) (X : Dx) (e : Ed) (w : World) (hd : DR w w.heap.size d X) (hl : d.l.length ≤ 90) (hv : vaD d = 0) (h6 : d.vn ≠ 1099511627776) (hk : e.kd = 2) (hs : slotP d.F.length e.fr ∧ slotP d.F.length e.to) (hcs : ¬ ixS d.l e.fr - ixS d.l e.to = 1) :
    Calls Try.prog 22 #[dv d X, e.v] w (DE w.heap.size w (apD d e) (apE d e)) := by
  have HCS := Lib.hid hcs
  clear hcs
  have H0 := Lib.hid (Ab.start d X e hd)
  have HVA := Lib.hid (fun p q r W (k : Ab w p q r d X e W) => rvalid10_any d X W k.da.dr)
  have HHL := Lib.hid hl
  obtain ⟨p, hp⟩ : ∃ p, p = w.heap.size := ⟨_, rfl⟩
  obtain ⟨q, hq⟩ : ∃ q, q = w.heap.size + 1 := ⟨_, rfl⟩
  obtain ⟨r, hr⟩ : ∃ r, r = w.heap.size + 1 + 1 := ⟨_, rfl⟩
  have HPP := Lib.hid (show (p = w.heap.size ∧ q = w.heap.size + 1 ∧ r = w.heap.size + 1 + 1) ∧ (¬ p = q ∧ ¬ q = p ∧ ¬ p = r ∧ ¬ r = p ∧ ¬ q = r ∧ ¬ r = q) by omega)
  obtain ⟨R, hR⟩ : ∃ R, R = apD d e := ⟨_, rfl⟩
  obtain ⟨x, hx⟩ : ∃ x, x = apE d e := ⟨_, rfl⟩
  rw [← hR, ← hx]
  have HRX := Lib.hid (And.intro hR hx)
  clear hR hx hp hq hr hd hl
  rw [hv] at HVA
  have h6' : (d.vn == 1099511627776) = false := by simpa using h6
  have HOK := Lib.hid (ok_va hv)
  have HAN := Lib.hid (apN_0 hv h6 (.inr hk) hs.1 hs.2)
  have HSL := Lib.hid hs
  obtain ⟨⟨s0, s1⟩, s2, s3⟩ := hs
  clear h6
  have HEX := Lib.hid (show x = meE d e ∧ R = if meE d e = 0 then Dd.mk (d.vn + 1) (meL d.l (min (ixS d.l e.fr) (ixS d.l e.to)).toNat e) (d.F.set e.fr.toNat e.to) else zD10 from by
    have h7 : apE d e = meE d e := apE_2 HAN.out hk
    refine ⟨HRX.out.2.trans h7, ?_⟩
    rw [HRX.out.1]
    by_cases h8 : meE d e = 0
    · rw [if_pos h8, apD_2 (by rw [h7]; exact h8) hk]; rfl
    · rw [if_neg h8, apD_no (by rw [h7]; exact h8)])
  have k1 : (e.kd != 1) = true := by rw [hk]; decide
  have k2 : (e.kd != 2) = false := by simpa using hk
  have k3 : (e.kd == 1) = false := by rw [hk]; decide
  clear hv hk
  go_enter Try.func22, Try.ntmps22
  go_wp2_with fail
  have H0 := Lib.hid (show Ab w p q r d X e (((w.alloc (.cells #[.int .i64 d.vn, .slice X.A d.l.length X.c, .slice X.A2 d.F.length X.c2] 40)).alloc (.cells #[.int .i64 e.kd, .int .i64 e.fr, .int .i64 e.to, .int .i64 e.md] 55)).alloc (.cells #[.int .i64 0, .slice none 0 0, .slice none 0 0] 40)) from by rw [HPP.out.1.1, HPP.out.1.2.1, HPP.out.1.2.2]; exact H0.out)
  rw [← HPP.out.1.2.2, ← HPP.out.1.2.1, ← HPP.out.1.1]
  generalize ((w.alloc (.cells #[.int .i64 d.vn, .slice X.A d.l.length X.c, .slice X.A2 d.F.length X.c2] 40)).alloc (.cells #[.int .i64 e.kd, .int .i64 e.fr, .int .i64 e.to, .int .i64 e.md] 55)).alloc (.cells #[.int .i64 0, .slice none 0 0, .slice none 0 0] 40) = w0 at *
  refine (HVA.out _ _ _ _ H0.out).mono ?_
  rintro e1 w1 ⟨rfl, hb⟩
  have H1 := Lib.hid (H0.out.below hb)
  clear hb H0 HVA
  obtain ⟨x0, x1, x2, -, xl⟩ := H1.out.da.db
  obtain ⟨y0, y1, y2, y3, yl⟩ := H1.out.eb
  have HI1 := Lib.hid (fun W (k : Ab w p q r d X e W) => rindex10_any d X e.fr W k.da.dr)
  have HI2 := Lib.hid (fun W (k : Ab w p q r d X e W) => rindex10_any d X e.to W k.da.dr)
  go_upto_region 11 with (fail)
  clear x0 x1 x2 xl y0 y1 y2 y3 yl
  go_cut [8, 9] (fun s8 s9 wx => s8 = .int .i64 (ixS d.l e.fr) ∧ s9 = .int .i64 (ixS d.l e.to) ∧ Hid (Ab w p q r d X e wx))
  case first =>
    have HK0 := Lib.hid H1.out.k5
    have HP := Lib.hid (H1.out.below (Below.refl _ _).drew)
    have HK := Lib.hid HP.out.k5
    clear H1
    go_region_held3 (fun W => K5 p q d X e W)
      (first | with_reducible exact HK.out | with_reducible exact HK0.out)
      (first
        | (go_at_call 25; (with_reducible refine (HI1.out _ HP.out).mono ?_); rintro e1 w1 ⟨rfl, hb⟩; have HP := Lib.hid (HP.out.below hb); have HK := Lib.hid HP.out.k5; clear hb)
        | (go_at_call 25; (with_reducible refine (HI2.out _ HP.out).mono ?_); rintro e1 w1 ⟨rfl, hb⟩; have HP := Lib.hid (HP.out.below hb); have HK := Lib.hid HP.out.k5; clear hb))
    all_goals
      go_wp2_with fail
      go_meet
      exact ⟨rfl, rfl, HP⟩
  case rest =>
    obtain ⟨rfl, rfl, H2⟩ := hcut
    generalize wc = w2 at *
    go_upto_region 12 with (fail)
    have HP0 := Lib.hid (show Nx w p q r d X e none none none w2 from Nx.start H2.out)
    have HP := Lib.hid HP0.out.drew
    have hwv : wrap64 (d.vn + 1) = d.vn + 1 := IntWalk.wrap64_in _ (by have := HOK.out.rg.1; omega)
    have hwv2 : IntKind.i64.wrap (d.vn + 1) = d.vn + 1 := IntWalk.i64_in _ (by have := HOK.out.rg.1; omega)
    obtain ⟨j0, hi0, hz0⟩ := Option.map_eq_some_iff.1 info_ni
    simp only [Prod.mk.injEq] at hz0
    have HJ := Lib.hid hi0
    have HY := Lib.hid hz0
    clear hi0 hz0
    go_cut [10] (fun s10 wx => ∃ (y : Nat) (A2 : Option Addr) (c2 : Nat), s10 = .pointer (some ⟨y, 0, none⟩) ∧ Hid (Rz w p q r y d X e [] d.F ⟨none, 0, A2, c2⟩ wx))
    case first =>
      have HSK := Lib.hid (fun W' (hb : Below (p + 1) w2 W') => H2.out.k3 hb)
      have HBZ := Lib.hid (Below.refl (p + 1) w2)
      have hpl := H2.out.da.db.lt
      go_region_held3 (fun W => K3 p d X W)
        ((refine HSK.out _ ?_; repeat' (first | with_reducible exact HBZ.out | with_reducible refine dal ?_ ?_ | with_reducible refine dst ?_ ?_ | with_reducible refine ddr ?_ | omega | (simp; omega))))
        (first
          | ((first | (have HV := Lib.hid HP.out; with_reducible refine at_world HV.out ?_) | (have HV := Lib.hid (HP.out.ax 40); with_reducible refine at_world HV.out ?_) | (have HV := Lib.hid (HP0.out.ax 40).drew; with_reducible refine at_world HV.out ?_)); refine step_append_rd _ (by rfl) _ _ _ (by rfl) _ 3 j0 _ 1 8 Try.underlying24 HJ.out HY.out.1 HY.out.2.1 HY.out.2.2 rfl (by omega) (.slice none 0 0) 0 [] (by rfl) (World.ownsRow_nil _ _ _ _) _ X.A2 d.F.length X.c2 (ics d.F) (by rfl) HV.out.ab.da.dr.fl.rd (ics_one _) (by have := HOK.out.rg.2; unfold maxLen; omega) (by have := HOK.out.rg.2; omega) (Nat.le_refl _) ?_; intro v w3 hown hg hat; rw [Nat.zero_add, List.nil_append] at hown; obtain ⟨A2, c2, rfl⟩ := own_form hown; have HP := Lib.hid (HV.out.cf hown (nil_below hg)); have HSK := Lib.hid (fun W' (hb : Below (p + 1) w3 W') => HP.out.ab.k3 hb); have HBZ := Lib.hid (Below.refl (p + 1) w3); have hpl := HP.out.ab.da.db.lt; (try (obtain ⟨⟨b0, b1, b2, bl⟩, g0, g1, g2⟩ := HP.out.xf.1.all; have hxr := HP.out.xf.2; have hrq := HP.out.ab.ne)); clear HV hown hg hat))
      all_goals
        go_wp2_with fail
        go_meet
        (try rw [hwv2])
        first
        | exact ⟨_, A2, c2, rfl, Lib.hid (rz_1 HP.out 40)⟩
        | exact ⟨_, A2, c2, rfl, Lib.hid (rz_2 HP.out)⟩
    case rest =>
      obtain ⟨y, A2, c2, rfl, HZ⟩ := hcut
      generalize wc = w3 at *
      clear HP0 HP H2 HJ HY
      have HGE := Lib.hid (And.intro (ixS_ge d.l e.fr) (ixS_ge d.l e.to))
      by_cases hA : (ixS d.l e.fr < 0 ∨ ixS d.l e.to < 0) ∨ (ixS d.l e.fr - ixS d.l e.to ≠ 1 ∧ ixS d.l e.to - ixS d.l e.fr ≠ 1)
      · have HRE := Lib.hid (show x = 7 ∧ R = zD10 from ⟨HEX.out.1.trans (meE_7 hA), by rw [HEX.out.2, if_neg (by rw [meE_7 hA]; decide)]⟩)
        have hg1 := HGE.out
        have hll := HHL.out
        generalize ixS d.l e.fr = i1 at *
        generalize ixS d.l e.to = i2 at *
        have hd1 : IntKind.i64.wrap (i1 - i2) = i1 - i2 := IntWalk.i64_in _ (by omega)
        have hd2 : IntKind.i64.wrap (i2 - i1) = i2 - i1 := IntWalk.i64_in _ (by omega)
        have hw : i1 < 0 ∨ (0 ≤ i1 ∧ i2 < 0) ∨ (0 ≤ i1 ∧ 0 ≤ i2 ∧ (i1 - i2 != 1) = true ∧ (i2 - i1 != 1) = true) := by
          by_cases q1 : i1 < 0
          · exact .inl q1
          · by_cases q2 : i2 < 0
            · exact .inr (.inl ⟨by omega, q2⟩)
            · exact .inr (.inr ⟨by omega, by omega, bne_iff_ne.2 (by omega), bne_iff_ne.2 (by omega)⟩)
        clear hA HEX hg1 hll HGE
        rcases hw with u1 | ⟨u1, u2⟩ | ⟨u1, u2, u3, u4⟩
        all_goals
          obtain ⟨⟨r0, r1, r2, rl⟩, g0, g1, g2⟩ := HZ.out.ab.rb.all
          obtain ⟨y0, y1, y2, y3, yl⟩ := HZ.out.ab.eb
          have HO := Lib.hid (HZ.out.ab.out0 7)
          go_wp2
          exact bodyPost_ret (v := .tuple #[.agg #[.int .i64 0, .slice none 0 0, .slice none 0 0], .int .i64 7]) (by simp only [results, Try.results22]; go_simp <;> rfl) rfl (by rw [HRE.out.1, HRE.out.2]; exact HO.out)
      · have hfr : 0 ≤ ixS d.l e.fr := by omega
        have hto : 0 ≤ ixS d.l e.to := by omega
        have h10 : meE d e = 0 := meE_0 hfr hto (by omega)
        obtain ⟨i, hi, hil⟩ : ∃ i : Nat, min (ixS d.l e.fr) (ixS d.l e.to) = i ∧ i + 1 < d.l.length := ⟨(min (ixS d.l e.fr) (ixS d.l e.to)).toNat, by omega, by have := HGE.out; omega⟩
        have HRE := Lib.hid (show x = 0 ∧ R = Dd.mk (d.vn + 1) (meL d.l i e) (d.F.set e.fr.toNat e.to) from by
          have h8 : (min (ixS d.l e.fr) (ixS d.l e.to)).toNat = i := by rw [hi]; rfl
          exact ⟨HEX.out.1.trans h10, by rw [HEX.out.2, if_pos h10, h8]⟩)
        have hg1 := HGE.out
        have hll := HHL.out
        have hdd : ixS d.l e.fr - ixS d.l e.to = 1 ∨ (¬ ixS d.l e.fr - ixS d.l e.to = 1 ∧ ixS d.l e.to - ixS d.l e.fr = 1) := by omega
        clear hA HEX h10 HGE
        generalize ixS d.l e.fr = i1 at *
        generalize ixS d.l e.to = i2 at *
        have hd1 : IntKind.i64.wrap (i1 - i2) = i1 - i2 := IntWalk.i64_in _ (by omega)
        have hd2 : IntKind.i64.wrap (i2 - i1) = i2 - i1 := IntWalk.i64_in _ (by omega)
        have hdb : (i1 - i2 != 1) = true := bne_iff_ne.2 HCS.out
        have hdb2 : (i2 - i1 != 1) = false := by
          have h : ¬ i1 - i2 = 1 := HCS.out
          have h2 : i2 - i1 = 1 := by omega
          rw [h2]; rfl
        clear hdd hg1 hll
        obtain ⟨f1, hf1⟩ : ∃ f1, f1 = i + 1 := ⟨_, rfl⟩
        have hil1 : i < d.l.length := by omega
        have hf1l : f1 < d.l.length := by omega
        obtain ⟨b, o, hAb, hbl, c0, -, -⟩ := HZ.out.ab.da.dr.pl.atg hil1
        obtain ⟨b', o', hAb', -, -, c1, -⟩ := HZ.out.ab.da.dr.pl.atg hf1l
        rw [hAb] at hAb'
        injection hAb' with hAb'
        injection hAb' with hb1 hb2
        subst hb1 hb2
        have HME := Lib.hid (show meL d.l i e = (d.l.take i ++ s1m (sg d.l i) (sg d.l f1) e) ++ d.l.drop (f1 + 1) by rw [hf1]; simp [meL, s1m])
        have hwi : IntKind.i64.wrap ((i : Int) + 1) = (f1 : Int) := by rw [IntWalk.i64_in _ (by have := HHL.out; omega), hf1]; rfl
        have hbp : b < w.heap.size := by
          apply Classical.byContradiction
          intro h
          exact (HZ.out.ab.of b (by omega)).o1 _ hAb (by omega) rfl
        have hnn := HZ.out.ab.ne
        have hry := HZ.out.ry
        have HLE := Lib.hid (show p ≤ y ∧ q ≤ y ∧ b ≤ y ∧ p ≠ y ∧ q ≠ y ∧ b ≠ y by omega)
        have hby : b < y := by omega
        have HAB := Lib.hid hAb
        have HF1 := Lib.hid hf1
        have hi0 : (0 : Int) ≤ (i : Int) := by omega
        have hilI : (i : Int) < (d.l.length : Int) := by omega
        have hf0 : (0 : Int) ≤ (f1 : Int) := by omega
        have hflI : (f1 : Int) < (d.l.length : Int) := by omega
        have hlc := HZ.out.ab.da.dr.pl.len
        have hic : i ≤ X.c := by omega
        have hicI : (i : Int) ≤ (X.c : Int) := by omega
        have HI9 := Lib.hid (show i + 1 < d.l.length ∧ d.l.length ≤ 90 from ⟨hil, HHL.out⟩)
        have HPU := Lib.hid (fun W (k : Ab w p q r d X e W) => (k.da.dr.pl.upto (Nat.le_of_lt hil1)))
        generalize sg d.l i = M at *
        generalize sg d.l f1 = N at *
        have HKM3 := Lib.hid (show K9m p q b (o + i * 3) (o + f1 * 3 + 1) d X e M N w3 from ⟨HZ.out.ab.da.k, HZ.out.ab.eb.c1, HZ.out.ab.eb.c2, c0, c1⟩)
        have HP0 := Lib.hid (show Rm w p q r y d X e d.F ⟨none, 0, A2, c2⟩ i M N none none w3 from ⟨HZ.out, by simp, by simp⟩)
        have HP := Lib.hid HP0.out.drew
        obtain ⟨i0, hi0', hz0⟩ := Option.map_eq_some_iff.1 info_sp
        simp only [Prod.mk.injEq] at hz0
        have HI := Lib.hid hi0'
        have HY := Lib.hid hz0
        clear hi0' hz0 hlc c0 c1 hbl hbp hnn hry hAb hf1 hil hfr hto
        obtain ⟨y0, y1, y2, y3, yl⟩ := HZ.out.ab.eb
        go_upto_region 26 with (fail)
        clear hd1 hd2 hi y0 y1 y2 y3 yl
        go_cut [10] (fun s10 wx => s10 = .pointer (some ⟨y, 0, none⟩) ∧ ∃ A c, Hid (Rz w p q r y d X e (d.l.take i ++ s1m M N e) d.F ⟨A, c, A2, c2⟩ wx))
        case first =>
          have HKM := HKM3
          have HSK := Lib.hid (fun W' (hb : Below (y + 1) w3 W') => k9n_of HAB.out (k9m_below HKM.out HLE.out.1 HLE.out.2.1 HLE.out.2.2.1 hb))
          have HSS := Lib.hid (fun W' v (hb : Below (y + 1) w3 W') => k9n_of HAB.out (k9m_set (k9m_below HKM.out HLE.out.1 HLE.out.2.1 HLE.out.2.2.1 hb) HLE.out.2.2.2.1 HLE.out.2.2.2.2.1 HLE.out.2.2.2.2.2 v))
          have HBZ := Lib.hid (Below.refl (y + 1) w3)
          have hyl := HP0.out.rz.xb.lt
          go_region_held3 (fun W => K9n p q b (o + i * 3) (o + f1 * 3 + 1) (some ⟨b, o, none⟩) d X e M N W)
            (first | (with_reducible refine HSS.out _ _ ?_; repeat' (first | with_reducible exact HBZ.out | with_reducible refine dal ?_ ?_ | with_reducible refine ddr ?_ | omega | (simp; omega))) | (refine HSK.out _ ?_; repeat' (first | with_reducible exact HBZ.out | with_reducible refine dal ?_ ?_ | with_reducible refine ddr ?_ | omega | (simp; omega))))
            (first
              | ((first | (have HV := Lib.hid HP.out; with_reducible refine at_rm HV.out ?_) | (have HV := Lib.hid (HP.out.b1 44); with_reducible refine at_rm HV.out ?_) | (have HV := Lib.hid (HP0.out.b1 44).drew; with_reducible refine at_rm HV.out ?_)); refine step_append_rd _ (by rfl) _ _ _ (by rfl) _ 44 i0 _ 3 24 Try.underlying38 HI.out HY.out.1 HY.out.2.1 HY.out.2.2 rfl (by omega) (.slice none 0 0) 0 [] (by rfl) (World.ownsRow_nil _ _ _ _) _ (some ⟨b, o, none⟩) i X.c (scs (d.l.take i)) (by rfl) (by rw [← HAB.out]; exact (HPU.out _ HV.out.rz.ab).rd) (scs_one _) (by have := HI9.out; unfold maxLen; omega) (by have := HI9.out; omega) (Nat.le_refl _) ?_; intro v w6 hown hg hat; rw [Nat.zero_add, List.nil_append] at hown; have HKM := Lib.hid (k9m_below HKM.out HLE.out.1 HLE.out.2.1 HLE.out.2.2.1 (Below.trans (by repeat' (first | with_reducible exact HBZ.out | with_reducible refine dal ?_ ?_ | with_reducible refine ddr ?_ | omega | (simp; omega))) ((nil_below hg).mono (Nat.succ_le_of_lt HV.out.rz.xb.lt)))); have HP := Lib.hid (HV.out.a1 hown (nil_below hg)); have hyl := HP.out.rz.xb.lt; obtain ⟨A1, c1, rfl⟩ := own_form hown; have HSK := Lib.hid (fun W' (hb : Below (y + 1) w6 W') => k9n_of HAB.out (k9m_below HKM.out HLE.out.1 HLE.out.2.1 HLE.out.2.2.1 hb)); have HSS := Lib.hid (fun W' v (hb : Below (y + 1) w6 W') => k9n_of HAB.out (k9m_set (k9m_below HKM.out HLE.out.1 HLE.out.2.1 HLE.out.2.2.1 hb) HLE.out.2.2.2.1 HLE.out.2.2.2.2.1 HLE.out.2.2.2.2.2 v)); have HBZ := Lib.hid (Below.refl (y + 1) w6); clear HV hown hg hat)
              | ((first | (have HV := Lib.hid HP.out; with_reducible refine at_rm HV.out ?_) | (have HV := Lib.hid (HP.out.b1 44); with_reducible refine at_rm HV.out ?_) | (have HV := Lib.hid (HP0.out.b1 44).drew; with_reducible refine at_rm HV.out ?_)); refine step_append_rd _ (by rfl) _ _ _ (by rfl) (r + 1) 44 i0 _ 3 24 Try.underlying38 HI.out HY.out.1 HY.out.2.1 HY.out.2.2 rfl (by omega) (.slice A1 i c1) i (scs (d.l.take i)) (by rfl) (HV.out.fa _ rfl).1 _ _ 1 1 (scs (s1m M N e)) (by rfl) (HV.out.fb _ rfl) (scs_one _) (by have := HI9.out; unfold maxLen; omega) (by have := HI9.out; omega) (Nat.succ_le_of_lt HV.out.rz.ab.rb.lt) ?_; intro v w6 hown hg hat; have HKM := Lib.hid (HV.out.k9g (k9m_below HKM.out HLE.out.1 HLE.out.2.1 HLE.out.2.2.1 (by repeat' (first | with_reducible exact HBZ.out | with_reducible refine dal ?_ ?_ | with_reducible refine ddr ?_ | omega | (simp; omega)))) hby hg); have hyl := Nat.lt_of_lt_of_le HV.out.rz.xb.lt hg.size; have HSK := Lib.hid (fun W' (hb : Below (y + 1) w6 W') => k9n_of HAB.out (k9m_below HKM.out HLE.out.1 HLE.out.2.1 HLE.out.2.2.1 hb)); have HSS := Lib.hid (fun W' v (hb : Below (y + 1) w6 W') => k9n_of HAB.out (k9m_set (k9m_below HKM.out HLE.out.1 HLE.out.2.1 HLE.out.2.2.1 hb) HLE.out.2.2.2.1 HLE.out.2.2.2.2.1 HLE.out.2.2.2.2.2 v)); have HBZ := Lib.hid (Below.refl (y + 1) w6); obtain ⟨A3, c3, rfl, ⟨b1, f2, byl⟩, hrz⟩ := HV.out.app2 (by have := HI9.out; omega) hown hg hat; have HRZ := Lib.hid hrz; clear HV hown hg hat hrz))
          all_goals
            go_wp2_with fail
            go_meet
            exact ⟨rfl, A3, c3, HRZ⟩
        case rest =>
          obtain ⟨rfl, A3, c3, HRZ⟩ := hcut
          generalize wc = w5 at *
          go_upto_region 27 with (fail)
          obtain ⟨L1, hL1⟩ : ∃ L1, L1 = d.l.take i ++ s1m M N e := ⟨_, rfl⟩
          have HL1 := Lib.hid (show L1.length = i + 1 from by rw [hL1]; have := HI9.out; simp [s1m]; omega)
          have HME := Lib.hid (show meL d.l i e = L1 ++ d.l.drop (i + 2) from by rw [HME.out, ← hL1, HF1.out])
          rw [← hL1] at HRZ
          have HD := Lib.hid (HRZ.out.below (Below.refl _ _).drew)
          obtain ⟨x0, x1, x2, -, xl⟩ := HRZ.out.ab.da.db
          obtain ⟨z0, z1, z2, zf, zl⟩ := HRZ.out.xb
          have zf1 := zf 1
          have hwi2 : IntKind.i64.wrap ((i : Int) + 2) = (i : Int) + 2 := IntWalk.i64_in _ (by have := HI9.out; omega)
          have hlc := HRZ.out.ab.da.dr.pl.len
          have hk1 : i + 2 ≤ d.l.length := by have := HI9.out; omega
          have hk1I : (i : Int) + 2 ≤ (d.l.length : Int) := by omega
          have hk2 : i + 2 ≤ X.c := by omega
          have hk2I : (i : Int) + 2 ≤ (X.c : Int) := by omega
          have HFR := Lib.hid (fun W (k : Ab w p q r d X e W) => (k.da.dr.pl.from hk1))
          have hk0 : (0 : Int) ≤ (i : Int) + 2 := by omega
          dsimp only at z1
          clear hL1 x0 x2 z0 z2 zf hlc
          go_cut [10] (fun s10 wx => s10 = .pointer (some ⟨y, 0, none⟩) ∧ ∃ A c, Hid (Rz w p q r y d X e (L1 ++ d.l.drop (i + 2)) d.F ⟨A, c, A2, c2⟩ wx))
          case first =>
            go_region_law (refine step_append_rd _ (by rfl) _ _ _ (by rfl) (r + 1) 44 i0 _ 3 24 Try.underlying38 HI.out HY.out.1 HY.out.2.1 HY.out.2.2 rfl (by omega) (.slice A3 L1.length c3) L1.length (scs L1) (by rfl) HD.out.ol _ _ (d.l.length - (i + 2)) _ (scs (d.l.drop (i + 2))) (by rfl) (HFR.out _ HD.out.ab).rd (scs_one _) (by have := HI9.out; have := HL1.out; unfold maxLen; omega) (by have := HI9.out; have := HL1.out; omega) (Nat.succ_le_of_lt HD.out.ab.rb.lt) ?_; intro v w6 hown hg hat; obtain ⟨A4, c4, rfl, ⟨b1, f2, byl⟩, hrz⟩ := HD.out.app (m := d.l.drop (i + 2)) (by rw [List.length_drop]; exact hown) hg hat; rw [List.length_drop] at hrz; have HRZ2 := Lib.hid hrz; clear hown hg hat hrz)
            all_goals
              go_wp2_with fail
              all_goals
                go_meet
                exact ⟨rfl, A4, c4, HRZ2⟩
          case rest =>
            clear HD HRZ x1 xl z1 zl zf1
            obtain ⟨rfl, A4, c4, HRZ⟩ := hcut
            generalize wc = w7 at *
            obtain ⟨LL, hLL⟩ : ∃ LL, LL = L1 ++ d.l.drop (i + 2) := ⟨_, rfl⟩
            rw [← hLL] at HRZ HME
            clear hLL
            obtain ⟨t, ht⟩ : ∃ t : Nat, e.fr = t := ⟨e.fr.toNat, by omega⟩
            have htn : t < d.F.length := by omega
            have htn' : (t : Int) < (d.F.length : Int) := by omega
            obtain ⟨g2, hg2⟩ := own_addr HRZ.out.of (by omega)
            dsimp only at hg2
            subst hg2
            have HO0 := (HRZ.out.setF (g := g2) rfl t e.to).out 0
            have hls : (d.F.set t e.to).length = d.F.length := List.length_set ..
            dsimp only [dv] at HO0
            rw [hls] at HO0
            have HO := Lib.hid HO0
            obtain ⟨hg2y, hrg2, hry⟩ : g2 ≠ y ∧ r ≠ g2 ∧ r ≠ y := ⟨HRZ.out.d3 g2 rfl, by have := (HRZ.out.of.lt g2 rfl).1; omega, by have := HRZ.out.ry; omega⟩
            have hyg2 : ¬ y = g2 := fun e => hg2y e.symm
            have hg2r : ¬ g2 = r := fun e => hrg2 e.symm
            have hyr : ¬ y = r := fun e => hry e.symm
            have HRF := Lib.hid (show x = 0 ∧ R = Dd.mk (d.vn + 1) LL (d.F.set t e.to) from ⟨HRE.out.1, by rw [HRE.out.2, HME.out, ht]; rfl⟩)
            obtain ⟨z0, z1, z2, zf, zl⟩ := HRZ.out.xb
            obtain ⟨y0, y1, y2, y3, yl⟩ := HRZ.out.ab.eb
            obtain ⟨⟨r0, r1, r2, rl⟩, g0, g1, g3⟩ := HRZ.out.ab.rb.all
            rw [ht] at y1
            dsimp only at z0 z1 z2
            obtain ⟨b', o', hA', -, hc'⟩ := (Fl.of_own HRZ.out.of).atg htn
            injection hA' with hA'
            injection hA' with hA1 hA2
            subst hA1 hA2
            rw [Nat.zero_add] at hc'
            have hfro := HRZ.out.of.frozenAt t
            have hgl := (HRZ.out.of.lt g2 rfl).2
            clear HO0 hls hg2y hg2r
            go_wp2
            exact bodyPost_ret (v := .tuple #[.agg #[.int .i64 (d.vn + 1), .slice A4 LL.length c4, .slice (some ⟨g2, 0, none⟩) d.F.length c2], .int .i64 0]) (by simp only [results, Try.results22]; go_simp <;> rfl) rfl (by rw [HRF.out.1, HRF.out.2]; exact HO.out)

end Go.Proofs.Ytkecnihgjepfeaa
