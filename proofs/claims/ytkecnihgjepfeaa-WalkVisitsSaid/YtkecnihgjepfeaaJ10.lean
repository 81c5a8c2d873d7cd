/- What is proved here: ref10.Apply by a contract (split). -/
import Derived.Test.YtkecnihgjepfeaaJ09
import Derived.Deep.QuietTactic
import Derived.BigQuiet
namespace Go.Proofs.Ytkecnihgjepfeaa
open Go.RowKit
set_option linter.unusedVariables false

set_option maxHeartbeats 16000000 in
set_option maxRecDepth 20000 in
theorem rap_split (d : Dd) (X : Dx) (e : Ed) (w : World) (hd : DR w w.heap.size d X) (hl : d.l.length ≤ 90) (hv : vaD d = 0) (h6 : d.vn ≠ 1099511627776) (hk : e.kd = 1) (hs : slotP d.F.length e.fr ∧ slotP d.F.length e.to) :
    Calls Try.prog 22 #[dv d X, e.v] w (DE w.heap.size w (apD d e) (apE d e)) := by
  have H0 := Lib.hid (Ab.start d X e hd)
  have HVA := Lib.hid (fun p q r W (k : Ab w p q r d X e W) => rvalid10_any d X W k.da.dr)
  have HHL := Lib.hid hl
  obtain ⟨p, hp⟩ : ∃ p, p = w.heap.size := ⟨_, rfl⟩
  obtain ⟨q, hq⟩ : ∃ q, q = w.heap.size + 1 := ⟨_, rfl⟩
  obtain ⟨r, hr⟩ : ∃ r, r = w.heap.size + 1 + 1 := ⟨_, rfl⟩
  have HPP := Lib.hid (show (p = w.heap.size ∧ q = w.heap.size + 1 ∧ r = w.heap.size + 1 + 1) ∧ (¬ p = q ∧ ¬ q = p ∧ ¬ p = r ∧ ¬ r = p ∧ ¬ q = r ∧ ¬ r = q) by omega)
  obtain ⟨R, hR⟩ : ∃ R, R = apD d e := ⟨_, rfl⟩
  obtain ⟨x, hx⟩ : ∃ x, x = apE d e := ⟨_, rfl⟩
  rw [← hR, ← hx]
  have HRX := Lib.hid (And.intro hR hx)
  clear hR hx hp hq hr hd hl
  rw [hv] at HVA
  have h6' : (d.vn == 1099511627776) = false := by simpa using h6
  have HOK := Lib.hid (ok_va hv)
  have HAN := Lib.hid (apN_0 hv h6 (.inl hk) hs.1 hs.2)
  have HSL := Lib.hid hs
  obtain ⟨⟨s0, s1⟩, s2, s3⟩ := hs
  clear h6
  have HEX := Lib.hid (show x = spE d e ∧ R = if spE d e = 0 then Dd.mk (d.vn + 1) (spL d.l (ixS d.l e.fr).toNat e) (d.F.set e.to.toNat (-1)) else zD10 from by
    have h7 : apE d e = spE d e := apE_1 HAN.out hk
    refine ⟨HRX.out.2.trans h7, ?_⟩
    rw [HRX.out.1]
    by_cases h8 : spE d e = 0
    · rw [if_pos h8, apD_1 (by rw [h7]; exact h8) hk]; rfl
    · rw [if_neg h8, apD_no (by rw [h7]; exact h8)])
  have k1 : (e.kd != 1) = false := by simpa using hk
  have k3 : (e.kd == 1) = true := by simpa using hk
  clear hv hk
  go_enter Try.func22, Try.ntmps22
  go_wp2_with fail
  have H0 := Lib.hid (show Ab w p q r d X e (((w.alloc (.cells #[.int .i64 d.vn, .slice X.A d.l.length X.c, .slice X.A2 d.F.length X.c2] 40)).alloc (.cells #[.int .i64 e.kd, .int .i64 e.fr, .int .i64 e.to, .int .i64 e.md] 55)).alloc (.cells #[.int .i64 0, .slice none 0 0, .slice none 0 0] 40)) from by rw [HPP.out.1.1, HPP.out.1.2.1, HPP.out.1.2.2]; exact H0.out)
  rw [← HPP.out.1.2.2, ← HPP.out.1.2.1, ← HPP.out.1.1]
  generalize ((w.alloc (.cells #[.int .i64 d.vn, .slice X.A d.l.length X.c, .slice X.A2 d.F.length X.c2] 40)).alloc (.cells #[.int .i64 e.kd, .int .i64 e.fr, .int .i64 e.to, .int .i64 e.md] 55)).alloc (.cells #[.int .i64 0, .slice none 0 0, .slice none 0 0] 40) = w0 at *
  refine (HVA.out _ _ _ _ H0.out).mono ?_
  rintro e1 w1 ⟨rfl, hb⟩
  have H1 := Lib.hid (H0.out.below hb)
  clear hb H0 HVA
  obtain ⟨x0, x1, x2, -, xl⟩ := H1.out.da.db
  obtain ⟨y0, y1, y2, y3, yl⟩ := H1.out.eb
  have HI1 := Lib.hid (fun W (k : Ab w p q r d X e W) => rindex10_any d X e.fr W k.da.dr)
  have HI2 := Lib.hid (fun W (k : Ab w p q r d X e W) => rindex10_any d X e.to W k.da.dr)
  go_upto_region 11 with (fail)
  clear x0 x1 x2 xl y0 y1 y2 y3 yl
  go_cut [8, 9] (fun s8 s9 wx => s8 = .int .i64 (ixS d.l e.fr) ∧ s9 = .int .i64 (ixS d.l e.to) ∧ Hid (Ab w p q r d X e wx))
  case first =>
    have HK0 := Lib.hid H1.out.k5
    have HP := Lib.hid (H1.out.below (Below.refl _ _).drew)
    have HK := Lib.hid HP.out.k5
    clear H1
    go_region_held3 (fun W => K5 p q d X e W)
      (first | with_reducible exact HK.out | with_reducible exact HK0.out)
      (first
        | (go_at_call 25; (with_reducible refine (HI1.out _ HP.out).mono ?_); rintro e1 w1 ⟨rfl, hb⟩; have HP := Lib.hid (HP.out.below hb); have HK := Lib.hid HP.out.k5; clear hb)
        | (go_at_call 25; (with_reducible refine (HI2.out _ HP.out).mono ?_); rintro e1 w1 ⟨rfl, hb⟩; have HP := Lib.hid (HP.out.below hb); have HK := Lib.hid HP.out.k5; clear hb))
    all_goals
      go_wp2_with fail
      go_meet
      exact ⟨rfl, rfl, HP⟩
  case rest =>
    obtain ⟨rfl, rfl, H2⟩ := hcut
    generalize wc = w2 at *
    go_upto_region 12 with (fail)
    have HP0 := Lib.hid (show Nx w p q r d X e none none none w2 from Nx.start H2.out)
    have HP := Lib.hid HP0.out.drew
    have hwv : wrap64 (d.vn + 1) = d.vn + 1 := IntWalk.wrap64_in _ (by have := HOK.out.rg.1; omega)
    have hwv2 : IntKind.i64.wrap (d.vn + 1) = d.vn + 1 := IntWalk.i64_in _ (by have := HOK.out.rg.1; omega)
    obtain ⟨j0, hi0, hz0⟩ := Option.map_eq_some_iff.1 info_ni
    simp only [Prod.mk.injEq] at hz0
    have HJ := Lib.hid hi0
    have HY := Lib.hid hz0
    clear hi0 hz0
    go_cut [10] (fun s10 wx => ∃ (y : Nat) (A2 : Option Addr) (c2 : Nat), s10 = .pointer (some ⟨y, 0, none⟩) ∧ Hid (Rz w p q r y d X e [] d.F ⟨none, 0, A2, c2⟩ wx))
    case first =>
      have HSK := Lib.hid (fun W' (hb : Below (p + 1) w2 W') => H2.out.k3 hb)
      have HBZ := Lib.hid (Below.refl (p + 1) w2)
      have hpl := H2.out.da.db.lt
      go_region_held3 (fun W => K3 p d X W)
        ((refine HSK.out _ ?_; repeat' (first | with_reducible exact HBZ.out | with_reducible refine dal ?_ ?_ | with_reducible refine dst ?_ ?_ | with_reducible refine ddr ?_ | omega | (simp; omega))))
        (first
          | ((first | (have HV := Lib.hid HP.out; with_reducible refine at_world HV.out ?_) | (have HV := Lib.hid (HP.out.ax 40); with_reducible refine at_world HV.out ?_) | (have HV := Lib.hid (HP0.out.ax 40).drew; with_reducible refine at_world HV.out ?_)); refine step_append_rd _ (by rfl) _ _ _ (by rfl) _ 3 j0 _ 1 8 Try.underlying24 HJ.out HY.out.1 HY.out.2.1 HY.out.2.2 rfl (by omega) (.slice none 0 0) 0 [] (by rfl) (World.ownsRow_nil _ _ _ _) _ X.A2 d.F.length X.c2 (ics d.F) (by rfl) HV.out.ab.da.dr.fl.rd (ics_one _) (by have := HOK.out.rg.2; unfold maxLen; omega) (by have := HOK.out.rg.2; omega) (Nat.le_refl _) ?_; intro v w3 hown hg hat; rw [Nat.zero_add, List.nil_append] at hown; obtain ⟨A2, c2, rfl⟩ := own_form hown; have HP := Lib.hid (HV.out.cf hown (nil_below hg)); have HSK := Lib.hid (fun W' (hb : Below (p + 1) w3 W') => HP.out.ab.k3 hb); have HBZ := Lib.hid (Below.refl (p + 1) w3); have hpl := HP.out.ab.da.db.lt; (try (obtain ⟨⟨b0, b1, b2, bl⟩, g0, g1, g2⟩ := HP.out.xf.1.all; have hxr := HP.out.xf.2; have hrq := HP.out.ab.ne)); clear HV hown hg hat))
      all_goals
        go_wp2_with fail
        go_meet
        (try rw [hwv2])
        first
        | exact ⟨_, A2, c2, rfl, Lib.hid (rz_1 HP.out 40)⟩
        | exact ⟨_, A2, c2, rfl, Lib.hid (rz_2 HP.out)⟩
    case rest =>
      obtain ⟨y, A2, c2, rfl, HZ⟩ := hcut
      generalize wc = w3 at *
      clear HP0 HP H2 HJ HY
      by_cases hA : ixS d.l e.fr < 0 ∨ 0 ≤ ixS d.l e.to
      · have HRE := Lib.hid (show x = 7 ∧ R = zD10 from ⟨HEX.out.1.trans (spE_7 hA), by rw [HEX.out.2, if_neg (by rw [spE_7 hA]; decide)]⟩)
        have hw : ixS d.l e.fr < 0 ∨ (0 ≤ ixS d.l e.fr ∧ 0 ≤ ixS d.l e.to) := by omega
        clear hA HEX
        generalize ixS d.l e.fr = i1 at *
        generalize ixS d.l e.to = i2 at *
        rcases hw with u1 | ⟨u1, u2⟩
        all_goals
          obtain ⟨⟨r0, r1, r2, rl⟩, g0, g1, g2⟩ := HZ.out.ab.rb.all
          obtain ⟨y0, y1, y2, y3, yl⟩ := HZ.out.ab.eb
          have HO := Lib.hid (HZ.out.ab.out0 7)
          go_wp2
          exact bodyPost_ret (v := .tuple #[.agg #[.int .i64 0, .slice none 0 0, .slice none 0 0], .int .i64 7]) (by simp only [results, Try.results22]; go_simp <;> rfl) rfl (by rw [HRE.out.1, HRE.out.2]; exact HO.out)
      · have hfr : 0 ≤ ixS d.l e.fr := by omega
        have hto : ¬ 0 ≤ ixS d.l e.to := by omega
        obtain ⟨i, hi, hil, -, -⟩ := ixS_pos hfr
        have hne := (ixS_neg hto).1
        have HEY := Lib.hid (show (sg d.l i).lo ≤ e.md ∧ e.md < (sg d.l i).hi → x = 0 ∧ R = Dd.mk (d.vn + 1) (spL d.l i e) (d.F.set e.to.toNat (-1)) from fun h => by
          have h9 : spE d e = 0 := spE_0 hfr (by omega) (by rw [hi]; exact h)
          have h8 : (ixS d.l e.fr).toNat = i := by rw [hi]; rfl
          exact ⟨HEX.out.1.trans h9, by rw [HEX.out.2, if_pos h9, h8]⟩)
        have HEN := Lib.hid (show ¬ ((sg d.l i).lo ≤ e.md ∧ e.md < (sg d.l i).hi) → x = 1 ∧ R = zD10 from fun h => by
          have h9 : spE d e = 1 := spE_1 hfr (by omega) (by rw [hi]; exact h)
          exact ⟨HEX.out.1.trans h9, by rw [HEX.out.2, if_neg (by rw [h9]; decide)]⟩)
        rw [hi, hne]
        have hi0 : (0 : Int) ≤ (i : Int) := by omega
        have hilI : (i : Int) < (d.l.length : Int) := by omega
        clear hA hfr hto hi hne HEX
        obtain ⟨b, o, hAb, hbl, c0, c1, c2'⟩ := HZ.out.ab.da.dr.pl.atg hil
        obtain ⟨x0, x1, x2, -, xl⟩ := HZ.out.ab.da.db
        obtain ⟨y0, y1, y2, y3, yl⟩ := HZ.out.ab.eb
        rw [hAb] at x1
        have HSP := Lib.hid (show spL d.l i e = (d.l.take i ++ s12 (sg d.l i) e) ++ d.l.drop (i + 1) by simp [spL, s12])
        have HML := Lib.hid (ok_rng HOK.out hil)
        generalize sg d.l i = M at *
        go_upto_region 17 with (fail)
        clear x0 x1 x2 xl y0 y1 y2 y3 yl c0 c1 c2' hAb hbl
        obtain ⟨u, hu⟩ : ∃ u, u = w3.heap.size := ⟨_, rfl⟩
        have HU := Lib.hid (show (w3.alloc (.cells #[.int .i64 M.lo, .int .i64 M.hi, .int .i64 M.sh] 44)).cell? ⟨u, 0, none⟩ = some (.int .i64 M.lo) ∧ (w3.alloc (.cells #[.int .i64 M.lo, .int .i64 M.hi, .int .i64 M.sh] 44)).cell? ⟨u, 1, none⟩ = some (.int .i64 M.hi) ∧ u < (w3.alloc (.cells #[.int .i64 M.lo, .int .i64 M.hi, .int .i64 M.sh] 44)).heap.size ∧ y < u from by
          rw [hu]
          exact ⟨by simp [go_sem], by simp [go_sem], by simp, HZ.out.xb.lt⟩)
        rw [← hu]
        clear hu
        have HZ := Lib.hid (HZ.out.below ((Below.refl _ _).alloc (Nat.le_refl _) (.cells #[.int .i64 M.lo, .int .i64 M.hi, .int .i64 M.sh] 44)))
        generalize w3.alloc (.cells #[.int .i64 M.lo, .int .i64 M.hi, .int .i64 M.sh] 44) = w4 at *
        obtain ⟨u0, u1, ul, -⟩ := HU.out
        by_cases hm : M.lo ≤ e.md ∧ e.md < M.hi
        · have HRE := Lib.hid (HEY.out hm)
          obtain ⟨m1, m2⟩ := hm
          clear HEY HEN
          obtain ⟨y0, y1, y2, y3, yl⟩ := HZ.out.ab.eb
          go_upto_region 19 with (fail)
          clear u0 u1 ul y0 y1 y2 y3 yl
          have HP0 := Lib.hid (show Rs w p q r y u d X e d.F ⟨none, 0, A2, c2⟩ i M none none w4 from ⟨HZ.out, HU.out.1, HU.out.2.1, HU.out.2.2.1, HU.out.2.2.2, by simp, by simp⟩)
          have HP := Lib.hid HP0.out.drew
          have hwm : wrap64 (e.md + 1) = e.md + 1 := IntWalk.wrap64_in _ (by have := HML.out; omega)
          have hwm2 : IntKind.i64.wrap (e.md + 1) = e.md + 1 := IntWalk.i64_in _ (by have := HML.out; omega)
          have hlc := HZ.out.ab.da.dr.pl.len
          have hic : i ≤ X.c := by omega
          have hicI : (i : Int) ≤ (X.c : Int) := by omega
          have hi90 : i ≤ 90 ∧ d.l.length ≤ 90 := by have := HHL.out; omega
          have HI9 := Lib.hid (And.intro hil hi90)
          have HPU := Lib.hid (fun W (k : Ab w p q r d X e W) => (k.da.dr.pl.upto (Nat.le_of_lt hil)))
          obtain ⟨i0, hi0', hz0⟩ := Option.map_eq_some_iff.1 info_sp
          simp only [Prod.mk.injEq] at hz0
          have HI := Lib.hid hi0'
          have HY := Lib.hid hz0
          clear hi0' hz0 hlc hi90 HU HZ
          go_cut [10] (fun s10 wx => s10 = .pointer (some ⟨y, 0, none⟩) ∧ ∃ A c, Hid (Rz w p q r y d X e (d.l.take i ++ s12 M e) d.F ⟨A, c, A2, c2⟩ wx))
          case first =>
            have HSK := Lib.hid (fun W' (hb : Below (u + 1) w4 W') => HP0.out.k9 hb)
            have HSS := Lib.hid (fun W' v (hb : Below (u + 1) w4 W') => HP0.out.k9s hb v)
            have HBZ := Lib.hid (Below.refl (u + 1) w4)
            have hul := HP0.out.ul
            go_region_held3 (fun W => K9 p q u d X e M W)
              (first | (with_reducible refine HSS.out _ _ ?_; repeat' (first | with_reducible exact HBZ.out | with_reducible refine dal ?_ ?_ | with_reducible refine ddr ?_ | omega | (simp; omega))) | (refine HSK.out _ ?_; repeat' (first | with_reducible exact HBZ.out | with_reducible refine dal ?_ ?_ | with_reducible refine ddr ?_ | omega | (simp; omega))))
              (first
                | ((first | (have HV := Lib.hid HP.out; with_reducible refine at_rs HV.out ?_) | (have HV := Lib.hid (HP.out.b1 44); with_reducible refine at_rs HV.out ?_) | (have HV := Lib.hid (HP0.out.b1 44).drew; with_reducible refine at_rs HV.out ?_)); refine step_append_rd _ (by rfl) _ _ _ (by rfl) _ 44 i0 _ 3 24 Try.underlying38 HI.out HY.out.1 HY.out.2.1 HY.out.2.2 rfl (by omega) (.slice none 0 0) 0 [] (by rfl) (World.ownsRow_nil _ _ _ _) _ X.A i X.c (scs (d.l.take i)) (by rfl) (HPU.out _ HV.out.rz.ab).rd (scs_one _) (by have := HI9.out; unfold maxLen; omega) (by have := HI9.out; omega) (Nat.le_refl _) ?_; intro v w6 hown hg hat; rw [Nat.zero_add, List.nil_append] at hown; have HP := Lib.hid (HV.out.a1 hown (nil_below hg)); obtain ⟨A1, c1, rfl⟩ := own_form hown; have HSK := Lib.hid (fun W' (hb : Below (u + 1) w6 W') => HP.out.k9 hb); have HSS := Lib.hid (fun W' v (hb : Below (u + 1) w6 W') => HP.out.k9s hb v); have HBZ := Lib.hid (Below.refl (u + 1) w6); have hul := HP.out.ul; clear HV hown hg hat)
                | ((first | (have HV := Lib.hid HP.out; with_reducible refine at_rs HV.out ?_) | (have HV := Lib.hid (HP.out.b1 44); with_reducible refine at_rs HV.out ?_) | (have HV := Lib.hid (HP0.out.b1 44).drew; with_reducible refine at_rs HV.out ?_)); refine step_append_rd _ (by rfl) _ _ _ (by rfl) (r + 1) 44 i0 _ 3 24 Try.underlying38 HI.out HY.out.1 HY.out.2.1 HY.out.2.2 rfl (by omega) (.slice A1 i c1) i (scs (d.l.take i)) (by rfl) (HV.out.fa _ rfl).1 _ _ 2 2 (scs (s12 M e)) (by rfl) (HV.out.fb _ rfl) (scs_one _) (by have := HI9.out; unfold maxLen; omega) (by have := HI9.out; omega) (Nat.succ_le_of_lt HV.out.rz.ab.rb.lt) ?_; intro v w6 hown hg hat; have HSK := Lib.hid (fun W' (hb : Below (u + 1) w6 W') => HV.out.k9g hg hb); have HSS := Lib.hid (fun W' v (hb : Below (u + 1) w6 W') => HV.out.k9gs hg v hb); have HBZ := Lib.hid (Below.refl (u + 1) w6); have hul := Nat.lt_of_lt_of_le HV.out.ul hg.size; obtain ⟨A3, c3, rfl, ⟨b1, f1, byl⟩, hrz, hcap⟩ := HV.out.app2 (by have := HI9.out; omega) hown hg hat; have HRZ := Lib.hid hrz; clear HV hown hg hat hrz))
            all_goals
              go_wp2_with fail
              go_meet
              exact ⟨rfl, A3, c3, HRZ⟩
          case rest =>
            obtain ⟨rfl, A3, c3, HRZ⟩ := hcut
            generalize wc = w5 at *
            go_upto_region 20 with (fail)
            obtain ⟨L1, hL1⟩ : ∃ L1, L1 = d.l.take i ++ s12 M e := ⟨_, rfl⟩
            have HL1 := Lib.hid (show L1.length = i + 2 from by rw [hL1]; have := HI9.out; simp [s12]; omega)
            rw [← hL1] at HRZ HSP
            have HD := Lib.hid (HRZ.out.below (Below.refl _ _).drew)
            obtain ⟨x0, x1, x2, -, xl⟩ := HRZ.out.ab.da.db
            obtain ⟨z0, z1, z2, zf, zl⟩ := HRZ.out.xb
            have zf1 := zf 1
            have hwi : IntKind.i64.wrap ((i : Int) + 1) = (i : Int) + 1 := IntWalk.i64_in _ (by have := HI9.out; omega)
            have hlc := HRZ.out.ab.da.dr.pl.len
            have hk1 : i + 1 ≤ d.l.length := by omega
            have hk1I : (i : Int) + 1 ≤ (d.l.length : Int) := by omega
            have hk2 : i + 1 ≤ X.c := by omega
            have hk2I : (i : Int) + 1 ≤ (X.c : Int) := by omega
            have HFR := Lib.hid (fun W (k : Ab w p q r d X e W) => (k.da.dr.pl.from hk1))
            have hk0 : (0 : Int) ≤ (i : Int) + 1 := by omega
            dsimp only at z1
            clear hL1 x0 x2 z0 z2 zf hlc
            go_cut [10] (fun s10 wx => s10 = .pointer (some ⟨y, 0, none⟩) ∧ ∃ A c, Hid (Rz w p q r y d X e (L1 ++ d.l.drop (i + 1)) d.F ⟨A, c, A2, c2⟩ wx))
            case first =>
              go_region_law (refine step_append_rd _ (by rfl) _ _ _ (by rfl) (r + 1) 44 i0 _ 3 24 Try.underlying38 HI.out HY.out.1 HY.out.2.1 HY.out.2.2 rfl (by omega) (.slice A3 L1.length c3) L1.length (scs L1) (by rfl) HD.out.ol _ _ (d.l.length - (i + 1)) _ (scs (d.l.drop (i + 1))) (by rfl) (HFR.out _ HD.out.ab).rd (scs_one _) (by have := HI9.out; have := HL1.out; unfold maxLen; omega) (by have := HI9.out; have := HL1.out; omega) (Nat.succ_le_of_lt HD.out.ab.rb.lt) ?_; intro v w6 hown hg hat; obtain ⟨A4, c4, rfl, ⟨b1, f1, byl⟩, hrz⟩ := HD.out.app (m := d.l.drop (i + 1)) (by rw [List.length_drop]; exact hown) hg hat; rw [List.length_drop] at hrz; have HRZ2 := Lib.hid hrz; clear hown hg hat hrz)
              all_goals
                go_wp2_with fail
                all_goals
                  go_meet
                  exact ⟨rfl, A4, c4, HRZ2⟩
            case rest =>
              clear HD HRZ x1 xl z1 zl zf1
              obtain ⟨rfl, A4, c4, HRZ⟩ := hcut
              generalize wc = w7 at *
              obtain ⟨LL, hLL⟩ : ∃ LL, LL = L1 ++ d.l.drop (i + 1) := ⟨_, rfl⟩
              rw [← hLL] at HRZ HSP
              clear hLL
              obtain ⟨t, ht⟩ : ∃ t : Nat, e.to = t := ⟨e.to.toNat, by omega⟩
              have htn : t < d.F.length := by omega
              have htn' : (t : Int) < (d.F.length : Int) := by omega
              obtain ⟨g2, hg2⟩ := own_addr HRZ.out.of (by omega)
              dsimp only at hg2
              subst hg2
              have HO0 := (HRZ.out.setF (g := g2) rfl t (-1)).out 0
              have hls : (d.F.set t (-1)).length = d.F.length := List.length_set ..
              dsimp only [dv] at HO0
              rw [hls] at HO0
              have HO := Lib.hid HO0
              obtain ⟨hg2y, hrg2, hry⟩ : g2 ≠ y ∧ r ≠ g2 ∧ r ≠ y := ⟨HRZ.out.d3 g2 rfl, by have := (HRZ.out.of.lt g2 rfl).1; omega, by have := HRZ.out.ry; omega⟩
              have hyg2 : ¬ y = g2 := fun e => hg2y e.symm
              have hg2r : ¬ g2 = r := fun e => hrg2 e.symm
              have hyr : ¬ y = r := fun e => hry e.symm
              have HRF := Lib.hid (show x = 0 ∧ R = Dd.mk (d.vn + 1) LL (d.F.set t (-1)) from ⟨HRE.out.1, by rw [HRE.out.2, HSP.out, ht]; rfl⟩)
              obtain ⟨z0, z1, z2, zf, zl⟩ := HRZ.out.xb
              obtain ⟨y0, y1, y2, y3, yl⟩ := HRZ.out.ab.eb
              obtain ⟨⟨r0, r1, r2, rl⟩, g0, g1, g3⟩ := HRZ.out.ab.rb.all
              rw [ht] at y2
              dsimp only at z0 z1 z2
              obtain ⟨b', o', hA', -, hc'⟩ := (Fl.of_own HRZ.out.of).atg htn
              injection hA' with hA'
              injection hA' with hA1 hA2
              subst hA1 hA2
              rw [Nat.zero_add] at hc'
              have hfro := HRZ.out.of.frozenAt t
              have hgl := (HRZ.out.of.lt g2 rfl).2
              clear HO0 hls hg2y hg2r
              go_wp2
              exact bodyPost_ret (v := .tuple #[.agg #[.int .i64 (d.vn + 1), .slice A4 LL.length c4, .slice (some ⟨g2, 0, none⟩) d.F.length c2], .int .i64 0]) (by simp only [results, Try.results22]; go_simp <;> rfl) rfl (by rw [HRF.out.1, HRF.out.2]; exact HO.out)
        · have HRE := Lib.hid (HEN.out hm)
          have hw : e.md < M.lo ∨ (M.lo ≤ e.md ∧ M.hi ≤ e.md) := by omega
          clear hm HEY HEN
          rcases hw with m1 | ⟨m1, m2⟩
          all_goals
            obtain ⟨⟨r0, r1, r2, rl⟩, g0, g1, g2⟩ := HZ.out.ab.rb.all
            obtain ⟨y0, y1, y2, y3, yl⟩ := HZ.out.ab.eb
            have HO := Lib.hid (HZ.out.ab.out0 1)
            go_wp2
            exact bodyPost_ret (v := .tuple #[.agg #[.int .i64 0, .slice none 0 0, .slice none 0 0], .int .i64 1]) (by simp only [results, Try.results22]; go_simp <;> rfl) rfl (by rw [HRE.out.1, HRE.out.2]; exact HO.out)

end Go.Proofs.Ytkecnihgjepfeaa
