/- What is proved here: shardqueuelaw14.SnapshotHolds returns true for every input and leaves its arguments as they were. No condition. -/
import Derived.Test.YtijpflljopckiaaJ36
import Derived.Test.YtijpflljopckiaaJ22
import Derived.ProofKit
import Derived.OpenShut
import Derived.ChangeOld
import Derived.Deep.DeepCutAuto
import Derived.Deep.RegionHeld3
namespace Go.Proofs.Ytijpflljopckiaa
open Go.RowKit
set_option linter.unusedVariables false

theorem own_su14h : (nwA su14).ep = 0 ∧ (nwA su14).ck = 0 ∧ (nwA su14).Few := by
  have h := nw_words su14_ok.1
  exact ⟨h.1, h.2.1, few_nw su14_ok.1⟩
set_option maxHeartbeats 8000000 in
set_option maxRecDepth 20000 in
theorem SnapshotHolds_walk (w : World) (a1 : Option Addr) (l1 c1 : Nat) (zs : List Int) (hz : Ns w w.heap.size (.slice a1 l1 c1) zs) :
    Calls Try.prog 3 #[.slice a1 l1 c1] w fun e w' => e = .returned (.bool true) ∧ Below w.heap.size w w' := by
  have HAW := Lib.hid (fun W => awake14_any W)
  have HNS := Lib.hid (new_src a1 l1 c1 zs w hz)
  have HN := Lib.hid (fun W => anew_any su14 W)
  rw [su14_ok.2.1] at HN
  obtain ⟨A0, hA0⟩ : ∃ A, A = nwA su14 := ⟨_, rfl⟩
  have HO := Lib.hid own_su14h
  rw [← hA0] at HN HO
  clear hz hA0
  go_enter Try.func3, Try.ntmps3
  go_wp2_with fail
  refine HNS.out.mono ?_
  rintro e w2 ⟨g, rfl, hs, hb⟩
  have HS := Lib.hid hs
  have HB := Lib.hid hb
  clear hs hb HNS
  go_wp2_with fail
  refine (HN.out _).mono ?_
  rintro e w1 ⟨Y0, rfl, hn, hr, hb⟩
  have H1 := Lib.hid (Aw12.start (w := w) (HB.out.trans (hb.mono HB.out.size)) hr)
  have HOP := Lib.hid (hr.offs (Nat.le_refl _))
  have HG := Lib.hid (show AOff A0 Y0 g ∧ g < w1.heap.size from ⟨hn.off HS.out.2.1, Nat.lt_of_lt_of_le HS.out.2.1 hb.size⟩)
  have HS1 := Lib.hid ((HS.out.below hb).below ((Below.refl w1.heap.size w1).alloc (Nat.le_refl _) (.cells #[.slice Y0.A A0.sl.length Y0.c, .slice Y0.A2 A0.st.length Y0.c2, .int .i64 A0.ow, .int .i64 A0.cap, .slice Y0.A3 A0.dl.length Y0.c3, .int .i64 A0.dir.vn, .slice Y0.D.A A0.dir.l.length Y0.D.c, .slice Y0.D.A2 A0.dir.F.length Y0.D.c2, .int .i64 A0.ep, .int .i64 A0.ck, .int .i64 A0.ni] 36)))
  clear hn hr hb HN HS HB
  go_upto_region 3 with (fail)
  obtain ⟨p, hp⟩ : ∃ p, p = w1.heap.size := ⟨_, rfl⟩
  rw [← hp] at H1 HOP HG ⊢
  clear hp
  generalize w1.alloc (.cells #[.slice Y0.A A0.sl.length Y0.c, .slice Y0.A2 A0.st.length Y0.c2, .int .i64 A0.ow, .int .i64 A0.cap, .slice Y0.A3 A0.dl.length Y0.c3, .int .i64 A0.dir.vn, .slice Y0.D.A A0.dir.l.length Y0.D.c, .slice Y0.D.A2 A0.dir.F.length Y0.D.c2, .int .i64 A0.ep, .int .i64 A0.ck, .int .i64 A0.ni] 36) = w3 at *
  go_wp2_with fail
  refine (nnew_any _).mono ?_
  rintro e w4 ⟨rfl, hb⟩
  have HNA := Lib.hid (show Na14 w p w4.heap.size A0 Y0 zSn (w4.alloc (.cells #[.int .i64 zSn.ph, .int .i64 zSn.ep, .int .i64 zSn.ck, .int .i64 zSn.sp] 43)) from H1.out.snap (bal hb (.cells #[.int .i64 zSn.ph, .int .i64 zSn.ep, .int .i64 zSn.ck, .int .i64 zSn.sp] 43)) (NB.start w4 zSn 43) hb.size HOP.out)
  have HS := Lib.hid (HS1.out.below (bal hb (.cells #[.int .i64 zSn.ph, .int .i64 zSn.ep, .int .i64 zSn.ck, .int .i64 zSn.sp] 43)))
  have HPQ := Lib.hid (show p < w4.heap.size from Nat.lt_of_lt_of_le H1.out.qb.lt hb.size)
  clear hb H1 HOP HS1
  go_upto_region 6 with (fail)
  obtain ⟨q, hq⟩ : ∃ p, p = w4.heap.size := ⟨_, rfl⟩
  rw [← hq] at HNA HPQ ⊢
  clear hq
  generalize w4.alloc (.cells #[.int .i64 zSn.ph, .int .i64 zSn.ep, .int .i64 zSn.ck, .int .i64 zSn.sp] 43) = w5 at *
  go_upto_region 7 with (fail)
  have HNH := Lib.hid (show Nh14 w g p q w5.heap.size (w5.heap.size + 1) A0 Y0 zSn (fun _ => 0) (fun _ => 0) ((w5.alloc (.cells Z41 45)).alloc (.cells Z41 45)) from Nh14.start HS.out HNA.out HG.out.1 HG.out.2 HPQ.out 45)
  clear HS HNA HG HPQ
  try rw [sz41]
  change Code.wp _ _ _ _ ((w5.alloc (.cells Z41 45)).alloc (.cells Z41 45))
  obtain ⟨c, hc⟩ : ∃ c, c = w5.heap.size + 1 := ⟨_, rfl⟩
  rw [← hc] at HNH ⊢
  clear hc
  obtain ⟨b, hb⟩ : ∃ b, b = w5.heap.size := ⟨_, rfl⟩
  rw [← hb] at HNH ⊢
  clear hb
  generalize (w5.alloc (.cells Z41 45)).alloc (.cells Z41 45) = w6 at *
  go_wp2_with fail
  go_loopw [9] (fun iv wr => ∃ (n : Nat) (a : Ar) (Y : Ax) (x : Sn) (F G : Nat → Int), iv = .int .i64 (n : Int) ∧ 1 ≤ n ∧ n ≤ 41 ∧ Hid (Hs14 n a.ep a.ck x F G ∧ a.Few ∧ Nh14 w g p q b c a Y x F G wr)) (fun iv _ => 41 - (intOf iv).toNat)
  case atStart => exact ⟨1, A0, Y0, zSn, _, _, rfl, by omega, by omega, Lib.hid ⟨⟨by rw [HO.out.1, HO.out.2.1]; omega, .inl rfl⟩, HO.out.2.2, HNH.out⟩⟩
  case round =>
    clear HNH HO
    obtain ⟨n, a, Y, ⟨ph, ep, ck, sp⟩, F, G, rfl, hn1, hn41, H⟩ := hrel
    have HST := Lib.hid H.out.1
    have HFW := Lib.hid H.out.2.1
    have HNH := Lib.hid H.out.2.2
    have HNN := Lib.hid (And.intro hn1 hn41)
    clear H hn1 hn41
    go_upto_region 8 with (fail)
    go_cut [28] (fun s28 wx => ∃ bb : Bool, s28 = .bool bb ∧ (bb = true ↔ n ≤ 40 ∧ ph ≠ 3) ∧ Hid (Nh14 w g p q b c a Y ⟨ph, ep, ck, sp⟩ F G wx))
    case first =>
      obtain ⟨p0, p1, p2, p3⟩ := HNH.out.na.nb.k
      have pl := HNH.out.na.nb.lt
      simp only at p0 p1 p2 p3
      by_cases h40 : n ≤ 40
      · have h40' : (n : Int) ≤ 40 := by omega
        by_cases h3 : ph = 3
        · have hb3 : (ph != 3) = false := by simp [h3]
          go_wp2_with fail
          go_meet
          exact ⟨false, rfl, by simp [h3], HNH⟩
        · have hb3 : (ph != 3) = true := bne_iff_ne.2 h3
          go_wp2_with fail
          go_meet
          exact ⟨true, rfl, by simp [h3, h40], HNH⟩
      · have h40' : ¬ (n : Int) ≤ 40 := by omega
        go_wp2_with fail
        go_meet
        exact ⟨false, rfl, by simp [h40], HNH⟩
    case rest =>
      clear HNH
      obtain ⟨bb, rfl, hbb, HNH⟩ := hcut
      cases bb with
      | false =>
        clear hbb
        obtain ⟨p0, p1, p2, p3⟩ := HNH.out.na.nb.k
        have pl := HNH.out.na.nb.lt
        simp only at p0 p1 p2 p3
        by_cases h3 : ph = 3
        · have hb3 : (ph != 3) = false := by simp [h3]
          obtain ⟨k, e1, e2, e3, e4, e5⟩ := HST.out.done h3
          simp only at e1 e4 e5
          subst e1 e4 e5
          have HK := Lib.hid (And.intro e2 e3)
          clear e2 e3
          have h1' : (k : Int) ≥ 1 := by have := HK.out; omega
          have h1'' : (1 : Int) ≤ (k : Int) := by have := HK.out; omega
          have h40' : (k : Int) ≤ 40 := by have := HK.out; have := HNN.out; omega
          have hk0 : (0 : Int) ≤ (k : Int) := by omega
          have hk41 : (k : Int) < 41 := by omega
          have hk41' : k < 41 := by omega
          have eb := HNH.out.eb.c k hk41'
          have cb := HNH.out.cb.c k hk41'
          have el := HNH.out.eb.lt
          have cl := HNH.out.cb.lt
          have HSK := Lib.hid (show ∀ W, Below wc.heap.size wc W → (K4n W q ⟨ph, F k, G k, (k : Int)⟩ ∧ W.cell? ⟨b, k, none⟩ = some (.int .i64 (F k)) ∧ W.cell? ⟨c, k, none⟩ = some (.int .i64 (G k))) from fun W h => ⟨(HNH.out.na.nb.up h).k, (HNH.out.eb.up h).c k hk41', (HNH.out.cb.up h).c k hk41'⟩)
          have HB0 := Lib.hid (Below.refl wc.heap.size wc)
          have hee : (F k == F k) = true := by simp
          have hgg : (G k == G k) = true := by simp
          clear h3 HST HFW
          go_upto_region 23 with (fail)
          clear p0 p1 p2 p3 pl eb cb el cl hb3
          go_region_held3 (fun W => (K4n W q ⟨ph, F k, G k, (k : Int)⟩ ∧ W.cell? ⟨b, k, none⟩ = some (.int .i64 (F k)) ∧ W.cell? ⟨c, k, none⟩ = some (.int .i64 (G k))))
            ((refine HSK.out _ ?_; repeat' (first | with_reducible exact HB0.out | with_reducible exact HB4.out | with_reducible refine bdr ?_ | exact Nat.le_refl _ | (simp; done) | (simp; omega))))
            ((go_at_call 14; refine (HAW.out _).mono ?_; rintro e w4 ⟨rfl, hb⟩; (first | (have HB4 := Lib.hid ((Below.refl wc.heap.size wc).drew.trans hb)) | (have HB4 := Lib.hid hb)); clear hb))
          all_goals
            have HF := Lib.hid (HNH.out.below HB4.out).na.bel
            clear HNH HSK HB0 HB4
            go_wp2
            go_ret
            exact ⟨rfl, HF.out⟩
        · have hb3 : (ph != 3) = true := bne_iff_ne.2 h3
          obtain ⟨hs1, hs2⟩ := HST.out.small h3
          simp only at hs1 hs2
          clear h3 HST HFW
          go_wp2_with fail
          refine (HAW.out _).mono ?_
          rintro e x1 ⟨rfl, hb⟩
          have HF := Lib.hid (HNH.out.below hb).na.bel
          clear hb HNH
          go_wp2
          go_ret
          exact ⟨rfl, HF.out⟩
      | true =>
        obtain ⟨h40, h3⟩ := hbb.1 rfl
        clear hbb
        obtain ⟨hE, hst⟩ := HST.out.step HNN.out.1 h3
        have HX := Lib.hid (fun W => nstep_any a Y ph ep ck sp (n : Int) W)
        rw [hE] at HX
        obtain ⟨R, hR⟩ : ∃ R, R = nsN a.ep a.ck ⟨ph, ep, ck, sp⟩ (n : Int) := ⟨_, rfl⟩
        rw [← hR] at HX hst
        have HST2 := Lib.hid hst
        have HB := Lib.hid HST.out.b
        clear hst hE hR h3 HST
        have hwn : IntKind.i64.wrap ((n : Int) + 1) = (n : Int) + 1 := IntWalk.i64_in _ (by omega)
        have hn0 : (0 : Int) ≤ (n : Int) := by omega
        have hn41 : (n : Int) < 41 := by omega
        have hn41' : n < 41 := by omega
        have HNH2 := Lib.hid (HNH.out.put2 hn41' a.ep a.ck)
        have y8 := HNH.out.na.qb.k.2.2.2.2.2.2.2.2.1
        have y9 := HNH.out.na.qb.k.2.2.2.2.2.2.2.2.2.1
        have yl := HNH.out.na.qb.lt
        have eb := HNH.out.eb.c n hn41'
        have cb := HNH.out.cb.c n hn41'
        have el := HNH.out.eb.lt
        have cl := HNH.out.cb.lt
        have fe := HNH.out.eb.fr n
        have fc := HNH.out.cb.fr n
        have nbc : ¬ b = c := HNH.out.ne.2.2.2.2
        have ncb : ¬ c = b := fun e => nbc e.symm
        have npb : ¬ p = b := HNH.out.ne.2.2.1.1
        have nbp : ¬ b = p := fun e => npb e.symm
        have npc : ¬ p = c := HNH.out.ne.2.2.1.2
        have ncp : ¬ c = p := fun e => npc e.symm
        have HN40 := Lib.hid h40
        clear HNH hn41' h40
        go_wp2_with fail
        go_region
        have HNH := Lib.hid (HNH2.out.below (Below.refl _ _).drew)
        clear HNH2 y8 y9 yl eb cb el cl fe fc nbc ncb npb nbp npc ncp hn0 hn41
        generalize ((wc.setCell ⟨b, n, none⟩ (.int .i64 a.ep)).setCell ⟨c, n, none⟩ (.int .i64 a.ck)).drew = x1 at *
        generalize upd14 F n a.ep = F1 at *
        generalize upd14 G n a.ck = G1 at *
        obtain ⟨y0, y1, y2, y3, y4, y5, y6, y7, y8, y9, y10⟩ := HNH.out.na.qb.k
        have yl := HNH.out.na.qb.lt
        obtain ⟨p0, p1, p2, p3⟩ := HNH.out.na.nb.k
        have pl := HNH.out.na.nb.lt
        simp only at p0 p1 p2 p3
        go_wp2_with fail
        clear y0 y1 y2 y3 y4 y5 y6 y7 y8 y9 y10 yl p0 p1 p2 p3 pl
        refine (HX.out _).mono ?_
        rintro e x2 ⟨rfl, hb⟩
        have HQ1 := Lib.hid (Nat.lt_of_lt_of_le HNH.out.na.nb.lt hb.size)
        have HR := Lib.hid (NB.start x2 R 43)
        replace HNH := Lib.hid ((HNH.out.below hb).below ((Below.refl x2.heap.size x2).alloc (Nat.le_refl _) (.cells #[.int .i64 R.ph, .int .i64 R.ep, .int .i64 R.ck, .int .i64 R.sp] 43)))
        clear hb HX
        go_upto_region 12 with (fail)
        obtain ⟨r, hr⟩ : ∃ p, p = x2.heap.size := ⟨_, rfl⟩
        rw [← hr] at HR HQ1 ⊢
        clear hr
        generalize x2.alloc (.cells #[.int .i64 R.ph, .int .i64 R.ep, .int .i64 R.ck, .int .i64 R.sp] 43) = x3 at *
        have HNH2 := Lib.hid (show Nh14 w g p q b c a Y R F1 G1 ((((x3.setCell ⟨q, 0, none⟩ (.int .i64 R.ph)).setCell ⟨q, 1, none⟩ (.int .i64 R.ep)).setCell ⟨q, 2, none⟩ (.int .i64 R.ck)).setCell ⟨q, 3, none⟩ (.int .i64 R.sp)) from HNH.out.snap R)
        obtain ⟨p0, p1, p2, p3⟩ := HNH.out.na.nb.k
        have pl := HNH.out.na.nb.lt
        obtain ⟨f0, f1, f2, f3⟩ := HNH.out.na.nb.free
        obtain ⟨r0, r1, r2, r3⟩ := HR.out.k
        have rl := HR.out.lt
        have hqr : ¬ q = r := by have := HQ1.out; omega
        have hrq : ¬ r = q := fun e => hqr e.symm
        go_upto_region 15 with (fail)
        clear p0 p1 p2 p3 pl f0 f1 f2 f3 r0 r1 r2 r3 rl hqr hrq HQ1 HR HNH
        have HNH := Lib.hid HNH2.out
        clear HNH2
        generalize (((x3.setCell ⟨q, 0, none⟩ (.int .i64 R.ph)).setCell ⟨q, 1, none⟩ (.int .i64 R.ep)).setCell ⟨q, 2, none⟩ (.int .i64 R.ck)).setCell ⟨q, 3, none⟩ (.int .i64 R.sp) = x4 at *
        go_wp2_with fail
        refine (n_any w.heap.size g _ HNH.out.src 3 (by omega) (by omega)).mono ?_
        rintro e x5 ⟨ki, rfl, -, -, hs, hg⟩
        replace HNH := Lib.hid (HNH.out.turn hs hg)
        clear hs hg
        go_upto_if 51 with (fail)
        go_cut [11] (fun s11 wx => ∃ (a' : Ar) (Y' : Ax), s11 = .int .i64 0 ∧ Hid ((a.ep ≤ a'.ep ∧ a'.ep ≤ a.ep + 1 ∧ a'.ck = a.ck) ∧ a'.Few ∧ Nh14 w g p q b c a' Y' R F1 G1 wx))
        case first =>
          by_cases hk : ki = 1
          · have hkb : (ki == 1) = true := by simp [hk]
            have HC := Lib.hid (fun W (h : AR W W.heap.size a Y) => acas_any a Y a.ep (a.ep + 1) W h HFW.out (by have := HB.out; omega) (by have := HB.out; have := HN40.out; omega))
            rw [if_pos rfl, decide_eq_true rfl] at HC
            have hwe : IntKind.i64.wrap (a.ep + 1) = a.ep + 1 := IntWalk.i64_in _ (by have := HB.out; have := HN40.out; omega)
            obtain ⟨B, hB⟩ : ∃ B, B = a.words (a.ep + 1) a.ck a.ni := ⟨_, rfl⟩
            rw [← hB] at HC
            have HBB := Lib.hid (show (a.ep ≤ B.ep ∧ B.ep ≤ a.ep + 1 ∧ B.ck = a.ck) ∧ B.Few from by rw [hB]; exact ⟨⟨by show a.ep ≤ a.ep + 1; omega, Int.le_refl _, rfl⟩, HFW.out.words _ _ _⟩)
            obtain ⟨y0, y1, y2, y3, y4, y5, y6, y7, y8, y9, y10⟩ := HNH.out.na.qb.k
            have yl := HNH.out.na.qb.lt
            clear hB hk
            go_wp2_with fail
            clear y0 y1 y2 y3 y4 y5 y6 y7 y8 y9 y10 yl hkb
            refine (HC.out _ HNH.out.na.ar).mono ?_
            rintro e x6 ⟨Z, rfl, hn, hr, hb⟩
            have HM := Lib.hid (show Nh14 w g p q b c B Z R F1 G1 (((((((((((x6.setCell ⟨p, 0, none⟩ (.slice Z.A B.sl.length Z.c)).setCell ⟨p, 1, none⟩ (.slice Z.A2 B.st.length Z.c2)).setCell ⟨p, 2, none⟩ (.int .i64 B.ow)).setCell ⟨p, 3, none⟩ (.int .i64 B.cap)).setCell ⟨p, 4, none⟩ (.slice Z.A3 B.dl.length Z.c3)).setCell ⟨p, 5, none⟩ (.int .i64 B.dir.vn)).setCell ⟨p, 6, none⟩ (.slice Z.D.A B.dir.l.length Z.D.c)).setCell ⟨p, 7, none⟩ (.slice Z.D.A2 B.dir.F.length Z.D.c2)).setCell ⟨p, 8, none⟩ (.int .i64 B.ep)).setCell ⟨p, 9, none⟩ (.int .i64 B.ck)).setCell ⟨p, 10, none⟩ (.int .i64 B.ni)) from HNH.out.arena hb hn hr)
            replace HNH := Lib.hid (HNH.out.below hb)
            clear hn hr hb HC
            obtain ⟨y0, y1, y2, y3, y4, y5, y6, y7, y8, y9, y10⟩ := HNH.out.na.qb.k
            have yl := HNH.out.na.qb.lt
            obtain ⟨f0, f1, f2, f3, f4, f5, f6, f7, f8, f9, f10⟩ := HNH.out.na.qb.free
            clear HNH
            go_wp2
            go_meet
            exact ⟨B, Z, rfl, Lib.hid ⟨HBB.out.1, HBB.out.2, HM.out⟩⟩
          · have hkb : (ki == 1) = false := by simp [hk]
            clear hk
            go_wp2
            go_meet
            exact ⟨a, Y, rfl, Lib.hid ⟨⟨by omega, by omega, rfl⟩, HFW.out, HNH.out⟩⟩
        case rest =>
          clear HNH HFW
          obtain ⟨a', Y', rfl, HH⟩ := hcut
          have HB2 := Lib.hid HH.out.1
          have HFW := Lib.hid HH.out.2.1
          have HNH := Lib.hid HH.out.2.2
          clear HH
          go_wp2_with fail
          refine (n_any w.heap.size g _ HNH.out.src 2 (by omega) (by omega)).mono ?_
          rintro e x7 ⟨mi, rfl, -, -, hs, hg⟩
          replace HNH := Lib.hid (HNH.out.turn hs hg)
          clear hs hg
          go_upto_if 69 with (fail)
          go_cut [11] (fun s11 wx => ∃ (a'' : Ar) (Y'' : Ax), s11 = .int .i64 0 ∧ Hid ((a''.ep = a'.ep ∧ a'.ck ≤ a''.ck ∧ a''.ck ≤ a'.ck + 5) ∧ a''.Few ∧ Nh14 w g p q b c a'' Y'' R F1 G1 wx))
          case first =>
            by_cases hk : mi = 1
            · have hkb : (mi == 1) = true := by simp [hk]
              have HNd := Lib.hid (HNH.out.below (Below.refl _ _).drew)
              have HN5a := Lib.hid (n_any w.heap.size g _ HNH.out.src 5 (by omega) (by omega))
              have HN5b := Lib.hid (n_any w.heap.size g _ HNd.out.src 5 (by omega) (by omega))
              have HTK := Lib.hid (fun W (m : Int) (hm : 0 ≤ m ∧ m ≤ 4) (h : AR W W.heap.size a' Y') => atick_any a' Y' m W h HFW.out hm.1 (by omega) (by have := HB.out; have := HB2.out; omega) (by have := HB.out; have := HB2.out; have := HN40.out; omega))
              obtain ⟨y0, y1, y2, y3, y4, y5, y6, y7, y8, y9, y10⟩ := HNH.out.na.qb.k
              have yl := HNH.out.na.qb.lt
              clear hk
              go_upto_region 18 with (fail)
              go_region_law (first | (go_simp; go_at_call 11; (first | refine HN5b.out.mono ?_ | refine HN5a.out.mono ?_); rintro e w4 ⟨m5, rfl, k1, k2, hs, hg⟩; (first | (have HN4 := Lib.hid (HNd.out.turn hs hg)) | (have HN4 := Lib.hid (HNH.out.turn hs hg))); have KM := Lib.hid (show 0 ≤ m5 ∧ m5 ≤ 4 from by omega); obtain ⟨v0, v1, v2, v3, v4, v5, v6, v7, v8, v9, v10⟩ := HN4.out.na.qb.k; have vl := HN4.out.na.qb.lt; clear hs hg k1 k2) | (go_simp; go_at_call 13; refine (HTK.out _ m5 KM.out HN4.out.na.ar).mono ?_; rintro e w5 ⟨Z, rfl, hn, hr, hb⟩; have HM := Lib.hid (show Nh14 w g p q b c (a'.words a'.ep (a'.ck + m5) a'.ni) Z R F1 G1 (((((((((((w5.setCell ⟨p, 0, none⟩ (.slice Z.A (a'.words a'.ep (a'.ck + m5) a'.ni).sl.length Z.c)).setCell ⟨p, 1, none⟩ (.slice Z.A2 (a'.words a'.ep (a'.ck + m5) a'.ni).st.length Z.c2)).setCell ⟨p, 2, none⟩ (.int .i64 (a'.words a'.ep (a'.ck + m5) a'.ni).ow)).setCell ⟨p, 3, none⟩ (.int .i64 (a'.words a'.ep (a'.ck + m5) a'.ni).cap)).setCell ⟨p, 4, none⟩ (.slice Z.A3 (a'.words a'.ep (a'.ck + m5) a'.ni).dl.length Z.c3)).setCell ⟨p, 5, none⟩ (.int .i64 (a'.words a'.ep (a'.ck + m5) a'.ni).dir.vn)).setCell ⟨p, 6, none⟩ (.slice Z.D.A (a'.words a'.ep (a'.ck + m5) a'.ni).dir.l.length Z.D.c)).setCell ⟨p, 7, none⟩ (.slice Z.D.A2 (a'.words a'.ep (a'.ck + m5) a'.ni).dir.F.length Z.D.c2)).setCell ⟨p, 8, none⟩ (.int .i64 (a'.words a'.ep (a'.ck + m5) a'.ni).ep)).setCell ⟨p, 9, none⟩ (.int .i64 (a'.words a'.ep (a'.ck + m5) a'.ni).ck)).setCell ⟨p, 10, none⟩ (.int .i64 (a'.words a'.ep (a'.ck + m5) a'.ni).ni)) from HN4.out.arena hb hn hr); have HN5 := Lib.hid (HN4.out.below hb); obtain ⟨v0, v1, v2, v3, v4, v5, v6, v7, v8, v9, v10⟩ := HN5.out.na.qb.k; have vl := HN5.out.na.qb.lt; obtain ⟨f0, f1, f2, f3, f4, f5, f6, f7, f8, f9, f10⟩ := HN5.out.na.qb.free; clear hn hr hb))
              all_goals
                go_wp2_with fail
                go_meet
                exact ⟨a'.words a'.ep (a'.ck + m5) a'.ni, Z, rfl, Lib.hid ⟨⟨rfl, by have := KM.out; show a'.ck ≤ a'.ck + m5; omega, by have := KM.out; show a'.ck + m5 ≤ a'.ck + 5; omega⟩, HFW.out.words _ _ _, HM.out⟩⟩
            · have hkb : (mi == 1) = false := by simp [hk]
              clear hk
              go_wp2
              go_meet
              exact ⟨a', Y', rfl, Lib.hid ⟨⟨rfl, by omega, by omega⟩, HFW.out, HNH.out⟩⟩
          case rest =>
            clear HNH HFW
            obtain ⟨a2, Y2, rfl, HH⟩ := hcut
            have HST3 := Lib.hid (HST2.out a2.ep a2.ck (by have := HB2.out; have := HH.out.1; omega) (by have := HB2.out; have := HH.out.1; omega) (by have := HB2.out; have := HH.out.1; omega) (by have := HB2.out; have := HH.out.1; omega))
            clear HST2 HB2 HB
            go_wp2_with fail
            go_roundw
            case rel => exact ⟨n + 1, a2, Y2, R, F1, G1, by go_num, by omega, by have := HN40.out; omega, Lib.hid ⟨HST3.out, HH.out.2.1, HH.out.2.2⟩⟩
            case measure => simp [intOf]; have := HN40.out; omega
/-! The row's step, as the guide's shell has it. -/
namespace snapshotHolds
open Go.ChangeShapes Go.WideShapes Go.ChangeAt
open Go.ChangeMaps (open_string shut_string)
theorem own : ownKnob Try.prog.godebug = none := by kernel_rfl
theorem laidOut : laidOutB Try.prog = true := by kernel_rfl

set_option maxRecDepth 100000 in
theorem lifted (os : Os) (started : os.Started) (H : Type) (enc : TypeId × Value → H) :
    ReturnsInHanded {} Try.checked os 3 .any (Rows.snapshotHoldsSpec.pre6 enc Try.prog Try.f3 Rows.snapshotHoldsRow.domain false) (Rows.snapshotHoldsSpec.post enc Try.prog Try.f3 false true false false) := by
  refine returnsInHanded_of_change (C := Try.checked) own started (by kernel_rfl) Try.func3
    (ChangeSpec.witness6 (enc := enc) (C := Try.checked) false ⟨#[], #[.slice none 0 0], []⟩ 8 (by kernel_rfl) (by kernel_rfl) (by kernel_rfl) (by kernel_rfl)) ?_
  intro W base args ds gs before hval0 hW hcnd _
  have hval : ∀ (j : Nat) t v, Try.f3.params[j]? = some t → args[j]? = some v → Value.okWide Try.prog W .any base t v := hval0
  have hW' := hW
  obtain ⟨p, q, hA0, hV, rfl, hfz, hnd⟩ := hW
  have hA : DataW.TrodAll enc Try.prog W 0 (fun _ => true) true Try.f3.params.toList args.toList ds p := hA0
  rw [Try.params3] at hA hval
  obtain ⟨v0, vs0, d0, ds0, p0, q0, hargs, rfl, rfl, h0, r0⟩ := trodAll_cons hA
  obtain ⟨rfl, rfl, rfl⟩ := trodAll_nil r0
  obtain rfl : args = #[v0] := by cases args; simp_all
  obtain ⟨rfl, rfl⟩ := trodVars_none hV
  obtain ⟨a0, len0, cap0, rfl⟩ := okWide_slice Try.underlying22 (hval 0 22 v0 rfl rfl)
  have k0 := h0
  have lt0 : ∀ x ∈ p0, x.block < W.heap.size := by obtain ⟨m, hm⟩ := k0; exact DataW.trod_lt m _ _ _ hm
  obtain ⟨z0, w0⟩ : ∃ zs, Ns W W.heap.size (.slice a0 len0 cap0) zs := by
    obtain ⟨fuel, hf⟩ := h0
    rcases open_ints Try.underlying22 Try.underlying3 (by kernel_rfl) hf with ⟨hcs, _⟩ | ⟨x, l, c, zs, hcs, _, hl, hm, hz, _, hcell, hwz⟩
    · simp [Value.cells] at hcs
      obtain ⟨rfl, rfl, rfl⟩ := hcs
      exact ⟨[], Ns.nil⟩
    · simp [Value.cells] at hcs
      obtain ⟨rfl, rfl, rfl⟩ := hcs
      exact Ns.of_cells hl hm (by simpa using hz) hcell hwz
  clear hA0 hval0
  refine (SnapshotHolds_walk W a0 len0 cap0 z0 w0).mono fun e W' ⟨he, bel⟩ => ?_
  subst he
  exact ⟨_, rfl, _, _, _, [], _, [], hW', trodAll_mk1 (shut_bool Try.underlying4 _), (trodAll_cons_mk (Below.trod laidOut (by kernel_rfl) (of_decide_eq_true (by kernel_rfl)) k0 bel lt0) trodAll_mk0), rfl, bel.frame _, fun h => by cases h⟩

theorem over : Rows.snapshotHoldsRow.holds Try.pinned (OpenSpec.ofChange Rows.snapshotHoldsSpec) :=
  OpenClaim.holds_of_wide 3 Try.f3 rfl rfl rfl rfl rfl rfl rfl ⟨rfl, rfl, rfl, rfl, rfl⟩ rfl rfl rfl rfl rfl (by kernel_rfl) Try.func3 (by kernel_rfl)
    (of_decide_eq_true (by kernel_rfl)) (by unfold Func.isWrapper; first | (rw [if_pos (by decide +kernel)]; kernel_rfl) | (rw [if_neg (by decide +kernel)]; exact ⟨rfl, rfl⟩))
    (fun os started H enc _ => lifted os started H enc)

/-- The statement. -/
theorem proved : Rows.SnapshotHoldsSaid := over
#print axioms proved
end snapshotHolds
end Go.Proofs.Ytijpflljopckiaa
