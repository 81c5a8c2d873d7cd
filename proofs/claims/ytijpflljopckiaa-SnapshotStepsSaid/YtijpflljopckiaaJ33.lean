/- What is proved here: arena.New by a contract; in the statements of layer 12, awake is true; arena.isSlot, ownerOf, ownerError, slotError, isNumber by contracts; arena.wordError, CAS of the epoch, Tick by contracts; in the statements of layer 14, awake is true. -/
import Derived.Test.YtijpflljopckiaaJ29
import Derived.Deep.DeepCutAuto
import Derived.Deep.RegionHeld3
import Derived.Test.YtijpflljopckiaaJ32
namespace Go.Proofs.Ytijpflljopckiaa
open Go.RowKit
set_option linter.unusedVariables false

set_option maxHeartbeats 8000000 in
set_option maxRecDepth 20000 in
theorem anew_any (s : Su) (w : World) : Calls Try.prog 8 #[s.v] w (AE w (nwA s) (nwAE s)) := by
  have H0 := Lib.hid (Pn12.start w s)
  have HIS := Lib.hid (fun W => isset_any s W)
  have HDN := Lib.hid (fun W => dnew_any s.sl s.lv W)
  have HDE := Lib.hid (fun W => new8_any s.dd W)
  have HA := Lib.hid (rfl : nwA s = if suB s = true then grA s s.sl.toNat s.sl.toNat s.dd else zA)
  have HE := Lib.hid (rfl : nwAE s = if suB s = true then 0 else 1)
  obtain ⟨i0, hi0, hz0⟩ := Option.map_eq_some_iff.1 info_sl
  obtain ⟨i1, hi1, hz1⟩ := Option.map_eq_some_iff.1 info_st12
  simp only [Prod.mk.injEq] at hz0 hz1
  have HI := Lib.hid hi0
  have HZ := Lib.hid hz0
  have HI1 := Lib.hid hi1
  have HZ1 := Lib.hid hz1
  clear hi0 hz0 hi1 hz1
  obtain ⟨p, hp⟩ : ∃ p, p = w.heap.size := ⟨_, rfl⟩
  obtain ⟨r, hr⟩ : ∃ r, r = w.heap.size + 1 := ⟨_, rfl⟩
  have HPP := Lib.hid (And.intro hp hr)
  clear hp hr
  cases hs : suB s with
  | false =>
    rw [hs] at HIS
    have HA2 := Lib.hid (show nwA s = zA from HA.out.trans (if_neg (by rw [hs]; decide)))
    have HE2 := Lib.hid (show nwAE s = 1 from HE.out.trans (if_neg (by rw [hs]; decide)))
    clear hs HA HE
    go_enter Try.func8, Try.ntmps8
    obtain ⟨k0, k1, k2, k3, k4, k5, k6, k7⟩ := H0.out.sb.k
    have kl := H0.out.sb.lt
    go_wp2_with fail
    clear k0 k1 k2 k3 k4 k5 k6 k7 kl
    rw [← HPP.out.2, ← HPP.out.1] at H0
    generalize (w.alloc (.cells #[.int .i64 s.sl, .int .i64 s.lv, .int .i64 s.cp, .int .i64 s.dd, .int .i64 s.lm, .int .i64 s.ck, .int .i64 s.ni, .int .i64 s.ep] 41)).alloc (.cells #[.slice none 0 0, .slice none 0 0, .int .i64 0, .int .i64 0, .slice none 0 0, .int .i64 0, .slice none 0 0, .slice none 0 0, .int .i64 0, .int .i64 0, .int .i64 0] 36) = w1 at *
    rw [← HPP.out.2, ← HPP.out.1]
    refine (HIS.out _).mono ?_
    rintro e w2 ⟨rfl, hb⟩
    have H1 := Lib.hid (H0.out.below hb)
    clear hb H0
    obtain ⟨k0, k1, k2, k3, k4, k5, k6, k7, k8, k9, k10⟩ := H1.out.rb.k
    obtain ⟨f0, f1, f2, f3, f4, f5, f6, f7, f8, f9, f10⟩ := H1.out.rb.free
    have kl := H1.out.rb.lt
    have HF := Lib.hid (show AE w (nwA s) (nwAE s) (.returned (.tuple #[av zA zAx, .int .i64 1])) (set11 w2 r zA zAx) from by
      rw [HA2.out, HE2.out]
      have := H1.out.ne
      exact ae_out (y := r) (by omega) H1.out.bel (zAx_nw _) (Nat.le_refl _) AR.zero 1)
    clear HA2 HE2 H1
    go_wp2
    exact bodyPost_ret (v := .tuple #[.agg #[.slice none 0 0, .slice none 0 0, .int .i64 0, .int .i64 0, .slice none 0 0, .int .i64 0, .slice none 0 0, .slice none 0 0, .int .i64 0, .int .i64 0, .int .i64 0], .int .i64 1]) (by simp only [results, Try.results8]; go_simp <;> rfl) rfl HF.out
  | true =>
    have HOK := Lib.hid (suB_iff.1 hs)
    rw [hs] at HIS
    have HA2 := Lib.hid (show nwA s = grA s s.sl.toNat s.sl.toNat s.dd from HA.out.trans (if_pos hs))
    have HE2 := Lib.hid (show nwAE s = 0 from HE.out.trans (if_pos hs))
    have HCP := Lib.hid (show nw8 s.dd = s.dd from if_pos (wi_true HOK.out.2.2.2.1.1 HOK.out.2.2.2.1.2))
    obtain ⟨n, hn⟩ : ∃ n : Nat, n = s.sl.toNat := ⟨_, rfl⟩
    have HNN := Lib.hid (show s.sl = (n : Int) ∧ n ≤ 6 from by have := HOK.out; unfold Su.Ok at this; omega)
    obtain ⟨k, hk⟩ : ∃ k : Nat, k = s.cp.toNat := ⟨_, rfl⟩
    have HKK := Lib.hid (show s.cp = (k : Int) ∧ 1 ≤ k ∧ k ≤ 12 ∧ k = s.cp.toNat from by have := HOK.out; unfold Su.Ok at this; omega)
    rw [← hn] at HA2
    rw [HCP.out] at HDE
    clear hs HA HE HCP hn hk
    go_enter Try.func8, Try.ntmps8
    obtain ⟨k0, k1, k2, k3, k4, k5, k6, k7⟩ := H0.out.sb.k
    have kl := H0.out.sb.lt
    go_wp2_with fail
    clear k0 k1 k2 k3 k4 k5 k6 k7 kl
    rw [← HPP.out.2, ← HPP.out.1] at H0
    generalize (w.alloc (.cells #[.int .i64 s.sl, .int .i64 s.lv, .int .i64 s.cp, .int .i64 s.dd, .int .i64 s.lm, .int .i64 s.ck, .int .i64 s.ni, .int .i64 s.ep] 41)).alloc (.cells #[.slice none 0 0, .slice none 0 0, .int .i64 0, .int .i64 0, .slice none 0 0, .int .i64 0, .slice none 0 0, .slice none 0 0, .int .i64 0, .int .i64 0, .int .i64 0] 36) = w1 at *
    rw [← HPP.out.2, ← HPP.out.1]
    refine (HIS.out _).mono ?_
    rintro e w2 ⟨rfl, hb⟩
    have H1 := Lib.hid (H0.out.below hb)
    clear hb H0
    have HY1 := Lib.hid (show Py12 w p r w2.heap.size s ⟨[], [], 0, 0, [], zD10, s.ep, s.ck, s.ni⟩ zAx (w2.alloc (.cells #[.slice none 0 0, .slice none 0 0, .int .i64 0, .int .i64 0, .slice none 0 0, .int .i64 0, .slice none 0 0, .slice none 0 0, .int .i64 s.ep, .int .i64 s.ck, .int .i64 s.ni] 36)) from ⟨H1.out.below ((Below.refl _ _).alloc (Nat.le_refl _) _), QB.start w2 ⟨[], [], 0, 0, [], zD10, s.ep, s.ck, s.ni⟩ zAx _, H1.out.rb.lt⟩)
    obtain ⟨k0, k1, k2, k3, k4, k5, k6, k7⟩ := H1.out.sb.k
    have kl := H1.out.sb.lt
    go_upto_region 4 with (fail)
    clear k0 k1 k2 k3 k4 k5 k6 k7 kl H1
    obtain ⟨y, hy⟩ : ∃ y, y = w2.heap.size := ⟨_, rfl⟩
    rw [← hy] at HY1 ⊢
    clear hy
    generalize w2.alloc (.cells #[.slice none 0 0, .slice none 0 0, .int .i64 0, .int .i64 0, .slice none 0 0, .int .i64 0, .slice none 0 0, .slice none 0 0, .int .i64 s.ep, .int .i64 s.ck, .int .i64 s.ni] 36) = w3 at *
    obtain ⟨k0, k1, k2, k3, k4, k5, k6, k7⟩ := HY1.out.pn.sb.k
    have kl := HY1.out.pn.sb.lt
    go_wp2_with fail
    clear k0 k1 k2 k3 k4 k5 k6 k7 kl
    refine (HDN.out _).mono ?_
    rintro e w4 ⟨X, rfl, hnw, hdr, hb⟩
    have HY2 := Lib.hid (HY1.out.below hb)
    have HXN := Lib.hid (hnw.low (show y + 1 ≤ _ from HY1.out.yb.lt))
    have HDR := Lib.hid hdr
    clear hb hnw hdr HY1 HDN
    have HY3 := Lib.hid (HY2.out.dir (nwD s.sl s.lv) X)
    have HDR3 := Lib.hid ((((HDR.out.offp (q := ⟨y, 5, none⟩) (HXN.out.off (Nat.lt_succ_self y)) (.int .i64 (nwD s.sl s.lv).vn)).offp (q := ⟨y, 6, none⟩) (HXN.out.off (Nat.lt_succ_self y)) (.slice X.A (nwD s.sl s.lv).l.length X.c)).offp (q := ⟨y, 7, none⟩) (HXN.out.off (Nat.lt_succ_self y)) (.slice X.A2 (nwD s.sl s.lv).F.length X.c2)).more (show w4.heap.size ≤ (((w4.setCell ⟨y, 5, none⟩ (.int .i64 (nwD s.sl s.lv).vn)).setCell ⟨y, 6, none⟩ (.slice X.A (nwD s.sl s.lv).l.length X.c)).setCell ⟨y, 7, none⟩ (.slice X.A2 (nwD s.sl s.lv).F.length X.c2)).heap.size by simp))
    obtain ⟨k0, k1, k2, k3, k4, k5, k6, k7, k8, k9, k10⟩ := HY2.out.yb.k
    obtain ⟨f0, f1, f2, f3, f4, f5, f6, f7, f8, f9, f10⟩ := HY2.out.yb.free
    have kl := HY2.out.yb.lt
    go_upto_region 5 with (fail)
    clear k0 k1 k2 k3 k4 k5 k6 k7 k8 k9 k10 f0 f1 f2 f3 f4 f5 f6 f7 f8 f9 f10 kl HY2 HDR
    generalize ((w4.setCell ⟨y, 5, none⟩ (.int .i64 (nwD s.sl s.lv).vn)).setCell ⟨y, 6, none⟩ (.slice X.A (nwD s.sl s.lv).l.length X.c)).setCell ⟨y, 7, none⟩ (.slice X.A2 (nwD s.sl s.lv).F.length X.c2) = w5 at *
    obtain ⟨k0, k1, k2, k3, k4, k5, k6, k7⟩ := HY3.out.pn.sb.k
    have kl := HY3.out.pn.sb.lt
    go_wp2_with fail
    clear k0 k1 k2 k3 k4 k5 k6 k7 kl
    refine (HDE.out _).mono ?_
    rintro e w6 ⟨rfl, hb⟩
    have HY4 := Lib.hid (HY3.out.below hb)
    have HDR4 := Lib.hid (HDR3.out.up hb)
    clear hb HY3 HDR3 HDE
    have HG := Lib.hid ((HY4.out.dead s.dd).grow (((HDR4.out.offp (q := ⟨y, 3, none⟩) (HXN.out.off (Nat.lt_succ_self y)) (.int .i64 s.dd)).offp (q := ⟨y, 4, none⟩) (HXN.out.off (Nat.lt_succ_self y)) (.slice none 0 0)).more (by simp)) ⟨HXN.out.low (by have := HY4.out.ry; omega), HXN.out.off (Nat.lt_succ_self y)⟩)
    obtain ⟨k0, k1, k2, k3, k4, k5, k6, k7, k8, k9, k10⟩ := HY4.out.yb.k
    obtain ⟨f0, f1, f2, f3, f4, f5, f6, f7, f8, f9, f10⟩ := HY4.out.yb.free
    have kl := HY4.out.yb.lt
    go_upto_region 6 with (fail)
    clear k0 k1 k2 k3 k4 k5 k6 k7 k8 k9 k10 f0 f1 f2 f3 f4 f5 f6 f7 f8 f9 f10 kl HY4 HDR4 HXN
    generalize (w6.setCell ⟨y, 3, none⟩ (.int .i64 s.dd)).setCell ⟨y, 4, none⟩ (.slice none 0 0) = w7 at *
    obtain ⟨k0, k1, k2, k3, k4, k5, k6, k7⟩ := HG.out.sb.k
    have kl := HG.out.sb.lt
    have hsl := HNN.out.1
    rw [hsl] at k0
    clear hsl
    go_wp2_with fail
    clear k0 k1 k2 k3 k4 k5 k6 k7 kl
    go_loopw [36] (fun iv wr => ∃ (i : Nat) (A : Option Addr) (c1 : Nat) (q : List Sl) (A2 : Option Addr) (c2 : Nat), iv = .int .i64 i ∧ i ≤ n ∧ Hid (Gw12 w p r y s s.dd i i A c1 q A2 c2 X wr)) (fun iv _ => n - (intOf iv).toNat)
    case atStart => exact ⟨0, none, 0, [], none, 0, rfl, Nat.zero_le _, HG⟩
    case round =>
      clear HG
      obtain ⟨i, A, c1, q, A2, c2, rfl, hi, HG⟩ := hrel
      by_cases hlt : i < n
      · have hlt' : (i : Int) < (n : Int) := by omega
        have hi6 : i < 6 := by have := HNN.out.2; omega
        have HI6 := Lib.hid hi6
        have hw1 : IntKind.i64.wrap ((i : Int) + 1) = (i : Int) + 1 := IntWalk.i64_in _ (by omega)
        obtain ⟨FF, hFF⟩ : ∃ FF, FF = ffS (nwD s.sl s.lv) (i : Int) k := ⟨_, rfl⟩
        have HFS := Lib.hid (fun W (k0 : Gw12 w p r y s s.dd i i A c1 q A2 c2 X W) => fshard_any (nwD s.sl s.lv) X (i : Int) k W k0.dr HKK.out.2.1 HKK.out.2.2.1)
        rw [← hFF] at HFS
        have HSO := Lib.hid (show ∀ D, Sl.so ⟨0, FF, D⟩ = nwSl s i from fun D => by unfold nwSl; rw [← HKK.out.2.2.2, ← hFF]; rfl)
        clear hFF hi hi6
        have HD := Lib.hid HG.out.drew
        obtain ⟨y0, y1, y2, y3, y4, y5, y6, y7, y8, y9, y10⟩ := HG.out.yk
        have yl := HG.out.yl
        obtain ⟨k0, k1, k2, k3, k4, k5, k6, k7⟩ := HG.out.sb.k
        have kl := HG.out.sb.lt
        have hcp := HKK.out.1
        rw [hcp] at k2
        clear hcp
        go_upto_region 9 with (fail)
        go_cut [5] (fun s5 wx => s5 = .int .i64 i ∧ ∃ (A : Option Addr) (c1 : Nat) (q : List Sl), Hid (Gw12 w p r y s s.dd (i + 1) i A c1 q A2 c2 X wx))
        case first =>
          go_region_law (first
            | (go_simp; go_at_call 35; (with_reducible refine (HFS.out _ HD.out).mono ?_); rintro e w4 ⟨D, rfl, hn, hr, hb⟩; have HTN := Lib.hid hn; have HD4 := Lib.hid (HD.out.below hb); have HD5 := Lib.hid (HD4.out.alloc (.cells (Sl.mk 0 FF D).l.toArray 88)); have HTR := Lib.hid (hr.up ((Below.refl w4.heap.size w4).alloc (Nat.le_refl _) (.cells (Sl.mk 0 FF D).l.toArray 88))); obtain ⟨z0, z1, z2, z3, z4, z5, z6, z7, z8, z9, z10⟩ := HD4.out.yk; have zl := HD4.out.yl; clear hn hr hb)
            | (refine step_append_lies _ (by rfl) _ _ _ (by rfl) (y + 1) 88 i0 _ 9 120 Try.underlying25 HI.out HZ.out.1 HZ.out.2.1 HZ.out.2.2 rfl (by omega) (.slice A i c1) i (qcs q) (by rfl) HD5.out.o1 ⟨w4.heap.size, 0, none⟩ 1 1 (Sl.mk 0 FF D).l (by rfl) (by rfl) (World.news_of_block (cs := (Sl.mk 0 FF D).l.toArray) (t := 88) (fr := (0, 0)) (heap_alloc_new w4 _)) (Sl.l_one _) (by omega) (by have := HI6.out; unfold maxLen; omega) (by have := HI6.out; omega) (Nat.succ_le_of_lt HD5.out.yl) _ rfl ?_; intro g1 cp1 w8 hown1 hgrow1 hat1 hlt1; have HP8 := Lib.hid (HD.out.slot (T := Sl.mk 0 FF D) HD5.out (HSO.out D) HTR.out HTN.out hown1 hgrow1 hat1); obtain ⟨v1, v2, v3⟩ := HD5.out.near1 hgrow1; clear hown1 hgrow1 hat1 hlt1))
          all_goals
            have HQ := Lib.hid HP8.out
            clear HP8 HG HD HD4 HD5 HTN HTR HFS HSO
            go_wp2_with fail
            go_meet
            exact ⟨rfl, _, _, _, HQ⟩
        case rest =>
          obtain ⟨rfl, A, c1, q, HQ⟩ := hcut
          clear y0 y1 y2 y3 y4 y5 y6 y7 y8 y9 y10 yl k0 k1 k2 k3 k4 k5 k6 k7 kl HG HD HFS HSO
          generalize wc = w9 at *
          obtain ⟨y0, y1, y2, y3, y4, y5, y6, y7, y8, y9, y10⟩ := HQ.out.yk
          have yl := HQ.out.yl
          obtain ⟨k0, k1, k2, k3, k4, k5, k6, k7⟩ := HQ.out.sb.k
          have kl := HQ.out.sb.lt
          go_wp2_with (at_builtin; refine wpList_append_lies _ rfl _ _ _ rfl (y + 1) 90 i1 _ 4 32 Try.underlying26 HI1.out HZ1.out.1 HZ1.out.2.1 HZ1.out.2.2 rfl (by omega) (.slice A2 i c2) i (tcs (List.replicate i (stE s))) (by rfl) (HQ.out.alloc _).o2 ⟨w9.heap.size, 0, none⟩ 1 1 (stE s).l (by rfl) (by rfl) (World.news_of_block (cs := (stE s).l.toArray) (t := 90) (fr := (0, 0)) (heap_alloc_new w9 _)) (St.l_one _) (by omega) (by have := HI6.out; unfold maxLen; omega) (by have := HI6.out; omega) (Nat.succ_le_of_lt (HQ.out.alloc _).yl) _ rfl ?_; intro g2 cp2 w10 hown2 hgrow2 hat2 hlt2; have HR := Lib.hid ((HQ.out.alloc _).stripe hown2 hgrow2 hat2); obtain ⟨u1, u2, u3⟩ := (HQ.out.alloc _).near2 hgrow2; clear hown2 hgrow2 hat2 hlt2)
          go_roundw
          case rel => exact ⟨i + 1, _, _, _, _, _, by go_num, by omega, HR⟩
          case measure => simp [intOf]; omega
      · obtain rfl : i = n := by omega
        clear hi hlt
        have HAR := Lib.hid HG.out.ar
        have HAN := Lib.hid HG.out.anw
        obtain ⟨y0, y1, y2, y3, y4, y5, y6, y7, y8, y9, y10⟩ := HG.out.yk
        have yl := HG.out.yl
        obtain ⟨k0, k1, k2, k3, k4, k5, k6, k7, k8, k9, k10⟩ := HG.out.rb.k
        obtain ⟨f0, f1, f2, f3, f4, f5, f6, f7, f8, f9, f10⟩ := HG.out.rb.free
        have kl := HG.out.rb.lt
        have hyr : ¬ y = r := by have := HG.out.ne; omega
        have hry : ¬ r = y := fun e => hyr e.symm
        have HF := Lib.hid (show AE w (nwA s) (nwAE s) (.returned (.tuple #[.agg #[.slice A i c1, .slice A2 i c2, .int .i64 0, .int .i64 s.dd, .slice none 0 0, .int .i64 (nwD s.sl s.lv).vn, .slice X.A (nwD s.sl s.lv).l.length X.c, .slice X.A2 (nwD s.sl s.lv).F.length X.c2, .int .i64 s.ep, .int .i64 s.ck, .int .i64 s.ni], .int .i64 0])) (((((((((((wr.setCell ⟨r, 0, none⟩ (.slice A i c1)).setCell ⟨r, 1, none⟩ (.slice A2 i c2)).setCell ⟨r, 2, none⟩ (.int .i64 0)).setCell ⟨r, 3, none⟩ (.int .i64 s.dd)).setCell ⟨r, 4, none⟩ (.slice none 0 0)).setCell ⟨r, 5, none⟩ (.int .i64 (nwD s.sl s.lv).vn)).setCell ⟨r, 6, none⟩ (.slice X.A (nwD s.sl s.lv).l.length X.c)).setCell ⟨r, 7, none⟩ (.slice X.A2 (nwD s.sl s.lv).F.length X.c2)).setCell ⟨r, 8, none⟩ (.int .i64 s.ep)).setCell ⟨r, 9, none⟩ (.int .i64 s.ck)).setCell ⟨r, 10, none⟩ (.int .i64 s.ni)) from by
          rw [HA2.out, HE2.out]
          have := HG.out.ne
          have h := ae_out (show w.heap.size ≤ r by omega) HG.out.bel HAN.out (by omega) HAR.out 0
          simp only [av, set11, grA_sl, grA_st] at h
          exact h)
        clear HAR HAN HA2 HE2 HG
        go_wp2
        exact bodyPost_ret (v := .tuple #[.agg #[.slice A i c1, .slice A2 i c2, .int .i64 0, .int .i64 s.dd, .slice none 0 0, .int .i64 (nwD s.sl s.lv).vn, .slice X.A (nwD s.sl s.lv).l.length X.c, .slice X.A2 (nwD s.sl s.lv).F.length X.c2, .int .i64 s.ep, .int .i64 s.ck, .int .i64 s.ni], .int .i64 0]) (by simp only [results, Try.results8]; go_simp <;> rfl) rfl HF.out
end Go.Proofs.Ytijpflljopckiaa
namespace Go.Proofs.Ytijpflljopckiaa
open Go.RowKit
set_option linter.unusedVariables false

theorem ffS_len {d : Dd} {j : Int} {k : Nat} (h1 : 1 ≤ k) (h2 : k ≤ 12) : (ffS d j k).cs.length ≤ 1000 ∧ (ffS d j k).l.length ≤ 1000 ∧ (ffS d j k).h.length ≤ 1000 := by
  have hn : (nwC (k : Int)).length = k := by rw [(nwC_fil h1 h2 0 (by omega)).1, fil_len]
  unfold ffS
  split
  · unfold neS
    split
    · exact ⟨by show (nwC (k : Int)).length ≤ 1000; omega, Nat.zero_le _, Nat.zero_le _⟩
    · exact ⟨Nat.zero_le _, Nat.zero_le _, Nat.zero_le _⟩
  · exact ⟨by show (nwC (k : Int)).length ≤ 1000; omega, Nat.zero_le _, Nat.zero_le _⟩
theorem few_nw {s : Su} (hs : suB s = true) : (nwA s).Few := by
  have hok := suB_iff.1 hs
  unfold Su.Ok at hok
  have e : nwA s = grA s s.sl.toNat s.sl.toNat s.dd := if_pos hs
  rw [e]
  obtain ⟨n, hn⟩ : ∃ n : Nat, s.sl = n := ⟨s.sl.toNat, by omega⟩
  obtain ⟨m, hm⟩ : ∃ m : Nat, s.lv = m := ⟨s.lv.toNat, by omega⟩
  have hd : nwD s.sl s.lv = ⟨1, nwL m m, List.replicate n (-1)⟩ := by rw [hn, hm]; exact nwD_ok (by omega) (by omega) (by omega)
  refine ⟨by rw [grA_sl]; omega, by rw [grA_st]; omega, Nat.zero_le _, ?_, fun t ht => ?_⟩
  · show (nwD s.sl s.lv).l.length ≤ 1000 ∧ (nwD s.sl s.lv).F.length ≤ 1000
    rw [hd]
    exact ⟨by show (nwL m m).length ≤ 1000; rw [nwL_len]; omega, by show (List.replicate n (-1 : Int)).length ≤ 1000; rw [List.length_replicate]; omega⟩
  · have ht2 : t ∈ (List.range s.sl.toNat).map (nwSl s) := ht
    obtain ⟨i, -, rfl⟩ := List.mem_map.1 ht2
    exact ffS_len (by omega) (by omega)
theorem Ar.Few.own {a : Ar} (h : a.Few) (k : Nat) (v : Int) : (a.setOwn k v).Few := by
  unfold Ar.setOwn
  split
  · exact ⟨h.sl, h.st, h.dl, h.dr, h.sh⟩
  · refine ⟨by simpa using h.sl, h.st, h.dl, h.dr, fun s hs => ?_⟩
    rcases List.mem_or_eq_of_mem_set hs with h1 | rfl
    · exact h.sh s h1
    · by_cases hk : k < a.sl.length
      · have h1 := h.sh a.sl[k] (List.getElem_mem hk); rw [og_get hk]; exact h1
      · have e : og a.sl k = ⟨0, zS⟩ := by simp [og, List.getD, List.getElem?_eq_none (Nat.not_lt.1 hk)]
        rw [e]
        exact ⟨Nat.zero_le 1000, Nat.zero_le 1000, Nat.zero_le 1000⟩
/-- An arena in a box of the call's own. -/
structure Aw12 (w : World) (p : Nat) (a : Ar) (Y : Ax) (W : World) : Prop where
  qb : QB W p a Y
  ar : AR W W.heap.size a Y
  bel : Below w.heap.size w W
  old : w.heap.size ≤ p
section
variable {w W W' : World} {p : Nat} {a a' : Ar} {Y Z : Ax}
theorem Aw12.below (h : Aw12 w p a Y W) (hb : Below W.heap.size W W') : Aw12 w p a Y W' := ⟨h.qb.up hb, h.ar.up hb, h.bel.trans (hb.mono h.bel.size), h.old⟩
theorem Aw12.start (hb : Below w.heap.size w W) (h : AR W W.heap.size a Y) : Aw12 w W.heap.size a Y (W.alloc (.cells #[.slice Y.A a.sl.length Y.c, .slice Y.A2 a.st.length Y.c2, .int .i64 a.ow, .int .i64 a.cap, .slice Y.A3 a.dl.length Y.c3, .int .i64 a.dir.vn, .slice Y.D.A a.dir.l.length Y.D.c, .slice Y.D.A2 a.dir.F.length Y.D.c2, .int .i64 a.ep, .int .i64 a.ck, .int .i64 a.ni] 36)) :=
  ⟨QB.start W a Y _, h.alloc _, hb.alloc hb.size _, hb.size⟩
theorem Aw12.put (h : Aw12 w p a Y W) (hb : Below W.heap.size W W') (hn : Z.nw W.heap.size) (hr : AR W' W'.heap.size a' Z) : Aw12 w p a' Z (set11 W' p a' Z) :=
  have h' := h.below hb
  ⟨h'.qb.set a' Z, (hr.set11 (hn.off h.qb.lt) a' Z).more (by rw [set11_size]; exact Nat.le_refl _), set11_below h'.bel h.old a' Z, h.old⟩
end
end Go.Proofs.Ytijpflljopckiaa
namespace Go.Proofs.Ytijpflljopckiaa
open Go.RowKit
set_option linter.unusedVariables false

/-- The place of an owner, the slots' row from o on. -/
def ownQ (p b o n k : Nat) : Addr := if k = n then ⟨p, 2, none⟩ else ⟨b, o + k * 9, none⟩
/-- The owner's cell of an arena in a box. -/
theorem Aw12.at_ {w W : World} {p : Nat} {a : Ar} {Y : Ax} (h : Aw12 w p a Y W) {k : Nat} (hk : k ≤ a.sl.length) (h0 : 0 < a.sl.length) : ∃ b o, Y.A = some ⟨b, o, none⟩ ∧ ∀ W', Below W.heap.size W W' → W'.cell? (ownQ p b o a.sl.length k) = some (.int .i64 (a.own k)) := by
  obtain ⟨D0, b, o, hA, hb, -, -, -⟩ := h.ar.at2 h0
  refine ⟨b, o, hA, fun W' hW => ?_⟩
  unfold ownQ Ar.own
  by_cases e : k = a.sl.length
  · rw [if_pos e, if_pos e]
    exact (hW.cell (p := ⟨p, 2, none⟩) h.qb.lt).trans h.qb.k.2.2.1
  · rw [if_neg e, if_neg e]
    obtain ⟨D, b', o', hA', hb', h9, -, -⟩ := h.ar.at2 (k := k) (by omega)
    rw [hA] at hA'
    injection hA' with hA'
    injection hA' with e1 e2 e3
    subst e1 e2
    exact (hW.cell (p := ⟨b, o + k * 9, none⟩) hb).trans h9.1
end Go.Proofs.Ytijpflljopckiaa
namespace Go.Proofs.Ytijpflljopckiaa
open Go.RowKit
set_option linter.unusedVariables false

/-- The boxes of an arena and a result, behind a clone. -/
structure Wb14 (w : World) (p r : Nat) (a : Ar) (Y : Ax) (W : World) : Prop where
  pb : QB W p a Y
  rb : QB W r zA zAx
  ar : AR W W.heap.size a Y
  nw : Y.nw (r + 1)
  ne : w.heap.size ≤ p ∧ p < r
  bel : Below w.heap.size w W
section
variable {w W W' : World} {p r : Nat} {a b : Ar} {Y Z : Ax}
theorem Wb14.below (h : Wb14 w p r a Y W) (hb : Below W.heap.size W W') : Wb14 w p r a Y W' := ⟨h.pb.up hb, h.rb.up hb, h.ar.up hb, h.nw, h.ne, h.bel.trans (hb.mono h.bel.size)⟩
theorem QB.set11w {q : Nat} (h : QB W q a Y) (hp : p ≠ q) (b : Ar) (Z : Ax) : QB (set11 W p b Z) q a Y :=
  ((((((((((h.other (x := ⟨p, 0, none⟩) hp _).other (x := ⟨p, 1, none⟩) hp _).other (x := ⟨p, 2, none⟩) hp _).other (x := ⟨p, 3, none⟩) hp _).other (x := ⟨p, 4, none⟩) hp _).other (x := ⟨p, 5, none⟩) hp _).other (x := ⟨p, 6, none⟩) hp _).other (x := ⟨p, 7, none⟩) hp _).other (x := ⟨p, 8, none⟩) hp _).other (x := ⟨p, 9, none⟩) hp _).other (x := ⟨p, 10, none⟩) hp _
theorem Wb14.of (h : Ci12 w p r a Y W) (hb : Below W.heap.size W W') (hn : Z.nw W.heap.size) (hr : AR W' W'.heap.size b Z) : Wb14 w p r b Z (set11 W' p b Z) :=
  ⟨(h.pb.up hb).set b Z, (h.rb.up hb).set11w (by have := h.ne; omega) b Z, (hr.set11 (hn.off h.pb.lt) b Z).more (by rw [set11_size]; exact Nat.le_refl _), hn.low h.rb.lt, h.ne, set11_below (h.bel.trans (hb.mono h.bel.size)) h.ne.1 b Z⟩
theorem AR.words {B : Nat} (h : AR W B a Y) (ep ck ni : Int) : AR W B (a.words ep ck ni) Y := ⟨h.ql, h.so, h.sr, h.tl, h.ls, h.dr⟩
theorem AOff.words (h : AOff a Y p) (ep ck ni : Int) : AOff (a.words ep ck ni) Y p := ⟨h.o1, h.os, h.o2, h.o3, h.o4⟩
theorem Ar.Few.words (h : a.Few) (ep ck ni : Int) : (a.words ep ck ni).Few := ⟨h.sl, h.st, h.dl, h.dr, h.sh⟩
theorem QB.ep (h : QB W p a Y) (x : Int) : QB (W.setCell ⟨p, 8, none⟩ (.int .i64 x)) p (a.words x a.ck a.ni) Y := by
  obtain ⟨⟨k0, k1, k2, k3, k4, k5, k6, k7, k8, k9, k10⟩, fr, lt⟩ := h
  unfold Ar.words
  exact ⟨⟨by simp [go_sem, k0], by simp [go_sem, k1], by simp [go_sem, k2], by simp [go_sem, k3], by simp [go_sem, k4], by simp [go_sem, k5], by simp [go_sem, k6], by simp [go_sem, k7], by simp [go_sem, k8], by simp [go_sem, k9], by simp [go_sem, k10]⟩, fun o => by simp [go_sem, fr o], by simp [lt]⟩
theorem QB.ck (h : QB W p a Y) (x : Int) : QB (W.setCell ⟨p, 9, none⟩ (.int .i64 x)) p (a.words a.ep x a.ni) Y := by
  obtain ⟨⟨k0, k1, k2, k3, k4, k5, k6, k7, k8, k9, k10⟩, fr, lt⟩ := h
  unfold Ar.words
  exact ⟨⟨by simp [go_sem, k0], by simp [go_sem, k1], by simp [go_sem, k2], by simp [go_sem, k3], by simp [go_sem, k4], by simp [go_sem, k5], by simp [go_sem, k6], by simp [go_sem, k7], by simp [go_sem, k8], by simp [go_sem, k9], by simp [go_sem, k10]⟩, fun o => by simp [go_sem, fr o], by simp [lt]⟩
theorem Wb14.ep (h : Wb14 w p r a Y W) (x : Int) : Wb14 w p r (a.words x a.ck a.ni) Y (W.setCell ⟨p, 8, none⟩ (.int .i64 x)) :=
  ⟨h.pb.ep x, h.rb.other (x := ⟨p, 8, none⟩) (show p ≠ r by have := h.ne; omega) _, ((h.ar.offp (q := ⟨p, 8, none⟩) (h.nw.off (show p < r + 1 by have := h.ne; omega)) _).more (by simp)).words _ _ _, h.nw, h.ne, h.bel.setCell (p := ⟨p, 8, none⟩) h.ne.1 _⟩
theorem Wb14.ck (h : Wb14 w p r a Y W) (x : Int) : Wb14 w p r (a.words a.ep x a.ni) Y (W.setCell ⟨p, 9, none⟩ (.int .i64 x)) :=
  ⟨h.pb.ck x, h.rb.other (x := ⟨p, 9, none⟩) (show p ≠ r by have := h.ne; omega) _, ((h.ar.offp (q := ⟨p, 9, none⟩) (h.nw.off (show p < r + 1 by have := h.ne; omega)) _).more (by simp)).words _ _ _, h.nw, h.ne, h.bel.setCell (p := ⟨p, 9, none⟩) h.ne.1 _⟩
end
end Go.Proofs.Ytijpflljopckiaa
namespace Go.Proofs.Ytijpflljopckiaa
open Go.RowKit
set_option linter.unusedVariables false

/-- The boxes of an arena and of a snapshot. -/
structure Na14 (w : World) (p q : Nat) (a : Ar) (Y : Ax) (s : Sn) (W : World) : Prop where
  qb : QB W p a Y
  ar : AR W W.heap.size a Y
  nb : NB W q s
  off : AOff a Y q
  ofp : AOff a Y p
  ne : w.heap.size ≤ p ∧ w.heap.size ≤ q ∧ p ≠ q
  bel : Below w.heap.size w W
section
variable {w W W' : World} {p q : Nat} {a b : Ar} {Y Z : Ax} {s t : Sn}
theorem Na14.below (h : Na14 w p q a Y s W) (hb : Below W.heap.size W W') : Na14 w p q a Y s W' := ⟨h.qb.up hb, h.ar.up hb, h.nb.up hb, h.off, h.ofp, h.ne, h.bel.trans (hb.mono h.bel.size)⟩
theorem Na14.put (h : Na14 w p q a Y s W) (t : Sn) : Na14 w p q a Y t (set4n W q t) :=
  ⟨h.qb.set4n (fun e => h.ne.2.2 e.symm) t, (h.ar.set4n h.off t).more (by rw [set4n_size]; exact Nat.le_refl _), h.nb.set t, h.off, h.ofp, h.ne, set4n_below h.bel h.ne.2.1 t⟩
/-- An arena's box alone, behind New. -/
theorem Aw12.snap (h : Aw12 w p a Y W) (hb : Below W.heap.size W W') (hn : NB W' q t) (hq : W.heap.size ≤ q) (ho : AOff a Y p) : Na14 w p q a Y t W' :=
  ⟨h.qb.up hb, h.ar.up hb, hn, h.ar.offs hq, ho, ⟨h.old, Nat.le_trans h.bel.size hq, Nat.ne_of_lt (Nat.lt_of_lt_of_le h.qb.lt hq)⟩, h.bel.trans (hb.mono h.bel.size)⟩
/-- Behind a call in a statement that declares a snapshot: it was made before, or not yet. -/
theorem al_2 (hb : Below (W.alloc (.cells #[.int .i64 0, .int .i64 0, .int .i64 0, .int .i64 0] 43)).drew.heap.size (W.alloc (.cells #[.int .i64 0, .int .i64 0, .int .i64 0, .int .i64 0] 43)).drew W') : Below W.heap.size W W' ∧ NB W' W.heap.size zSn ∧ W.heap.size ≤ W.heap.size := by
  have h1 : NB (W.alloc (.cells #[.int .i64 0, .int .i64 0, .int .i64 0, .int .i64 0] 43)) W.heap.size zSn := NB.start W zSn 43
  have h2 : Below (W.alloc (.cells #[.int .i64 0, .int .i64 0, .int .i64 0, .int .i64 0] 43)).heap.size (W.alloc (.cells #[.int .i64 0, .int .i64 0, .int .i64 0, .int .i64 0] 43)) W' := (Below.refl _ _).drew.trans hb
  exact ⟨((Below.refl W.heap.size W).alloc (Nat.le_refl _) (.cells #[.int .i64 0, .int .i64 0, .int .i64 0, .int .i64 0] 43)).trans (h2.mono (by simp)), h1.up h2, Nat.le_refl _⟩
theorem al_3 (hb : Below (W.alloc (.cells #[.int .i64 0, .int .i64 0, .int .i64 0, .int .i64 0] 43)).heap.size (W.alloc (.cells #[.int .i64 0, .int .i64 0, .int .i64 0, .int .i64 0] 43)) W') : Below W.heap.size W W' ∧ NB W' W.heap.size zSn ∧ W.heap.size ≤ W.heap.size := by
  have h1 : NB (W.alloc (.cells #[.int .i64 0, .int .i64 0, .int .i64 0, .int .i64 0] 43)) W.heap.size zSn := NB.start W zSn 43
  exact ⟨((Below.refl W.heap.size W).alloc (Nat.le_refl _) (.cells #[.int .i64 0, .int .i64 0, .int .i64 0, .int .i64 0] 43)).trans (hb.mono (by simp)), h1.up hb, Nat.le_refl _⟩
theorem k11_set {x : Addr} (h : K11 p a Y W) (hp : x.block ≠ p) (v : Value) : K11 p a Y (W.setCell x v) := by
  have g : ∀ o, (W.setCell x v).cell? ⟨p, o, none⟩ = W.cell? ⟨p, o, none⟩ := fun o => World.cell?_setCell_other W x ⟨p, o, none⟩ v (fun e => hp (by rw [e]))
  unfold K11 at h ⊢
  simp only [g]
  exact h
theorem al_1 (hb : Below W.drew.heap.size W.drew W') : Below W.heap.size W W' := (Below.refl _ _).drew.trans hb
end
theorem nw_words {s : Su} (h : suB s = true) : (nwA s).ep = s.ep ∧ (nwA s).ck = s.ck ∧ (nwA s).ni = s.ni ∧ (nwA s).sl.length = s.sl.toNat := by
  have e : nwA s = grA s s.sl.toNat s.sl.toNat s.dd := if_pos h
  rw [e]
  exact ⟨rfl, rfl, rfl, grA_sl _ _ _ _⟩
abbrev su14 : Su := ⟨1, 1, 1, 1, 1, 0, 1, 0⟩
abbrev su14a : Su := ⟨1, 1, 1, 1, 1, 9, 1, 2⟩
theorem su14_ok : suB su14 = true ∧ nwAE su14 = 0 ∧ suB su14a = true ∧ nwAE su14a = 0 := by decide
/-- What awake's calls give. -/
structure Ca14 (A0 : Ar) : Prop where
  nw : ∀ W, Calls Try.prog 8 #[.agg #[.int .i64 1, .int .i64 1, .int .i64 1, .int .i64 1, .int .i64 1, .int .i64 9, .int .i64 1, .int .i64 2]] W (AE W A0 0)
  nn : ∀ W, Calls Try.prog 9 #[] W (NR W zSn)
  s1 : ∀ Y W, Calls Try.prog 10 #[av A0 Y, .agg #[.int .i64 0, .int .i64 0, .int .i64 0, .int .i64 0], .int .i64 1] W (NE W ⟨1, 2, 0, 0⟩ 0)
  s2 : ∀ Y W, Calls Try.prog 10 #[av A0 Y, .agg #[.int .i64 1, .int .i64 2, .int .i64 0, .int .i64 0], .int .i64 2] W (NE W ⟨2, 2, 9, 2⟩ 0)
  s3 : ∀ Y W, Calls Try.prog 10 #[av A0 Y, .agg #[.int .i64 2, .int .i64 2, .int .i64 9, .int .i64 2], .int .i64 3] W (NE W ⟨3, 2, 9, 2⟩ 0)
theorem ca14 : ∃ A0, Ca14 A0 := by
  have hn := fun W => anew_any su14a W
  rw [su14_ok.2.2.2] at hn
  obtain ⟨h1, h2, -, -⟩ := nw_words su14_ok.2.2.1
  refine ⟨nwA su14a, hn, fun W => nnew_any W, fun Y W => ?_, fun Y W => ?_, fun Y W => ?_⟩
  · have h := nstep_any (nwA su14a) Y 0 0 0 0 1 W
    rw [h1, h2] at h
    exact h
  · have h := nstep_any (nwA su14a) Y 1 2 0 0 2 W
    rw [h1, h2] at h
    exact h
  · have h := nstep_any (nwA su14a) Y 2 2 9 2 3 W
    rw [h1, h2] at h
    exact h
set_option maxHeartbeats 8000000 in
set_option maxRecDepth 20000 in
theorem awake14_any (w : World) : Calls Try.prog 14 #[] w fun e w' => e = .returned (.bool true) ∧ Below w.heap.size w w' := by
  obtain ⟨A0, hca⟩ := ca14
  have HCA := Lib.hid hca
  clear hca
  go_enter Try.func14, Try.ntmps14
  go_wp2_with fail
  refine (HCA.out.nw _).mono ?_
  rintro e w1 ⟨Y, rfl, hn, hr, hb⟩
  have H1 := Lib.hid (Aw12.start (w := w) hb hr)
  have HOP := Lib.hid (hr.offs (Nat.le_refl _))
  clear hn hr hb
  go_upto_region 2 with (fail)
  obtain ⟨p, hp⟩ : ∃ p, p = w1.heap.size := ⟨_, rfl⟩
  rw [← hp] at H1 HOP ⊢
  clear hp
  generalize w1.alloc (.cells #[.slice Y.A A0.sl.length Y.c, .slice Y.A2 A0.st.length Y.c2, .int .i64 A0.ow, .int .i64 A0.cap, .slice Y.A3 A0.dl.length Y.c3, .int .i64 A0.dir.vn, .slice Y.D.A A0.dir.l.length Y.D.c, .slice Y.D.A2 A0.dir.F.length Y.D.c2, .int .i64 A0.ep, .int .i64 A0.ck, .int .i64 A0.ni] 36) = wr at *
  have HSK := Lib.hid (show ∀ W, Below wr.heap.size wr W → K11 p A0 Y W from fun W h => (H1.out.qb.up h).k)
  have HB0 := Lib.hid (Below.refl wr.heap.size wr)
  have HPL := Lib.hid H1.out.qb.lt
  have HQ0 := Lib.hid (show wr.heap.size ≠ p from by have := HPL.out; omega)
  go_cut [3, 4] (fun s3 s4 wx => ∃ q : Nat, s3 = .pointer (some ⟨q, 0, none⟩) ∧ s4 = .int .i64 0 ∧ Hid (Na14 w p q A0 Y ⟨1, 2, 0, 0⟩ wx))
  case first =>
    go_region_held3 (fun W => K11 p A0 Y W)
      (((repeat' (with_reducible refine k11_set ?_ (by first | with_reducible exact HQ0.out | with_reducible exact HQ4.out | with_reducible exact HQ5.out) _)); refine HSK.out _ ?_; repeat' (first | with_reducible exact HB0.out | with_reducible exact HB4.out | with_reducible exact HB5.out | with_reducible refine bal ?_ _ | with_reducible refine bdr ?_ | exact Nat.le_refl _ | (simp; done) | (simp; omega))))
      (first | ((go_at_call 9; refine (HCA.out.nn _).mono ?_; rintro e w4 ⟨rfl, hb⟩; first | (have HX4 := Lib.hid (al_2 hb).2; have HB4 := Lib.hid (al_2 hb).1; clear hb) | (have HB4 := Lib.hid (al_1 hb); clear hb)); (have HQ4 := Lib.hid (show w4.heap.size ≠ p from by have := HB4.out.size; have := HPL.out; omega))) | ((go_at_call 10; refine (HCA.out.s1 _ _).mono ?_; rintro e w5 ⟨rfl, hb⟩; first | (have HX5 := Lib.hid (al_3 hb).2; have HB5 := Lib.hid (HB4.out.trans ((al_3 hb).1.mono HB4.out.size)); have HS5 := Lib.hid HB4.out.size; obtain ⟨u0, u1, u2, u3⟩ := HX5.out.1.k; simp only [zSn] at u0 u1 u2 u3; have ul := HX5.out.1.lt; obtain ⟨g0, g1, g2, g3⟩ := HX5.out.1.free; clear hb) | (have HB5 := Lib.hid (HB4.out.trans (hb.mono HB4.out.size)); have HX5 := Lib.hid (And.intro (HX4.out.1.up hb) HX4.out.2); obtain ⟨u0, u1, u2, u3⟩ := HX5.out.1.k; simp only [zSn] at u0 u1 u2 u3; have ul := HX5.out.1.lt; obtain ⟨g0, g1, g2, g3⟩ := HX5.out.1.free; clear hb) | (have HB5 := Lib.hid (HB4.out.trans (hb.mono HB4.out.size)); clear hb)); (have HQ5 := Lib.hid (show w5.heap.size ≠ p from by have := HB5.out.size; have := HPL.out; omega))))
    all_goals
      first
      | (have HN := Lib.hid ((H1.out.snap HB5.out HX5.out.1 (Nat.le_trans HB0.out.size HX5.out.2) HOP.out).put ⟨1, 2, 0, 0⟩); go_wp2_with fail; go_meet; exact ⟨_, rfl, rfl, HN⟩)
      | (have HN := Lib.hid ((H1.out.snap HB5.out HX5.out.1 (Nat.le_trans HB4.out.size HX5.out.2) HOP.out).put ⟨1, 2, 0, 0⟩); go_wp2_with fail; go_meet; exact ⟨_, rfl, rfl, HN⟩)
      | (have HN := Lib.hid (H1.out.snap (bal HB5.out (.cells #[.int .i64 1, .int .i64 2, .int .i64 0, .int .i64 0] 43)) (NB.start w5 ⟨1, 2, 0, 0⟩ 43) HB5.out.size HOP.out); go_wp2_with fail; go_meet; exact ⟨_, rfl, rfl, HN⟩)
  case rest =>
    clear HSK HB0 HOP H1 HPL HQ0
    obtain ⟨q, rfl, rfl, HN⟩ := hcut
    obtain ⟨y0, y1, y2, y3, y4, y5, y6, y7, y8, y9, y10⟩ := HN.out.qb.k
    have yl := HN.out.qb.lt
    obtain ⟨p0, p1, p2, p3⟩ := HN.out.nb.k
    have pl := HN.out.nb.lt
    simp only at p0 p1 p2 p3
    go_wp2_with fail
    clear y0 y1 y2 y3 y4 y5 y6 y7 y8 y9 y10 yl p0 p1 p2 p3 pl
    refine (HCA.out.s2 _ _).mono ?_
    rintro e w2 ⟨rfl, hb⟩
    have HM := Lib.hid (show Na14 w p q A0 Y ⟨2, 2, 9, 2⟩ ((((w2.setCell ⟨q, 0, none⟩ (.int .i64 2)).setCell ⟨q, 1, none⟩ (.int .i64 2)).setCell ⟨q, 2, none⟩ (.int .i64 9)).setCell ⟨q, 3, none⟩ (.int .i64 2)) from (HN.out.below hb).put ⟨2, 2, 9, 2⟩)
    replace HN := Lib.hid (HN.out.below hb)
    clear hb
    obtain ⟨p0, p1, p2, p3⟩ := HN.out.nb.k
    have pl := HN.out.nb.lt
    obtain ⟨f0, f1, f2, f3⟩ := HN.out.nb.free
    go_upto_region 4 with (fail)
    clear p0 p1 p2 p3 pl f0 f1 f2 f3 HN
    have HN := Lib.hid HM.out
    clear HM
    generalize (((w2.setCell ⟨q, 0, none⟩ (.int .i64 2)).setCell ⟨q, 1, none⟩ (.int .i64 2)).setCell ⟨q, 2, none⟩ (.int .i64 9)).setCell ⟨q, 3, none⟩ (.int .i64 2) = x2 at *
    obtain ⟨y0, y1, y2, y3, y4, y5, y6, y7, y8, y9, y10⟩ := HN.out.qb.k
    have yl := HN.out.qb.lt
    obtain ⟨p0, p1, p2, p3⟩ := HN.out.nb.k
    have pl := HN.out.nb.lt
    simp only at p0 p1 p2 p3
    go_wp2_with fail
    clear y0 y1 y2 y3 y4 y5 y6 y7 y8 y9 y10 yl p0 p1 p2 p3 pl
    refine (HCA.out.s3 _ _).mono ?_
    rintro e w3 ⟨rfl, hb⟩
    have HM := Lib.hid (show Na14 w p q A0 Y ⟨3, 2, 9, 2⟩ ((((w3.setCell ⟨q, 0, none⟩ (.int .i64 3)).setCell ⟨q, 1, none⟩ (.int .i64 2)).setCell ⟨q, 2, none⟩ (.int .i64 9)).setCell ⟨q, 3, none⟩ (.int .i64 2)) from (HN.out.below hb).put ⟨3, 2, 9, 2⟩)
    replace HN := Lib.hid (HN.out.below hb)
    clear hb
    obtain ⟨p0, p1, p2, p3⟩ := HN.out.nb.k
    have pl := HN.out.nb.lt
    obtain ⟨f0, f1, f2, f3⟩ := HN.out.nb.free
    go_upto_region 5 with (fail)
    clear p0 p1 p2 p3 pl f0 f1 f2 f3 HN
    have HN := Lib.hid HM.out
    clear HM
    generalize (((w3.setCell ⟨q, 0, none⟩ (.int .i64 3)).setCell ⟨q, 1, none⟩ (.int .i64 2)).setCell ⟨q, 2, none⟩ (.int .i64 9)).setCell ⟨q, 3, none⟩ (.int .i64 2) = x3 at *
    obtain ⟨p0, p1, p2, p3⟩ := HN.out.nb.k
    have pl := HN.out.nb.lt
    simp only at p0 p1 p2 p3
    have HFIN := Lib.hid HN.out.bel
    clear HN HCA
    go_wp2
    go_ret
    exact ⟨rfl, HFIN.out⟩
end Go.Proofs.Ytijpflljopckiaa
