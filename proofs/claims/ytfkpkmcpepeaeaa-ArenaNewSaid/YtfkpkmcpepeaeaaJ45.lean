/- What is proved here: arena.New by a contract; a setup among the arguments opened to its numbers, and shut again; in the statements of layer 12, awake is true. -/
import Derived.Test.YtfkpkmcpepeaeaaJ39
import Derived.Deep.DeepCutAuto
import Derived.Deep.RegionHeld3
import Derived.Test.YtfkpkmcpepeaeaaJ33
import Derived.Lib.SmallJoins
import Derived.ChangeSame
import Derived.Test.YtfkpkmcpepeaeaaJ44
import Derived.Test.YtfkpkmcpepeaeaaJ43
namespace Go.Proofs.Ytfkpkmcpepeaeaa
open Go.RowKit
set_option linter.unusedVariables false

set_option maxHeartbeats 8000000 in
set_option maxRecDepth 20000 in
theorem anew_any (s : Su) (w : World) : Calls Try.prog 22 #[s.v] w (AE w (nwA s) (nwAE s)) := by
  have H0 := Lib.hid (Pn12.start w s)
  have HIS := Lib.hid (fun W => isset_any s W)
  have HDN := Lib.hid (fun W => dnew_any s.sl s.lv W)
  have HDE := Lib.hid (fun W => new8_any s.dd W)
  have HA := Lib.hid (rfl : nwA s = if suB s = true then grA s s.sl.toNat s.sl.toNat s.dd else zA)
  have HE := Lib.hid (rfl : nwAE s = if suB s = true then 0 else 1)
  obtain ⟨i0, hi0, hz0⟩ := Option.map_eq_some_iff.1 info_sl
  obtain ⟨i1, hi1, hz1⟩ := Option.map_eq_some_iff.1 info_st12
  simp only [Prod.mk.injEq] at hz0 hz1
  have HI := Lib.hid hi0
  have HZ := Lib.hid hz0
  have HI1 := Lib.hid hi1
  have HZ1 := Lib.hid hz1
  clear hi0 hz0 hi1 hz1
  obtain ⟨p, hp⟩ : ∃ p, p = w.heap.size := ⟨_, rfl⟩
  obtain ⟨r, hr⟩ : ∃ r, r = w.heap.size + 1 := ⟨_, rfl⟩
  have HPP := Lib.hid (And.intro hp hr)
  clear hp hr
  cases hs : suB s with
  | false =>
    rw [hs] at HIS
    have HA2 := Lib.hid (show nwA s = zA from HA.out.trans (if_neg (by rw [hs]; decide)))
    have HE2 := Lib.hid (show nwAE s = 1 from HE.out.trans (if_neg (by rw [hs]; decide)))
    clear hs HA HE
    go_enter Try.func22, Try.ntmps22
    obtain ⟨k0, k1, k2, k3, k4, k5, k6, k7⟩ := H0.out.sb.k
    have kl := H0.out.sb.lt
    go_wp2_with fail
    clear k0 k1 k2 k3 k4 k5 k6 k7 kl
    rw [← HPP.out.2, ← HPP.out.1] at H0
    generalize (w.alloc (.cells #[.int .i64 s.sl, .int .i64 s.lv, .int .i64 s.cp, .int .i64 s.dd, .int .i64 s.lm, .int .i64 s.ck, .int .i64 s.ni, .int .i64 s.ep] 50)).alloc (.cells #[.slice none 0 0, .slice none 0 0, .int .i64 0, .int .i64 0, .slice none 0 0, .int .i64 0, .slice none 0 0, .slice none 0 0, .int .i64 0, .int .i64 0, .int .i64 0] 60) = w1 at *
    rw [← HPP.out.2, ← HPP.out.1]
    refine (HIS.out _).mono ?_
    rintro e w2 ⟨rfl, hb⟩
    have H1 := Lib.hid (H0.out.below hb)
    clear hb H0
    obtain ⟨k0, k1, k2, k3, k4, k5, k6, k7, k8, k9, k10⟩ := H1.out.rb.k
    obtain ⟨f0, f1, f2, f3, f4, f5, f6, f7, f8, f9, f10⟩ := H1.out.rb.free
    have kl := H1.out.rb.lt
    have HF := Lib.hid (show AE w (nwA s) (nwAE s) (.returned (.tuple #[av zA zAx, .int .i64 1])) (set11 w2 r zA zAx) from by
      rw [HA2.out, HE2.out]
      have := H1.out.ne
      exact ae_out (y := r) (by omega) H1.out.bel (zAx_nw _) (Nat.le_refl _) AR.zero 1)
    clear HA2 HE2 H1
    go_wp2
    exact bodyPost_ret (v := .tuple #[.agg #[.slice none 0 0, .slice none 0 0, .int .i64 0, .int .i64 0, .slice none 0 0, .int .i64 0, .slice none 0 0, .slice none 0 0, .int .i64 0, .int .i64 0, .int .i64 0], .int .i64 1]) (by simp only [results, Try.results22]; go_simp <;> rfl) rfl HF.out
  | true =>
    have HOK := Lib.hid (suB_iff.1 hs)
    rw [hs] at HIS
    have HA2 := Lib.hid (show nwA s = grA s s.sl.toNat s.sl.toNat s.dd from HA.out.trans (if_pos hs))
    have HE2 := Lib.hid (show nwAE s = 0 from HE.out.trans (if_pos hs))
    have HCP := Lib.hid (show nw8 s.dd = s.dd from if_pos (wi_true HOK.out.2.2.2.1.1 HOK.out.2.2.2.1.2))
    obtain ⟨n, hn⟩ : ∃ n : Nat, n = s.sl.toNat := ⟨_, rfl⟩
    have HNN := Lib.hid (show s.sl = (n : Int) ∧ n ≤ 6 from by have := HOK.out; unfold Su.Ok at this; omega)
    obtain ⟨k, hk⟩ : ∃ k : Nat, k = s.cp.toNat := ⟨_, rfl⟩
    have HKK := Lib.hid (show s.cp = (k : Int) ∧ 1 ≤ k ∧ k ≤ 12 ∧ k = s.cp.toNat from by have := HOK.out; unfold Su.Ok at this; omega)
    rw [← hn] at HA2
    rw [HCP.out] at HDE
    clear hs HA HE HCP hn hk
    go_enter Try.func22, Try.ntmps22
    obtain ⟨k0, k1, k2, k3, k4, k5, k6, k7⟩ := H0.out.sb.k
    have kl := H0.out.sb.lt
    go_wp2_with fail
    clear k0 k1 k2 k3 k4 k5 k6 k7 kl
    rw [← HPP.out.2, ← HPP.out.1] at H0
    generalize (w.alloc (.cells #[.int .i64 s.sl, .int .i64 s.lv, .int .i64 s.cp, .int .i64 s.dd, .int .i64 s.lm, .int .i64 s.ck, .int .i64 s.ni, .int .i64 s.ep] 50)).alloc (.cells #[.slice none 0 0, .slice none 0 0, .int .i64 0, .int .i64 0, .slice none 0 0, .int .i64 0, .slice none 0 0, .slice none 0 0, .int .i64 0, .int .i64 0, .int .i64 0] 60) = w1 at *
    rw [← HPP.out.2, ← HPP.out.1]
    refine (HIS.out _).mono ?_
    rintro e w2 ⟨rfl, hb⟩
    have H1 := Lib.hid (H0.out.below hb)
    clear hb H0
    have HY1 := Lib.hid (show Py12 w p r w2.heap.size s ⟨[], [], 0, 0, [], zD10, s.ep, s.ck, s.ni⟩ zAx (w2.alloc (.cells #[.slice none 0 0, .slice none 0 0, .int .i64 0, .int .i64 0, .slice none 0 0, .int .i64 0, .slice none 0 0, .slice none 0 0, .int .i64 s.ep, .int .i64 s.ck, .int .i64 s.ni] 60)) from ⟨H1.out.below ((Below.refl _ _).alloc (Nat.le_refl _) _), QB.start w2 ⟨[], [], 0, 0, [], zD10, s.ep, s.ck, s.ni⟩ zAx _, H1.out.rb.lt⟩)
    obtain ⟨k0, k1, k2, k3, k4, k5, k6, k7⟩ := H1.out.sb.k
    have kl := H1.out.sb.lt
    go_upto_region 4 with (fail)
    clear k0 k1 k2 k3 k4 k5 k6 k7 kl H1
    obtain ⟨y, hy⟩ : ∃ y, y = w2.heap.size := ⟨_, rfl⟩
    rw [← hy] at HY1 ⊢
    clear hy
    generalize w2.alloc (.cells #[.slice none 0 0, .slice none 0 0, .int .i64 0, .int .i64 0, .slice none 0 0, .int .i64 0, .slice none 0 0, .slice none 0 0, .int .i64 s.ep, .int .i64 s.ck, .int .i64 s.ni] 60) = w3 at *
    obtain ⟨k0, k1, k2, k3, k4, k5, k6, k7⟩ := HY1.out.pn.sb.k
    have kl := HY1.out.pn.sb.lt
    go_wp2_with fail
    clear k0 k1 k2 k3 k4 k5 k6 k7 kl
    refine (HDN.out _).mono ?_
    rintro e w4 ⟨X, rfl, hnw, hdr, hb⟩
    have HY2 := Lib.hid (HY1.out.below hb)
    have HXN := Lib.hid (hnw.low (show y + 1 ≤ _ from HY1.out.yb.lt))
    have HDR := Lib.hid hdr
    clear hb hnw hdr HY1 HDN
    have HY3 := Lib.hid (HY2.out.dir (nwD s.sl s.lv) X)
    have HDR3 := Lib.hid ((((HDR.out.offp (q := ⟨y, 5, none⟩) (HXN.out.off (Nat.lt_succ_self y)) (.int .i64 (nwD s.sl s.lv).vn)).offp (q := ⟨y, 6, none⟩) (HXN.out.off (Nat.lt_succ_self y)) (.slice X.A (nwD s.sl s.lv).l.length X.c)).offp (q := ⟨y, 7, none⟩) (HXN.out.off (Nat.lt_succ_self y)) (.slice X.A2 (nwD s.sl s.lv).F.length X.c2)).more (show w4.heap.size ≤ (((w4.setCell ⟨y, 5, none⟩ (.int .i64 (nwD s.sl s.lv).vn)).setCell ⟨y, 6, none⟩ (.slice X.A (nwD s.sl s.lv).l.length X.c)).setCell ⟨y, 7, none⟩ (.slice X.A2 (nwD s.sl s.lv).F.length X.c2)).heap.size by simp))
    obtain ⟨k0, k1, k2, k3, k4, k5, k6, k7, k8, k9, k10⟩ := HY2.out.yb.k
    obtain ⟨f0, f1, f2, f3, f4, f5, f6, f7, f8, f9, f10⟩ := HY2.out.yb.free
    have kl := HY2.out.yb.lt
    go_upto_region 5 with (fail)
    clear k0 k1 k2 k3 k4 k5 k6 k7 k8 k9 k10 f0 f1 f2 f3 f4 f5 f6 f7 f8 f9 f10 kl HY2 HDR
    generalize ((w4.setCell ⟨y, 5, none⟩ (.int .i64 (nwD s.sl s.lv).vn)).setCell ⟨y, 6, none⟩ (.slice X.A (nwD s.sl s.lv).l.length X.c)).setCell ⟨y, 7, none⟩ (.slice X.A2 (nwD s.sl s.lv).F.length X.c2) = w5 at *
    obtain ⟨k0, k1, k2, k3, k4, k5, k6, k7⟩ := HY3.out.pn.sb.k
    have kl := HY3.out.pn.sb.lt
    go_wp2_with fail
    clear k0 k1 k2 k3 k4 k5 k6 k7 kl
    refine (HDE.out _).mono ?_
    rintro e w6 ⟨rfl, hb⟩
    have HY4 := Lib.hid (HY3.out.below hb)
    have HDR4 := Lib.hid (HDR3.out.up hb)
    clear hb HY3 HDR3 HDE
    have HG := Lib.hid ((HY4.out.dead s.dd).grow (((HDR4.out.offp (q := ⟨y, 3, none⟩) (HXN.out.off (Nat.lt_succ_self y)) (.int .i64 s.dd)).offp (q := ⟨y, 4, none⟩) (HXN.out.off (Nat.lt_succ_self y)) (.slice none 0 0)).more (by simp)) ⟨HXN.out.low (by have := HY4.out.ry; omega), HXN.out.off (Nat.lt_succ_self y)⟩)
    obtain ⟨k0, k1, k2, k3, k4, k5, k6, k7, k8, k9, k10⟩ := HY4.out.yb.k
    obtain ⟨f0, f1, f2, f3, f4, f5, f6, f7, f8, f9, f10⟩ := HY4.out.yb.free
    have kl := HY4.out.yb.lt
    go_upto_region 6 with (fail)
    clear k0 k1 k2 k3 k4 k5 k6 k7 k8 k9 k10 f0 f1 f2 f3 f4 f5 f6 f7 f8 f9 f10 kl HY4 HDR4 HXN
    generalize (w6.setCell ⟨y, 3, none⟩ (.int .i64 s.dd)).setCell ⟨y, 4, none⟩ (.slice none 0 0) = w7 at *
    obtain ⟨k0, k1, k2, k3, k4, k5, k6, k7⟩ := HG.out.sb.k
    have kl := HG.out.sb.lt
    have hsl := HNN.out.1
    rw [hsl] at k0
    clear hsl
    go_wp2_with fail
    clear k0 k1 k2 k3 k4 k5 k6 k7 kl
    go_loopw [36] (fun iv wr => ∃ (i : Nat) (A : Option Addr) (c1 : Nat) (q : List Sl) (A2 : Option Addr) (c2 : Nat), iv = .int .i64 i ∧ i ≤ n ∧ Hid (Gw12 w p r y s s.dd i i A c1 q A2 c2 X wr)) (fun iv _ => n - (intOf iv).toNat)
    case atStart => exact ⟨0, none, 0, [], none, 0, rfl, Nat.zero_le _, HG⟩
    case round =>
      clear HG
      obtain ⟨i, A, c1, q, A2, c2, rfl, hi, HG⟩ := hrel
      by_cases hlt : i < n
      · have hlt' : (i : Int) < (n : Int) := by omega
        have hi6 : i < 6 := by have := HNN.out.2; omega
        have HI6 := Lib.hid hi6
        have hw1 : IntKind.i64.wrap ((i : Int) + 1) = (i : Int) + 1 := IntWalk.i64_in _ (by omega)
        obtain ⟨FF, hFF⟩ : ∃ FF, FF = ffS (nwD s.sl s.lv) (i : Int) k := ⟨_, rfl⟩
        have HFS := Lib.hid (fun W (k0 : Gw12 w p r y s s.dd i i A c1 q A2 c2 X W) => fshard_any (nwD s.sl s.lv) X (i : Int) k W k0.dr HKK.out.2.1 HKK.out.2.2.1)
        rw [← hFF] at HFS
        have HSO := Lib.hid (show ∀ D, Sl.so ⟨0, FF, D⟩ = nwSl s i from fun D => by unfold nwSl; rw [← HKK.out.2.2.2, ← hFF]; rfl)
        clear hFF hi hi6
        have HD := Lib.hid HG.out.drew
        obtain ⟨y0, y1, y2, y3, y4, y5, y6, y7, y8, y9, y10⟩ := HG.out.yk
        have yl := HG.out.yl
        obtain ⟨k0, k1, k2, k3, k4, k5, k6, k7⟩ := HG.out.sb.k
        have kl := HG.out.sb.lt
        have hcp := HKK.out.1
        rw [hcp] at k2
        clear hcp
        go_upto_region 9 with (fail)
        go_cut [5] (fun s5 wx => s5 = .int .i64 i ∧ ∃ (A : Option Addr) (c1 : Nat) (q : List Sl), Hid (Gw12 w p r y s s.dd (i + 1) i A c1 q A2 c2 X wx))
        case first =>
          go_region_law (first
            | (go_simp; go_at_call 44; (with_reducible refine (HFS.out _ HD.out).mono ?_); rintro e w4 ⟨D, rfl, hn, hr, hb⟩; have HTN := Lib.hid hn; have HD4 := Lib.hid (HD.out.below hb); have HD5 := Lib.hid (HD4.out.alloc (.cells (Sl.mk 0 FF D).l.toArray 89)); have HTR := Lib.hid (hr.up ((Below.refl w4.heap.size w4).alloc (Nat.le_refl _) (.cells (Sl.mk 0 FF D).l.toArray 89))); obtain ⟨z0, z1, z2, z3, z4, z5, z6, z7, z8, z9, z10⟩ := HD4.out.yk; have zl := HD4.out.yl; clear hn hr hb)
            | (refine step_append_lies _ (by rfl) _ _ _ (by rfl) (y + 1) 89 i0 _ 9 120 Try.underlying52 HI.out HZ.out.1 HZ.out.2.1 HZ.out.2.2 rfl (by omega) (.slice A i c1) i (qcs q) (by rfl) HD5.out.o1 ⟨w4.heap.size, 0, none⟩ 1 1 (Sl.mk 0 FF D).l (by rfl) (by rfl) (World.news_of_block (cs := (Sl.mk 0 FF D).l.toArray) (t := 89) (fr := (0, 0)) (heap_alloc_new w4 _)) (Sl.l_one _) (by omega) (by have := HI6.out; unfold maxLen; omega) (by have := HI6.out; omega) (Nat.succ_le_of_lt HD5.out.yl) _ rfl ?_; intro g1 cp1 w8 hown1 hgrow1 hat1 hlt1; have HP8 := Lib.hid (HD.out.slot (T := Sl.mk 0 FF D) HD5.out (HSO.out D) HTR.out HTN.out hown1 hgrow1 hat1); obtain ⟨v1, v2, v3⟩ := HD5.out.near1 hgrow1; clear hown1 hgrow1 hat1 hlt1))
          all_goals
            have HQ := Lib.hid HP8.out
            clear HP8 HG HD HD4 HD5 HTN HTR HFS HSO
            go_wp2_with fail
            go_meet
            exact ⟨rfl, _, _, _, HQ⟩
        case rest =>
          obtain ⟨rfl, A, c1, q, HQ⟩ := hcut
          clear y0 y1 y2 y3 y4 y5 y6 y7 y8 y9 y10 yl k0 k1 k2 k3 k4 k5 k6 k7 kl HG HD HFS HSO
          generalize wc = w9 at *
          obtain ⟨y0, y1, y2, y3, y4, y5, y6, y7, y8, y9, y10⟩ := HQ.out.yk
          have yl := HQ.out.yl
          obtain ⟨k0, k1, k2, k3, k4, k5, k6, k7⟩ := HQ.out.sb.k
          have kl := HQ.out.sb.lt
          go_wp2_with (at_builtin; refine wpList_append_lies _ rfl _ _ _ rfl (y + 1) 91 i1 _ 4 32 Try.underlying53 HI1.out HZ1.out.1 HZ1.out.2.1 HZ1.out.2.2 rfl (by omega) (.slice A2 i c2) i (tcs (List.replicate i (stE s))) (by rfl) (HQ.out.alloc _).o2 ⟨w9.heap.size, 0, none⟩ 1 1 (stE s).l (by rfl) (by rfl) (World.news_of_block (cs := (stE s).l.toArray) (t := 91) (fr := (0, 0)) (heap_alloc_new w9 _)) (St.l_one _) (by omega) (by have := HI6.out; unfold maxLen; omega) (by have := HI6.out; omega) (Nat.succ_le_of_lt (HQ.out.alloc _).yl) _ rfl ?_; intro g2 cp2 w10 hown2 hgrow2 hat2 hlt2; have HR := Lib.hid ((HQ.out.alloc _).stripe hown2 hgrow2 hat2); obtain ⟨u1, u2, u3⟩ := (HQ.out.alloc _).near2 hgrow2; clear hown2 hgrow2 hat2 hlt2)
          go_roundw
          case rel => exact ⟨i + 1, _, _, _, _, _, by go_num, by omega, HR⟩
          case measure => simp [intOf]; omega
      · obtain rfl : i = n := by omega
        clear hi hlt
        have HAR := Lib.hid HG.out.ar
        have HAN := Lib.hid HG.out.anw
        obtain ⟨y0, y1, y2, y3, y4, y5, y6, y7, y8, y9, y10⟩ := HG.out.yk
        have yl := HG.out.yl
        obtain ⟨k0, k1, k2, k3, k4, k5, k6, k7, k8, k9, k10⟩ := HG.out.rb.k
        obtain ⟨f0, f1, f2, f3, f4, f5, f6, f7, f8, f9, f10⟩ := HG.out.rb.free
        have kl := HG.out.rb.lt
        have hyr : ¬ y = r := by have := HG.out.ne; omega
        have hry : ¬ r = y := fun e => hyr e.symm
        have HF := Lib.hid (show AE w (nwA s) (nwAE s) (.returned (.tuple #[.agg #[.slice A i c1, .slice A2 i c2, .int .i64 0, .int .i64 s.dd, .slice none 0 0, .int .i64 (nwD s.sl s.lv).vn, .slice X.A (nwD s.sl s.lv).l.length X.c, .slice X.A2 (nwD s.sl s.lv).F.length X.c2, .int .i64 s.ep, .int .i64 s.ck, .int .i64 s.ni], .int .i64 0])) (((((((((((wr.setCell ⟨r, 0, none⟩ (.slice A i c1)).setCell ⟨r, 1, none⟩ (.slice A2 i c2)).setCell ⟨r, 2, none⟩ (.int .i64 0)).setCell ⟨r, 3, none⟩ (.int .i64 s.dd)).setCell ⟨r, 4, none⟩ (.slice none 0 0)).setCell ⟨r, 5, none⟩ (.int .i64 (nwD s.sl s.lv).vn)).setCell ⟨r, 6, none⟩ (.slice X.A (nwD s.sl s.lv).l.length X.c)).setCell ⟨r, 7, none⟩ (.slice X.A2 (nwD s.sl s.lv).F.length X.c2)).setCell ⟨r, 8, none⟩ (.int .i64 s.ep)).setCell ⟨r, 9, none⟩ (.int .i64 s.ck)).setCell ⟨r, 10, none⟩ (.int .i64 s.ni)) from by
          rw [HA2.out, HE2.out]
          have := HG.out.ne
          have h := ae_out (show w.heap.size ≤ r by omega) HG.out.bel HAN.out (by omega) HAR.out 0
          simp only [av, set11, grA_sl, grA_st] at h
          exact h)
        clear HAR HAN HA2 HE2 HG
        go_wp2
        exact bodyPost_ret (v := .tuple #[.agg #[.slice A i c1, .slice A2 i c2, .int .i64 0, .int .i64 s.dd, .slice none 0 0, .int .i64 (nwD s.sl s.lv).vn, .slice X.A (nwD s.sl s.lv).l.length X.c, .slice X.A2 (nwD s.sl s.lv).F.length X.c2, .int .i64 s.ep, .int .i64 s.ck, .int .i64 s.ni], .int .i64 0]) (by simp only [results, Try.results22]; go_simp <;> rfl) rfl HF.out
end Go.Proofs.Ytfkpkmcpepeaeaa
namespace Go.Proofs.Ytfkpkmcpepeaeaa
open Go.Joins Go.ChangeShapes Go.WideShapes Go.RowKit Go.Deep
set_option linter.unusedVariables false

section
variable {H : Type} {enc : TypeId × Value → H} {P : Program} {w : World} {base : Nat} {spare : Nat → Bool} {held : Bool}
theorem open_agg8 {r : Reach} {b0 : Nat} {t : TypeId} {f0 f1 f2 f3 f4 f5 f6 f7 : Field} {v : Value} {d : DataW H} {p : List MemPlace} (hs : P.underlying t = some (.struct #[f0, f1, f2, f3, f4, f5, f6, f7])) (hone : oneCellFields P #[f0, f1, f2, f3, f4, f5, f6, f7] = true) (hC : P.cellsOf t = 8)
    (hv : Value.okWide P w r b0 t v) (h : DataW.Trod enc P w base spare held t v d p) :
    ∃ (v0 v1 v2 v3 v4 v5 v6 v7 : Value) (y0 y1 y2 y3 y4 y5 y6 y7 : DataW H × List MemPlace) (n : Nat), v = .agg #[v0, v1, v2, v3, v4, v5, v6, v7] ∧ d = .agg [y0.1, y1.1, y2.1, y3.1, y4.1, y5.1, y6.1, y7.1] ∧ p = y0.2 ++ (y1.2 ++ (y2.2 ++ (y3.2 ++ (y4.2 ++ (y5.2 ++ (y6.2 ++ (y7.2))))))) ∧
      DataW.trod enc P w base spare held n f0.type [v0] = some y0 ∧ DataW.trod enc P w base spare held n f1.type [v1] = some y1 ∧ DataW.trod enc P w base spare held n f2.type [v2] = some y2 ∧ DataW.trod enc P w base spare held n f3.type [v3] = some y3 ∧ DataW.trod enc P w base spare held n f4.type [v4] = some y4 ∧ DataW.trod enc P w base spare held n f5.type [v5] = some y5 ∧ DataW.trod enc P w base spare held n f6.type [v6] = some y6 ∧ DataW.trod enc P w base spare held n f7.type [v7] = some y7 := by
  obtain ⟨cs, rfl, hsz⟩ := okWide_struct hs hv
  obtain ⟨l⟩ := cs
  match l, hsz.trans hC with
  | [c0, c1, c2, c3, c4, c5, c6, c7], _ =>
    obtain ⟨fuel, hf⟩ := h
    obtain ⟨xs, n, _, hx, _, hlen, hg⟩ := DataW.trod_struct hs hf
    obtain ⟨o0, k0⟩ := hone_of hone 0 f0 rfl
    obtain ⟨o1, k1⟩ := hone_of hone 1 f1 rfl
    obtain ⟨o2, k2⟩ := hone_of hone 2 f2 rfl
    obtain ⟨o3, k3⟩ := hone_of hone 3 f3 rfl
    obtain ⟨o4, k4⟩ := hone_of hone 4 f4 rfl
    obtain ⟨o5, k5⟩ := hone_of hone 5 f5 rfl
    obtain ⟨o6, k6⟩ := hone_of hone 6 f6 rfl
    obtain ⟨o7, k7⟩ := hone_of hone 7 f7 rfl
    match xs, hlen with
    | [y0, y1, y2, y3, y4, y5, y6, y7], _ =>
      simp only [Prod.mk.injEq] at hx
      exact ⟨c0, c1, c2, c3, c4, c5, c6, c7, y0, y1, y2, y3, y4, y5, y6, y7, n, rfl, by simpa using hx.1, by simpa using hx.2, by simpa [Value.cells, o0, k0] using hg 0 f0 rfl, by simpa [Value.cells, o1, k1] using hg 1 f1 rfl, by simpa [Value.cells, o2, k2] using hg 2 f2 rfl, by simpa [Value.cells, o3, k3] using hg 3 f3 rfl, by simpa [Value.cells, o4, k4] using hg 4 f4 rfl, by simpa [Value.cells, o5, k5] using hg 5 f5 rfl, by simpa [Value.cells, o6, k6] using hg 6 f6 rfl, by simpa [Value.cells, o7, k7] using hg 7 f7 rfl⟩

theorem shut_agg8 {t : TypeId} {f0 f1 f2 f3 f4 f5 f6 f7 : Field} {v0 v1 v2 v3 v4 v5 v6 v7 : Value} {y0 y1 y2 y3 y4 y5 y6 y7 : DataW H × List MemPlace} (hs : P.underlying t = some (.struct #[f0, f1, f2, f3, f4, f5, f6, f7])) (hone : oneCellFields P #[f0, f1, f2, f3, f4, f5, f6, f7] = true) (hC : P.cellsOf t = 8)
    (t0 : ∃ n, DataW.trod enc P w base spare held n f0.type [v0] = some y0) (t1 : ∃ n, DataW.trod enc P w base spare held n f1.type [v1] = some y1) (t2 : ∃ n, DataW.trod enc P w base spare held n f2.type [v2] = some y2) (t3 : ∃ n, DataW.trod enc P w base spare held n f3.type [v3] = some y3) (t4 : ∃ n, DataW.trod enc P w base spare held n f4.type [v4] = some y4) (t5 : ∃ n, DataW.trod enc P w base spare held n f5.type [v5] = some y5) (t6 : ∃ n, DataW.trod enc P w base spare held n f6.type [v6] = some y6) (t7 : ∃ n, DataW.trod enc P w base spare held n f7.type [v7] = some y7) :
    DataW.Trod enc P w base spare held t (.agg #[v0, v1, v2, v3, v4, v5, v6, v7]) (.agg [y0.1, y1.1, y2.1, y3.1, y4.1, y5.1, y6.1, y7.1]) (y0.2 ++ (y1.2 ++ (y2.2 ++ (y3.2 ++ (y4.2 ++ (y5.2 ++ (y6.2 ++ (y7.2)))))))) := by
  obtain ⟨n0, t0⟩ := t0
  obtain ⟨n1, t1⟩ := t1
  obtain ⟨n2, t2⟩ := t2
  obtain ⟨n3, t3⟩ := t3
  obtain ⟨n4, t4⟩ := t4
  obtain ⟨n5, t5⟩ := t5
  obtain ⟨n6, t6⟩ := t6
  obtain ⟨n7, t7⟩ := t7
  obtain ⟨o0, k0⟩ := hone_of hone 0 f0 rfl
  obtain ⟨o1, k1⟩ := hone_of hone 1 f1 rfl
  obtain ⟨o2, k2⟩ := hone_of hone 2 f2 rfl
  obtain ⟨o3, k3⟩ := hone_of hone 3 f3 rfl
  obtain ⟨o4, k4⟩ := hone_of hone 4 f4 rfl
  obtain ⟨o5, k5⟩ := hone_of hone 5 f5 rfl
  obtain ⟨o6, k6⟩ := hone_of hone 6 f6 rfl
  obtain ⟨o7, k7⟩ := hone_of hone 7 f7 rfl
  have s0 : DataW.trod enc P w base spare held (n0 + n1 + n2 + n3 + n4 + n5 + n6 + n7) f0.type ((([v0, v1, v2, v3, v4, v5, v6, v7] : List Value).drop f0.offset).take (P.cellsOf f0.type)) = some y0 := by simpa [o0, k0] using DataW.trod_le (show n0 ≤ n0 + n1 + n2 + n3 + n4 + n5 + n6 + n7 by omega) t0
  have s1 : DataW.trod enc P w base spare held (n0 + n1 + n2 + n3 + n4 + n5 + n6 + n7) f1.type ((([v0, v1, v2, v3, v4, v5, v6, v7] : List Value).drop f1.offset).take (P.cellsOf f1.type)) = some y1 := by simpa [o1, k1] using DataW.trod_le (show n1 ≤ n0 + n1 + n2 + n3 + n4 + n5 + n6 + n7 by omega) t1
  have s2 : DataW.trod enc P w base spare held (n0 + n1 + n2 + n3 + n4 + n5 + n6 + n7) f2.type ((([v0, v1, v2, v3, v4, v5, v6, v7] : List Value).drop f2.offset).take (P.cellsOf f2.type)) = some y2 := by simpa [o2, k2] using DataW.trod_le (show n2 ≤ n0 + n1 + n2 + n3 + n4 + n5 + n6 + n7 by omega) t2
  have s3 : DataW.trod enc P w base spare held (n0 + n1 + n2 + n3 + n4 + n5 + n6 + n7) f3.type ((([v0, v1, v2, v3, v4, v5, v6, v7] : List Value).drop f3.offset).take (P.cellsOf f3.type)) = some y3 := by simpa [o3, k3] using DataW.trod_le (show n3 ≤ n0 + n1 + n2 + n3 + n4 + n5 + n6 + n7 by omega) t3
  have s4 : DataW.trod enc P w base spare held (n0 + n1 + n2 + n3 + n4 + n5 + n6 + n7) f4.type ((([v0, v1, v2, v3, v4, v5, v6, v7] : List Value).drop f4.offset).take (P.cellsOf f4.type)) = some y4 := by simpa [o4, k4] using DataW.trod_le (show n4 ≤ n0 + n1 + n2 + n3 + n4 + n5 + n6 + n7 by omega) t4
  have s5 : DataW.trod enc P w base spare held (n0 + n1 + n2 + n3 + n4 + n5 + n6 + n7) f5.type ((([v0, v1, v2, v3, v4, v5, v6, v7] : List Value).drop f5.offset).take (P.cellsOf f5.type)) = some y5 := by simpa [o5, k5] using DataW.trod_le (show n5 ≤ n0 + n1 + n2 + n3 + n4 + n5 + n6 + n7 by omega) t5
  have s6 : DataW.trod enc P w base spare held (n0 + n1 + n2 + n3 + n4 + n5 + n6 + n7) f6.type ((([v0, v1, v2, v3, v4, v5, v6, v7] : List Value).drop f6.offset).take (P.cellsOf f6.type)) = some y6 := by simpa [o6, k6] using DataW.trod_le (show n6 ≤ n0 + n1 + n2 + n3 + n4 + n5 + n6 + n7 by omega) t6
  have s7 : DataW.trod enc P w base spare held (n0 + n1 + n2 + n3 + n4 + n5 + n6 + n7) f7.type ((([v0, v1, v2, v3, v4, v5, v6, v7] : List Value).drop f7.offset).take (P.cellsOf f7.type)) = some y7 := by simpa [o7, k7] using DataW.trod_le (show n7 ≤ n0 + n1 + n2 + n3 + n4 + n5 + n6 + n7 by omega) t7
  have := trod_struct_mk (enc := enc) (w := w) (base := base) (spare := spare) (held := held) (n := n0 + n1 + n2 + n3 + n4 + n5 + n6 + n7) (cs := [v0, v1, v2, v3, v4, v5, v6, v7]) (xs := [y0, y1, y2, y3, y4, y5, y6, y7]) hs (by simp [hC]) (by simp only [List.mapM_cons, List.mapM_nil, s0, s1, s2, s3, s4, s5, s6, s7]; rfl)
  exact ⟨_, by simpa [Value.cells] using this⟩
end
/-- The setup as data. -/
def Su.d {H : Type} (x : Su) : DataW H := .agg [.lit (.int .i64 x.sl), .lit (.int .i64 x.lv), .lit (.int .i64 x.cp), .lit (.int .i64 x.dd), .lit (.int .i64 x.lm), .lit (.int .i64 x.ck), .lit (.int .i64 x.ni), .lit (.int .i64 x.ep)]
/-- Its numbers are numbers of 64 bits. -/
def Su.wf (x : Su) : Prop := (Lit.int .i64 x.sl).wf = true ∧ (Lit.int .i64 x.lv).wf = true ∧ (Lit.int .i64 x.cp).wf = true ∧ (Lit.int .i64 x.dd).wf = true ∧ (Lit.int .i64 x.lm).wf = true ∧ (Lit.int .i64 x.ck).wf = true ∧ (Lit.int .i64 x.ni).wf = true ∧ (Lit.int .i64 x.ep).wf = true
theorem setup_cells : Try.prog.cellsOf 50 = 8 := by kernel_rfl

section
variable {H : Type} {enc : TypeId × Value → H} {w : World} {base : Nat} {spare : Nat → Bool} {held : Bool}
set_option maxRecDepth 20000 in
theorem open_setup {r : Reach} {b0 : Nat} {v : Value} {d : DataW H} {p : List MemPlace} (hv : Value.okWide Try.prog w r b0 50 v) (h : DataW.Trod enc Try.prog w base spare held 50 v d p) :
    ∃ x : Su, v = x.v ∧ d = x.d ∧ p = [] ∧ x.wf := by
  obtain ⟨c0, c1, c2, c3, c4, c5, c6, c7, y0, y1, y2, y3, y4, y5, y6, y7, n, rfl, rfl, rfl, hy0, hy1, hy2, hy3, hy4, hy5, hy6, hy7⟩ := open_agg8 Try.underlying50 (by kernel_rfl) setup_cells hv h
  obtain ⟨a0, e0, rfl, w0⟩ := DataW.trod_int Try.underlying3 hy0
  obtain ⟨a1, e1, rfl, w1⟩ := DataW.trod_int Try.underlying3 hy1
  obtain ⟨a2, e2, rfl, w2⟩ := DataW.trod_int Try.underlying3 hy2
  obtain ⟨a3, e3, rfl, w3⟩ := DataW.trod_int Try.underlying3 hy3
  obtain ⟨a4, e4, rfl, w4⟩ := DataW.trod_int Try.underlying3 hy4
  obtain ⟨a5, e5, rfl, w5⟩ := DataW.trod_int Try.underlying3 hy5
  obtain ⟨a6, e6, rfl, w6⟩ := DataW.trod_int Try.underlying3 hy6
  obtain ⟨a7, e7, rfl, w7⟩ := DataW.trod_int Try.underlying3 hy7
  simp at e0 e1 e2 e3 e4 e5 e6 e7
  subst e0 e1 e2 e3 e4 e5 e6 e7
  exact ⟨⟨a0, a1, a2, a3, a4, a5, a6, a7⟩, rfl, rfl, rfl, w0, w1, w2, w3, w4, w5, w6, w7⟩
set_option maxRecDepth 20000 in
theorem shut_setup (x : Su) (h : x.wf) : DataW.Trod enc Try.prog w base spare held 50 x.v x.d [] := by
  obtain ⟨w0, w1, w2, w3, w4, w5, w6, w7⟩ := h
  exact shut_agg8 (y0 := (.lit (.int .i64 x.sl), [])) (y1 := (.lit (.int .i64 x.lv), [])) (y2 := (.lit (.int .i64 x.cp), [])) (y3 := (.lit (.int .i64 x.dd), [])) (y4 := (.lit (.int .i64 x.lm), [])) (y5 := (.lit (.int .i64 x.ck), [])) (y6 := (.lit (.int .i64 x.ni), [])) (y7 := (.lit (.int .i64 x.ep), [])) Try.underlying50 (by kernel_rfl) setup_cells
    ⟨1, by simp [DataW.trod, Try.underlying3, w0]⟩ ⟨1, by simp [DataW.trod, Try.underlying3, w1]⟩ ⟨1, by simp [DataW.trod, Try.underlying3, w2]⟩ ⟨1, by simp [DataW.trod, Try.underlying3, w3]⟩ ⟨1, by simp [DataW.trod, Try.underlying3, w4]⟩ ⟨1, by simp [DataW.trod, Try.underlying3, w5]⟩ ⟨1, by simp [DataW.trod, Try.underlying3, w6]⟩ ⟨1, by simp [DataW.trod, Try.underlying3, w7]⟩
end
end Go.Proofs.Ytfkpkmcpepeaeaa
namespace Go.Proofs.Ytfkpkmcpepeaeaa
open Go.RowKit
set_option linter.unusedVariables false

theorem ffS_len {d : Dd} {j : Int} {k : Nat} (h1 : 1 ≤ k) (h2 : k ≤ 12) : (ffS d j k).cs.length ≤ 1000 ∧ (ffS d j k).l.length ≤ 1000 ∧ (ffS d j k).h.length ≤ 1000 := by
  have hn : (nwC (k : Int)).length = k := by rw [(nwC_fil h1 h2 0 (by omega)).1, fil_len]
  unfold ffS
  split
  · unfold neS
    split
    · exact ⟨by show (nwC (k : Int)).length ≤ 1000; omega, Nat.zero_le _, Nat.zero_le _⟩
    · exact ⟨Nat.zero_le _, Nat.zero_le _, Nat.zero_le _⟩
  · exact ⟨by show (nwC (k : Int)).length ≤ 1000; omega, Nat.zero_le _, Nat.zero_le _⟩
theorem few_nw {s : Su} (hs : suB s = true) : (nwA s).Few := by
  have hok := suB_iff.1 hs
  unfold Su.Ok at hok
  have e : nwA s = grA s s.sl.toNat s.sl.toNat s.dd := if_pos hs
  rw [e]
  obtain ⟨n, hn⟩ : ∃ n : Nat, s.sl = n := ⟨s.sl.toNat, by omega⟩
  obtain ⟨m, hm⟩ : ∃ m : Nat, s.lv = m := ⟨s.lv.toNat, by omega⟩
  have hd : nwD s.sl s.lv = ⟨1, nwL m m, List.replicate n (-1)⟩ := by rw [hn, hm]; exact nwD_ok (by omega) (by omega) (by omega)
  refine ⟨by rw [grA_sl]; omega, by rw [grA_st]; omega, Nat.zero_le _, ?_, fun t ht => ?_⟩
  · show (nwD s.sl s.lv).l.length ≤ 1000 ∧ (nwD s.sl s.lv).F.length ≤ 1000
    rw [hd]
    exact ⟨by show (nwL m m).length ≤ 1000; rw [nwL_len]; omega, by show (List.replicate n (-1 : Int)).length ≤ 1000; rw [List.length_replicate]; omega⟩
  · have ht2 : t ∈ (List.range s.sl.toNat).map (nwSl s) := ht
    obtain ⟨i, -, rfl⟩ := List.mem_map.1 ht2
    exact ffS_len (by omega) (by omega)
theorem Ar.Few.own {a : Ar} (h : a.Few) (k : Nat) (v : Int) : (a.setOwn k v).Few := by
  unfold Ar.setOwn
  split
  · exact ⟨h.sl, h.st, h.dl, h.dr, h.sh⟩
  · refine ⟨by simpa using h.sl, h.st, h.dl, h.dr, fun s hs => ?_⟩
    rcases List.mem_or_eq_of_mem_set hs with h1 | rfl
    · exact h.sh s h1
    · by_cases hk : k < a.sl.length
      · have h1 := h.sh a.sl[k] (List.getElem_mem hk); rw [og_get hk]; exact h1
      · have e : og a.sl k = ⟨0, zS⟩ := by simp [og, List.getD, List.getElem?_eq_none (Nat.not_lt.1 hk)]
        rw [e]
        exact ⟨Nat.zero_le 1000, Nat.zero_le 1000, Nat.zero_le 1000⟩
abbrev su0 : Su := ⟨2, 1, 3, 1, 1, 0, 1, 0⟩
theorem aw_0 : suB su0 = true ∧ nwAE su0 = 0 := by decide
theorem aw_1 : (nwA su0).sl.length = 2 ∧ (nwA su0).own 0 = 0 := by
  have e : nwA su0 = grA su0 2 2 1 := if_pos aw_0.1
  rw [e]
  refine ⟨by rw [grA_sl], ?_⟩
  unfold Ar.own
  rw [grA_sl, if_neg (by decide)]
  rfl
theorem aw_2 : lkE 2 0 1 = 0 ∧ lkE 2 0 2 = 0 := by decide
theorem aw_3 : tlB (nwA su0) 0 1 = true ∧ tlA (nwA su0) 0 1 = (nwA su0).setOwn 0 1 ∧ ((nwA su0).setOwn 0 1).sl.length = 2 ∧ (og ((nwA su0).setOwn 0 1).sl 0).ow = 1 ∧ tlB ((nwA su0).setOwn 0 1) 0 2 = false := by
  have h1 := aw_1
  have h2 := aw_2
  have e : (nwA su0).setOwn 0 1 = ⟨(nwA su0).sl.set 0 ⟨1, (og (nwA su0).sl 0).sh⟩, (nwA su0).st, (nwA su0).ow, (nwA su0).cap, (nwA su0).dl, (nwA su0).dir, (nwA su0).ep, (nwA su0).ck, (nwA su0).ni⟩ := if_neg (by rw [h1.1]; decide)
  have hl : ((nwA su0).setOwn 0 1).sl.length = 2 := by rw [e]; simp [h1.1]
  have ho : (og ((nwA su0).setOwn 0 1).sl 0).ow = 1 := by
    rw [og_get (by rw [hl]; decide)]
    simp only [e]
    rw [List.getElem_set_self]
  refine ⟨?_, ?_, hl, ho, ?_⟩
  · unfold tlB
    rw [h1.1]
    exact decide_eq_true ⟨h2.1, h1.2⟩
  · unfold tlA
    rw [h1.1, if_pos h2.1]
    show (nwA su0).setOwn 0 (if (nwA su0).own 0 = 0 then 1 else (nwA su0).own 0) = _
    rw [if_pos h1.2]
  · unfold tlB
    rw [hl]
    refine decide_eq_false (fun h => ?_)
    have h3 : ((nwA su0).setOwn 0 1).own 0 = 0 := h.2
    unfold Ar.own at h3
    rw [hl, if_neg (by decide), ho] at h3
    exact absurd h3 (by decide)
/-- An arena in a box of the call's own. -/
structure Aw12 (w : World) (p : Nat) (a : Ar) (Y : Ax) (W : World) : Prop where
  qb : QB W p a Y
  ar : AR W W.heap.size a Y
  bel : Below w.heap.size w W
  old : w.heap.size ≤ p
section
variable {w W W' : World} {p : Nat} {a a' : Ar} {Y Z : Ax}
theorem Aw12.below (h : Aw12 w p a Y W) (hb : Below W.heap.size W W') : Aw12 w p a Y W' := ⟨h.qb.up hb, h.ar.up hb, h.bel.trans (hb.mono h.bel.size), h.old⟩
theorem Aw12.start (hb : Below w.heap.size w W) (h : AR W W.heap.size a Y) : Aw12 w W.heap.size a Y (W.alloc (.cells #[.slice Y.A a.sl.length Y.c, .slice Y.A2 a.st.length Y.c2, .int .i64 a.ow, .int .i64 a.cap, .slice Y.A3 a.dl.length Y.c3, .int .i64 a.dir.vn, .slice Y.D.A a.dir.l.length Y.D.c, .slice Y.D.A2 a.dir.F.length Y.D.c2, .int .i64 a.ep, .int .i64 a.ck, .int .i64 a.ni] 60)) :=
  ⟨QB.start W a Y _, h.alloc _, hb.alloc hb.size _, hb.size⟩
theorem Aw12.put (h : Aw12 w p a Y W) (hb : Below W.heap.size W W') (hn : Z.nw W.heap.size) (hr : AR W' W'.heap.size a' Z) : Aw12 w p a' Z (set11 W' p a' Z) :=
  have h' := h.below hb
  ⟨h'.qb.set a' Z, (hr.set11 (hn.off h.qb.lt) a' Z).more (by rw [set11_size]; exact Nat.le_refl _), set11_below h'.bel h.old a' Z, h.old⟩
end
set_option maxHeartbeats 8000000 in
set_option maxRecDepth 20000 in
theorem awake12_any (w : World) : Calls Try.prog 25 #[] w fun e w' => e = .returned (.bool true) ∧ Below w.heap.size w w' := by
  obtain ⟨A0, hA0⟩ : ∃ A, A = nwA su0 := ⟨_, rfl⟩
  obtain ⟨A1, hA1⟩ : ∃ A, A = (nwA su0).setOwn 0 1 := ⟨_, rfl⟩
  obtain ⟨A2, hA2⟩ : ∃ A, A = tlA A1 0 2 := ⟨_, rfl⟩
  have HF0 := Lib.hid (show A0.Few from by rw [hA0]; exact few_nw aw_0.1)
  have HF1 := Lib.hid (show A1.Few from by rw [hA1]; exact (few_nw aw_0.1).own 0 1)
  have HN := Lib.hid (fun W => show Calls Try.prog 22 #[.agg #[.int .i64 2, .int .i64 1, .int .i64 3, .int .i64 1, .int .i64 1, .int .i64 0, .int .i64 1, .int .i64 0]] W (AE W A0 0) from by
    have h := anew_any su0 W
    rw [aw_0.2, ← hA0] at h
    exact h)
  have HT1 := Lib.hid (fun Y W (h : AR W W.heap.size A0 Y) => show Calls Try.prog 52 #[av A0 Y, .int .i64 0, .int .i64 1] W (A3P W A1 true 0) from by
    have h1 := atrylock_any A0 Y 0 1 W h HF0.out
    rw [hA0, aw_3.1, aw_3.2.1, aw_1.1, aw_2.1, ← hA1, ← hA0] at h1
    exact h1)
  have HT2 := Lib.hid (fun Y W (h : AR W W.heap.size A1 Y) => show Calls Try.prog 52 #[av A1 Y, .int .i64 0, .int .i64 2] W (A3P W A2 false 0) from by
    have h1 := atrylock_any A1 Y 0 2 W h HF1.out
    rw [← hA2, hA1, aw_3.2.2.2.2, aw_3.2.2.1, aw_2.2, ← hA1] at h1
    exact h1)
  have HLN := Lib.hid (show A1.sl.length = 2 ∧ (og A1.sl 0).ow = 1 from by rw [hA1]; exact ⟨aw_3.2.2.1, aw_3.2.2.2.1⟩)
  clear hA0 hA1 hA2
  go_enter Try.func25, Try.ntmps25
  go_wp2_with fail
  refine (HN.out _).mono ?_
  rintro e w1 ⟨Y, rfl, hn, hr, hb⟩
  have H1 := Lib.hid (Aw12.start (w := w) hb hr)
  clear hn hr hb HN
  go_upto_region 2 with (fail)
  obtain ⟨p, hp⟩ : ∃ p, p = w1.heap.size := ⟨_, rfl⟩
  rw [← hp] at H1 ⊢
  clear hp
  generalize w1.alloc (.cells #[.slice Y.A A0.sl.length Y.c, .slice Y.A2 A0.st.length Y.c2, .int .i64 A0.ow, .int .i64 A0.cap, .slice Y.A3 A0.dl.length Y.c3, .int .i64 A0.dir.vn, .slice Y.D.A A0.dir.l.length Y.D.c, .slice Y.D.A2 A0.dir.F.length Y.D.c2, .int .i64 A0.ep, .int .i64 A0.ck, .int .i64 A0.ni] 60) = w2 at *
  obtain ⟨y0, y1, y2, y3, y4, y5, y6, y7, y8, y9, y10⟩ := H1.out.qb.k
  have yl := H1.out.qb.lt
  go_wp2_with fail
  clear y0 y1 y2 y3 y4 y5 y6 y7 y8 y9 y10 yl
  refine (HT1.out _ _ H1.out.ar).mono ?_
  rintro e w3 ⟨Z, rfl, hn, hr, hb⟩
  have H2 := Lib.hid (show Aw12 w p A1 Z (((((((((((w3.setCell ⟨p, 0, none⟩ (.slice Z.A A1.sl.length Z.c)).setCell ⟨p, 1, none⟩ (.slice Z.A2 A1.st.length Z.c2)).setCell ⟨p, 2, none⟩ (.int .i64 A1.ow)).setCell ⟨p, 3, none⟩ (.int .i64 A1.cap)).setCell ⟨p, 4, none⟩ (.slice Z.A3 A1.dl.length Z.c3)).setCell ⟨p, 5, none⟩ (.int .i64 A1.dir.vn)).setCell ⟨p, 6, none⟩ (.slice Z.D.A A1.dir.l.length Z.D.c)).setCell ⟨p, 7, none⟩ (.slice Z.D.A2 A1.dir.F.length Z.D.c2)).setCell ⟨p, 8, none⟩ (.int .i64 A1.ep)).setCell ⟨p, 9, none⟩ (.int .i64 A1.ck)).setCell ⟨p, 10, none⟩ (.int .i64 A1.ni)) from H1.out.put hb hn hr)
  have H2' := Lib.hid (H1.out.below hb)
  clear hn hr hb HT1 H1
  obtain ⟨y0, y1, y2, y3, y4, y5, y6, y7, y8, y9, y10⟩ := H2'.out.qb.k
  have yl := H2'.out.qb.lt
  obtain ⟨f0, f1, f2, f3, f4, f5, f6, f7, f8, f9, f10⟩ := H2'.out.qb.free
  go_upto_region 3 with (fail)
  clear y0 y1 y2 y3 y4 y5 y6 y7 y8 y9 y10 yl f0 f1 f2 f3 f4 f5 f6 f7 f8 f9 f10 H2'
  generalize ((((((((((w3.setCell ⟨p, 0, none⟩ (.slice Z.A A1.sl.length Z.c)).setCell ⟨p, 1, none⟩ (.slice Z.A2 A1.st.length Z.c2)).setCell ⟨p, 2, none⟩ (.int .i64 A1.ow)).setCell ⟨p, 3, none⟩ (.int .i64 A1.cap)).setCell ⟨p, 4, none⟩ (.slice Z.A3 A1.dl.length Z.c3)).setCell ⟨p, 5, none⟩ (.int .i64 A1.dir.vn)).setCell ⟨p, 6, none⟩ (.slice Z.D.A A1.dir.l.length Z.D.c)).setCell ⟨p, 7, none⟩ (.slice Z.D.A2 A1.dir.F.length Z.D.c2)).setCell ⟨p, 8, none⟩ (.int .i64 A1.ep)).setCell ⟨p, 9, none⟩ (.int .i64 A1.ck)).setCell ⟨p, 10, none⟩ (.int .i64 A1.ni) = w4 at *
  obtain ⟨y0, y1, y2, y3, y4, y5, y6, y7, y8, y9, y10⟩ := H2.out.qb.k
  have yl := H2.out.qb.lt
  go_wp2_with fail
  clear y0 y1 y2 y3 y4 y5 y6 y7 y8 y9 y10 yl
  refine (HT2.out _ _ H2.out.ar).mono ?_
  rintro e w5 ⟨V, rfl, hn, hr, hb⟩
  have H3 := Lib.hid ((H2.out.below hb).below ((Below.refl w5.heap.size w5).alloc (Nat.le_refl _) (.cells #[.slice V.A A2.sl.length V.c, .slice V.A2 A2.st.length V.c2, .int .i64 A2.ow, .int .i64 A2.cap, .slice V.A3 A2.dl.length V.c3, .int .i64 A2.dir.vn, .slice V.D.A A2.dir.l.length V.D.c, .slice V.D.A2 A2.dir.F.length V.D.c2, .int .i64 A2.ep, .int .i64 A2.ck, .int .i64 A2.ni] 60)))
  clear hn hr hb HT2 H2
  go_upto_region 4 with (fail)
  generalize w5.heap.size = q at *
  generalize w5.alloc (.cells #[.slice V.A A2.sl.length V.c, .slice V.A2 A2.st.length V.c2, .int .i64 A2.ow, .int .i64 A2.cap, .slice V.A3 A2.dl.length V.c3, .int .i64 A2.dir.vn, .slice V.D.A A2.dir.l.length V.D.c, .slice V.D.A2 A2.dir.F.length V.D.c2, .int .i64 A2.ep, .int .i64 A2.ck, .int .i64 A2.ni] 60) = w6 at *
  obtain ⟨D, b, o, hA, hb, h9, -, -⟩ := H3.out.ar.at2 (k := 0) (by rw [HLN.out.1]; decide)
  have h0 : w6.cell? ⟨b, o, none⟩ = some (.int .i64 1) := by
    have := h9.1
    rw [HLN.out.2] at this
    simpa using this
  obtain ⟨y0, -⟩ := H3.out.qb.k
  rw [HLN.out.1, hA] at y0
  have yl := H3.out.qb.lt
  have HFIN := Lib.hid H3.out.bel
  clear hA hb h9 H3 HLN HF0 HF1
  go_wp2
  go_ret
  exact ⟨rfl, HFIN.out⟩
end Go.Proofs.Ytfkpkmcpepeaeaa
