/- What is proved here: shard.Change by a contract; shard.Expire of a shard or of numbers with an error; what the five steps of ShardConserves give; Odd of the statements' base returns some message with a short body. -/
import Derived.Test.YtkkgfnncdaiooaaGreatJ40
import Derived.Test.YtkkgfnncdaiooaaGreatJ29
import Derived.Test.YtkkgfnncdaiooaaGreatJ30
import Derived.Test.YtkkgfnncdaiooaaGreatJ39
import Derived.Test.YtkkgfnncdaiooaaGreatJ38
import Derived.Test.YtkkgfnncdaiooaaGreatJ34
import Derived.Test.YtkkgfnncdaiooaaGreatJ07
namespace Go.Proofs.YtkkgfnncdaiooaaGreat
open Go.RowKit
set_option linter.unusedVariables false

noncomputable def chgF (S : Sh) (id dl : Int) : Sh := ⟨S.lv, S.lo, S.hi, S.cs, S.hd, S.sz, exL S.l S.h id dl, exH S.l S.h id dl⟩
noncomputable def chgE (S : Sh) (H : Hn) (now ep vis : Int) : Int := if heS S H now ep (wi vis 0 1000) ≠ 0 then heS S H now ep (wi vis 0 1000) else if 1073741824 < now + vis then 6 else 0
theorem he_nums {S : Sh} {H : Hn} {now ep : Int} {b : Bool} (h : heS S H now ep b = 0) : b = true ∧ (0 ≤ now ∧ now ≤ 1073741824) ∧ (0 ≤ ep ∧ ep ≤ 65536) ∧ exS S true = 0 := by
  unfold heS at h
  by_cases h0 : exS S (b && (wi now 0 1073741824 && wi ep 0 65536)) = 0
  · obtain ⟨h1, h2, h3⟩ := exS_zero h0
    rw [Bool.and_eq_true, Bool.and_eq_true] at h3
    exact ⟨h3.1, wi_of h3.2.1, wi_of h3.2.2, exS_ok h1 h2 rfl⟩
  · rw [if_pos h0] at h; exact absurd h h0
abbrev ChK (p q : Nat) (S : Sh) (D : Sx) (H : Hn) (W : World) : Prop := K8 p S D W ∧ W.cell? ⟨q, 0, none⟩ = some (.int .i64 H.id) ∧ W.cell? ⟨q, 1, none⟩ = some (.int .i64 H.gn) ∧ W.cell? ⟨q, 2, none⟩ = some (.int .i64 H.rt) ∧ W.cell? ⟨q, 3, none⟩ = some (.int .i64 H.ht)
theorem ChK.mk {p q : Nat} {S : Sh} {D : Sx} {H : Hn} {W : World} (h : K8 p S D W) (k : H4 W q H) : ChK p q S D H W := ⟨h, k.1, k.2.1, k.2.2.1, k.2.2.2.1⟩
set_option maxHeartbeats 8000000 in
set_option maxRecDepth 20000 in
theorem schange_any (S : Sh) (D : Sx) (H : Hn) (now ep vis : Int) (w : World) (hs : SR w w.heap.size S D) (hn : heS S H now ep (wi vis 0 1000) = 0 → S.sz4) :
    Calls Tryz.prog 15 #[sv S D, H.v, .int .i64 now, .int .i64 ep, .int .i64 vis] w (SE w (if chgE S H now ep vis = 0 then chgF S H.id (now + vis) else zS) (chgE S H now ep vis)) := by
  have e1 : (w.alloc (.cells #[.bool S.lv, .int .i64 S.lo, .int .i64 S.hi, .slice D.A S.cs.length D.c, .int .i64 S.hd, .int .i64 S.sz, .slice D.A2 S.l.length D.c2, .slice D.A3 S.h.length D.c3] 33)).heap.size = w.heap.size + 1 := by simp
  have e2 : ((w.alloc (.cells #[.bool S.lv, .int .i64 S.lo, .int .i64 S.hi, .slice D.A S.cs.length D.c, .int .i64 S.hd, .int .i64 S.sz, .slice D.A2 S.l.length D.c2, .slice D.A3 S.h.length D.c3] 33)).alloc (.cells #[.int .i64 H.id, .int .i64 H.gn, .int .i64 H.rt, .int .i64 H.ht] 40)).heap.size = w.heap.size + 1 + 1 := by simp
  have H0 := Lib.hid (((SAt.start 33 hs).alloc (.cells #[.int .i64 H.id, .int .i64 H.gn, .int .i64 H.rt, .int .i64 H.ht] 40)).alloc (.cells #[.bool false, .int .i64 0, .int .i64 0, .slice none 0 0, .int .i64 0, .int .i64 0, .slice none 0 0, .slice none 0 0] 33))
  have Q0 := Lib.hid ((H4.start (w.alloc (.cells #[.bool S.lv, .int .i64 S.lo, .int .i64 S.hi, .slice D.A S.cs.length D.c, .int .i64 S.hd, .int .i64 S.sz, .slice D.A2 S.l.length D.c2, .slice D.A3 S.h.length D.c3] 33)) H 40).up ((Below.refl _ _).alloc (Nat.le_refl _) (.cells #[.bool false, .int .i64 0, .int .i64 0, .slice none 0 0, .int .i64 0, .int .i64 0, .slice none 0 0, .slice none 0 0] 33)))
  have R0 := Lib.hid (SB8.zero ((w.alloc (.cells #[.bool S.lv, .int .i64 S.lo, .int .i64 S.hi, .slice D.A S.cs.length D.c, .int .i64 S.hd, .int .i64 S.sz, .slice D.A2 S.l.length D.c2, .slice D.A3 S.h.length D.c3] 33)).alloc (.cells #[.int .i64 H.id, .int .i64 H.gn, .int .i64 H.rt, .int .i64 H.ht] 40)) 33)
  rw [e1] at Q0
  rw [e2] at R0
  have HHE := Lib.hid (fun A p W (k : SAt w p S D W) (hn : Nl W W.heap.size (.slice (some A) 1 1) [⟨vis, 0, 1000⟩]) => (show Calls Tryz.prog 45 #[sv S D, H.v, .int .i64 now, .int .i64 ep, .slice (some A) 1 1] W (VlT W (heS S H now ep (wi vis 0 1000))) from by
    have h := sherr_any S D H now ep (some A) [⟨vis, 0, 1000⟩] W k.sr hn (fun h => by cases h) (by simp)
    have he : ([⟨vis, 0, 1000⟩] : List Rn).all Rn.ok = wi vis 0 1000 := by simp [Rn.ok]
    rw [he] at h
    exact h))
  have HNM := Lib.hid (fun h => he_nums (S := S) (H := H) (now := now) (ep := ep) (b := wi vis 0 1000) h)
  have HY0 : Hid (chgE S H now ep vis = if heS S H now ep (wi vis 0 1000) ≠ 0 then heS S H now ep (wi vis 0 1000) else if 1073741824 < now + vis then 6 else 0) := Lib.hid rfl
  obtain ⟨y, hy⟩ : ∃ y, y = chgE S H now ep vis := ⟨_, rfl⟩
  rw [← hy] at HY0
  rw [← hy]
  clear hy
  obtain ⟨x, hx⟩ : ∃ x, x = heS S H now ep (wi vis 0 1000) := ⟨_, rfl⟩
  rw [← hx] at HHE hn HNM HY0
  have HL := Lib.hid (fun W => avis_any vis W)
  have HCL := Lib.hid (fun (h : x = 0) p W (q : SAt w p S D W) => sclone_any S D W q.sr (hn h).1 (hn h).2.1 (hn h).2.2.1 (hn h).2.2.2)
  have HRL := Lib.hid (fun p D W (q : SAt w p S D W) => lextend_any D.A2 S.l.length D.c2 S.l D.A3 S.h.length D.c3 S.h H.id (now + vis) W q.sr.el q.sr.dl)
  obtain ⟨T, hT⟩ : ∃ T, T = chgF S H.id (now + vis) := ⟨_, rfl⟩
  obtain ⟨U, hU⟩ : ∃ U, U = if y = 0 then chgF S H.id (now + vis) else zS := ⟨_, rfl⟩
  have HUU := Lib.hid (show U = if y = 0 then T else zS from by rw [hU, hT])
  have HTT := Lib.hid (show T = ⟨S.lv, S.lo, S.hi, S.cs, S.hd, S.sz, exL S.l S.h H.id (now + vis), exH S.l S.h H.id (now + vis)⟩ from hT)
  rw [← hU]
  clear hU hT hs hn hx
  generalize exL S.l S.h H.id (now + vis) = gl at *
  generalize exH S.l S.h H.id (now + vis) = gh at *
  generalize exE S.l S.h H.id (now + vis) = rE at *
  go_enter Tryz.func15, Tryz.ntmps15
  obtain ⟨p, hp⟩ : ∃ p, p = w.heap.size := ⟨_, rfl⟩
  obtain ⟨q, hq⟩ : ∃ q, q = w.heap.size + 1 := ⟨_, rfl⟩
  obtain ⟨r, hr⟩ : ∃ r, r = w.heap.size + 1 + 1 := ⟨_, rfl⟩
  have HPR := Lib.hid (show (¬ p = r ∧ ¬ r = p ∧ ¬ p = q ∧ ¬ q = p) ∧ w.heap.size ≤ p ∧ p < q ∧ q < r by omega)
  go_upto_region 1 with (fail)
  rw [← hr, ← hq, ← hp]
  rw [← hr] at R0
  rw [← hq] at Q0
  rw [← hp] at H0
  clear e1 e2 hp hq hr
  generalize (((w.alloc (.cells #[.bool S.lv, .int .i64 S.lo, .int .i64 S.hi, .slice D.A S.cs.length D.c, .int .i64 S.hd, .int .i64 S.sz, .slice D.A2 S.l.length D.c2, .slice D.A3 S.h.length D.c3] 33)).alloc (.cells #[.int .i64 H.id, .int .i64 H.gn, .int .i64 H.rt, .int .i64 H.ht] 40)).alloc (.cells #[.bool false, .int .i64 0, .int .i64 0, .slice none 0 0, .int .i64 0, .int .i64 0, .slice none 0 0, .slice none 0 0] 33)) = w1 at *
  have HD := Lib.hid H0.out.drew
  have QD := Lib.hid (Q0.out.up ((Below.refl _ _).drew))
  have RD := Lib.hid (R0.out.up ((Below.refl _ _).drew))
  have HT0 := Lib.hid (show ChK p q S D H w1.drew from ChK.mk HD.out.k8 QD.out)
  go_region_held3 (fun W => ChK p q S D H W)
    (first | with_reducible exact HT0.out | with_reducible exact HT1.out | with_reducible exact HT2.out | with_reducible exact HT3.out)
    (first
    | (go_at_call 37; (with_reducible refine (HL.out _).mono ?_); rintro e w3 ⟨rfl, hb⟩; have HA2 := Lib.hid ((HD.out.below hb).alloc (.cells #[.int .i64 vis, .int .i64 0, .int .i64 1000] 78)); have HB3 := Lib.hid (hb.trans ((((Below.refl w3.heap.size w3).alloc (Nat.le_refl _) (.cells #[.int .i64 vis, .int .i64 0, .int .i64 1000] 78))).mono hb.size)); have Q2 := Lib.hid (QD.out.up HB3.out); have R2 := Lib.hid (RD.out.up HB3.out); have HT1 := Lib.hid (show ChK p q S D H w3 from ChK.mk (HD.out.below hb).k8 (QD.out.up hb)); have HT2 := Lib.hid (show ChK p q S D H (w3.alloc (.cells #[.int .i64 vis, .int .i64 0, .int .i64 1000] 78)) from ChK.mk HA2.out.k8 Q2.out); have HNL := Lib.hid (nl_one w3 ⟨vis, 0, 1000⟩ 78); clear hb)
    | (go_at_call 45; (with_reducible refine (HHE.out _ _ _ HA2.out ?_).mono ?_); (have := HNL.out; simpa using this); rintro e w2 ⟨rfl, hb⟩; have H1 := Lib.hid (HA2.out.below hb); have Q1 := Lib.hid (Q2.out.up hb); have R1 := Lib.hid (R2.out.up hb); have HT3 := Lib.hid (show ChK p q S D H w2 from ChK.mk H1.out.k8 Q1.out); clear hb))
  clear HD QD RD HT0 HT1 HT2 HT3 HA2 HNL HL HHE H0 R0 R2 Q0 Q2 HB3
  by_cases hx : x = 0
  · have HX := Lib.hid hx
    obtain ⟨hvb, ⟨nn1, nn2⟩, -, -⟩ := HNM.out hx
    have hvi := wi_of hvb
    have hwr : wrap64 (now + vis) = now + vis := IntWalk.wrap64_in _ (by omega)
    have HWR := Lib.hid hwr
    subst hx
    by_cases hdl : 1073741824 < now + vis
    · have HYY := Lib.hid (show y = 6 by rw [HY0.out, if_neg (by simp), if_pos hdl])
      have HF := Lib.hid (show SE w U y (.returned (.tuple #[.agg #[.bool false, .int .i64 0, .int .i64 0, .slice none 0 0, .int .i64 0, .int .i64 0, .slice none 0 0, .slice none 0 0], .int .i64 6])) (z8 w2 r) from by
        rw [HUU.out, HYY.out, if_neg (by decide)]
        have hne := HPR.out.2
        exact se_zero (by omega) H1.out.bel)
      clear hwr
      obtain ⟨⟨r0, r1, r2, r3, r4, r5, r6, r7, rl⟩, ⟨g0, g1, g2, g3, g4, g5, g6, g7⟩⟩ := R1.out.all
      go_wp2
      exact bodyPost_ret (v := .tuple #[.agg #[.bool false, .int .i64 0, .int .i64 0, .slice none 0 0, .int .i64 0, .int .i64 0, .slice none 0 0, .slice none 0 0], .int .i64 6]) (by simp only [results, Tryz.results15]; go_simp <;> rfl) rfl HF.out
    · have HYY := Lib.hid (show y = 0 by rw [HY0.out, if_neg (by simp), if_neg hdl])
      clear hwr
      obtain ⟨t0, t1, t2, t3, t4, t5, t6, t7, tl⟩ := H1.out.s8.facts
      go_wp2_with fail
      clear t0 t1 t2 t3 t4 t5 t6 t7 tl
      refine (HCL.out (by first | trivial | rfl) _ _ H1.out).mono ?_
      rintro e w3 ⟨D2, rfl, hn2, hr2, hb⟩
      have H2 := Lib.hid (H1.out.below hb)
      have H3 := Lib.hid (show SAt w p S D2 ((((((((w3.setCell ⟨p, 0, none⟩ (.bool S.lv)).setCell ⟨p, 1, none⟩ (.int .i64 S.lo)).setCell ⟨p, 2, none⟩ (.int .i64 S.hi)).setCell ⟨p, 3, none⟩ (.slice D2.A S.cs.length D2.c)).setCell ⟨p, 4, none⟩ (.int .i64 S.hd)).setCell ⟨p, 5, none⟩ (.int .i64 S.sz)).setCell ⟨p, 6, none⟩ (.slice D2.A2 S.l.length D2.c2)).setCell ⟨p, 7, none⟩ (.slice D2.A3 S.h.length D2.c3)) from H2.out.put hr2 (hn2.off H1.out.lt))
      have Q2 := Lib.hid (Q1.out.up hb)
      have R3 := Lib.hid (show SB8 ((((((((w3.setCell ⟨p, 0, none⟩ (.bool S.lv)).setCell ⟨p, 1, none⟩ (.int .i64 S.lo)).setCell ⟨p, 2, none⟩ (.int .i64 S.hi)).setCell ⟨p, 3, none⟩ (.slice D2.A S.cs.length D2.c)).setCell ⟨p, 4, none⟩ (.int .i64 S.hd)).setCell ⟨p, 5, none⟩ (.int .i64 S.sz)).setCell ⟨p, 6, none⟩ (.slice D2.A2 S.l.length D2.c2)).setCell ⟨p, 7, none⟩ (.slice D2.A3 S.h.length D2.c3)) r zS zX from (R1.out.up hb).put_far HPR.out.1.2.1 S D2)
      have N2 := Lib.hid (show D2.nw (r + 1) from hn2.low R1.out.lt)
      clear hn2 hr2 hb
      obtain ⟨⟨t0, t1, t2, t3, t4, t5, t6, t7, tl⟩, ⟨f0, f1, f2, f3, f4, f5, f6, f7⟩⟩ := H2.out.s8.all
      obtain ⟨q0, q1, q2, q3, ql⟩ := Q2.out
      obtain ⟨⟨hpr, hrp, hpq, hqp⟩, -, -, -⟩ := HPR.out
      go_wp2_with fail
      clear t0 t1 t2 t3 t4 t5 t6 t7 tl f0 f1 f2 f3 f4 f5 f6 f7 q0 q1 q2 q3 ql hpr hrp hpq hqp H2 Q2 H1 Q1 R1
      generalize ((((((((w3.setCell ⟨p, 0, none⟩ (.bool S.lv)).setCell ⟨p, 1, none⟩ (.int .i64 S.lo)).setCell ⟨p, 2, none⟩ (.int .i64 S.hi)).setCell ⟨p, 3, none⟩ (.slice D2.A S.cs.length D2.c)).setCell ⟨p, 4, none⟩ (.int .i64 S.hd)).setCell ⟨p, 5, none⟩ (.int .i64 S.sz)).setCell ⟨p, 6, none⟩ (.slice D2.A2 S.l.length D2.c2)).setCell ⟨p, 7, none⟩ (.slice D2.A3 S.h.length D2.c3)) = w3' at *
      refine (HRL.out _ _ _ H3.out).mono ?_
      rintro e w4 ⟨A3, c3, A4, c4, rfl, n3, n4, h3, h4, hb⟩
      have H4 := Lib.hid (H3.out.below hb)
      have R4 := Lib.hid (R3.out.up hb)
      have H5 := Lib.hid (show SAt w p ⟨S.lv, S.lo, S.hi, S.cs, S.hd, S.sz, gl, gh⟩ ⟨D2.A, D2.c, A3, c3, A4, c4⟩ (((w4.setCell ⟨p, 6, none⟩ (.slice A3 gl.length c3)).setCell ⟨p, 7, none⟩ (.slice A4 gh.length c4))) from H4.out.setTab h3 h4 (offb_nw n3 H3.out.lt) (offb_nw n4 H3.out.lt))
      have N5 := Lib.hid (show Nw (r + 1) A3 ∧ Nw (r + 1) A4 from ⟨nw_low n3 R3.out.lt, nw_low n4 R3.out.lt⟩)
      clear n3 n4 h3 h4 hb
      have HF := Lib.hid (show SE w U y (.returned (.tuple #[.agg #[.bool S.lv, .int .i64 S.lo, .int .i64 S.hi, .slice D2.A S.cs.length D2.c, .int .i64 S.hd, .int .i64 S.sz, .slice A3 gl.length c3, .slice A4 gh.length c4], .int .i64 0])) (((((((((((w4.setCell ⟨p, 6, none⟩ (.slice A3 gl.length c3)).setCell ⟨p, 7, none⟩ (.slice A4 gh.length c4))).setCell ⟨r, 0, none⟩ (.bool S.lv)).setCell ⟨r, 1, none⟩ (.int .i64 S.lo)).setCell ⟨r, 2, none⟩ (.int .i64 S.hi)).setCell ⟨r, 3, none⟩ (.slice D2.A S.cs.length D2.c)).setCell ⟨r, 4, none⟩ (.int .i64 S.hd)).setCell ⟨r, 5, none⟩ (.int .i64 S.sz)).setCell ⟨r, 6, none⟩ (.slice A3 gl.length c3)).setCell ⟨r, 7, none⟩ (.slice A4 gh.length c4)) from by
        rw [HUU.out, if_pos HYY.out, HTT.out, HYY.out]
        have hne := HPR.out.2
        exact ⟨⟨D2.A, D2.c, A3, c3, A4, c4⟩, rfl, ⟨(N2.out.low (show w.heap.size ≤ r + 1 by omega)).1, nw_low N5.out.1 (by omega), nw_low N5.out.2 (by omega)⟩, SR.sets (S := ⟨S.lv, S.lo, S.hi, S.cs, S.hd, S.sz, gl, gh⟩) (D := ⟨D2.A, D2.c, A3, c3, A4, c4⟩) ⟨(N2.out.off (Nat.lt_succ_self r)).o1, offb_nw N5.out.1 (Nat.lt_succ_self r), offb_nw N5.out.2 (Nat.lt_succ_self r)⟩ (Sh.l8 ⟨S.lv, S.lo, S.hi, S.cs, S.hd, S.sz, gl, gh⟩ ⟨D2.A, D2.c, A3, c3, A4, c4⟩) 0 _ H5.out.sr, set8s_below (show w.heap.size ≤ r by omega) H5.out.bel ⟨S.lv, S.lo, S.hi, S.cs, S.hd, S.sz, gl, gh⟩ ⟨D2.A, D2.c, A3, c3, A4, c4⟩⟩)
      obtain ⟨⟨t0, t1, t2, t3, t4, t5, t6, t7, tl⟩, ⟨f0, f1, f2, f3, f4, f5, f6, f7⟩⟩ := H4.out.s8.all
      obtain ⟨⟨r0, r1, r2, r3, r4, r5, r6, r7, rl⟩, ⟨g0, g1, g2, g3, g4, g5, g6, g7⟩⟩ := R4.out.all
      obtain ⟨⟨hpr, hrp, hpq, hqp⟩, -, -, -⟩ := HPR.out
      go_wp2
      exact bodyPost_ret (v := .tuple #[.agg #[.bool S.lv, .int .i64 S.lo, .int .i64 S.hi, .slice D2.A S.cs.length D2.c, .int .i64 S.hd, .int .i64 S.sz, .slice A3 gl.length c3, .slice A4 gh.length c4], .int .i64 0]) (by simp only [results, Tryz.results15]; go_simp <;> rfl) rfl HF.out
  · have hne : (x != 0) = true := bne_iff_ne.2 hx
    have HYY := Lib.hid (show y = x by rw [HY0.out, if_pos hx])
    have HF := Lib.hid (show SE w U y (.returned (.tuple #[.agg #[.bool false, .int .i64 0, .int .i64 0, .slice none 0 0, .int .i64 0, .int .i64 0, .slice none 0 0, .slice none 0 0], .int .i64 x])) (z8 w2 r) from by
      rw [HUU.out, HYY.out, if_neg hx]
      have hne := HPR.out.2
      exact se_zero (by omega) H1.out.bel)
    clear hx
    obtain ⟨⟨r0, r1, r2, r3, r4, r5, r6, r7, rl⟩, ⟨g0, g1, g2, g3, g4, g5, g6, g7⟩⟩ := R1.out.all
    go_wp2
    exact bodyPost_ret (v := .tuple #[.agg #[.bool false, .int .i64 0, .int .i64 0, .slice none 0 0, .int .i64 0, .int .i64 0, .slice none 0 0, .slice none 0 0], .int .i64 x]) (by simp only [results, Tryz.results15]; go_simp <;> rfl) rfl HF.out
end Go.Proofs.YtkkgfnncdaiooaaGreat
namespace Go.Proofs.YtkkgfnncdaiooaaGreat
open Go.RowKit
set_option linter.unusedVariables false

set_option maxHeartbeats 8000000 in
set_option maxRecDepth 20000 in
theorem sexp_bad (S : Sh) (D : Sx) (now ep lim : Int) (w : World) (hs : SR w w.heap.size S D) (hE : exS S (xpB now ep lim) ≠ 0) :
    Calls Tryz.prog 16 #[sv S D, .int .i64 now, .int .i64 ep, .int .i64 lim] w (SIe w zS [] (exS S (xpB now ep lim))) := by
  have HV := Lib.hid (fun A c p W (q : SAt w p S D W) (hn : Nl W W.heap.size (.slice A 3 c) [⟨now, 0, 1073741824⟩, ⟨ep, 0, 65536⟩, ⟨lim, 1, 8⟩]) => sexam_any S D A 3 c [⟨now, 0, 1073741824⟩, ⟨ep, 0, 65536⟩, ⟨lim, 1, 8⟩] W q.sr hn)
  have HE : ([⟨now, 0, 1073741824⟩, ⟨ep, 0, 65536⟩, ⟨lim, 1, 8⟩] : List Rn).all Rn.ok = xpB now ep lim := by simp [Rn.ok, xpB]
  rw [HE] at HV
  have H0 := Lib.hid ((SAt.start 33 hs).alloc (.cells #[.bool false, .int .i64 0, .int .i64 0, .slice none 0 0, .int .i64 0, .int .i64 0, .slice none 0 0, .slice none 0 0] 33))
  have R0 := Lib.hid (SB8.zero (w.alloc (.cells #[.bool S.lv, .int .i64 S.lo, .int .i64 S.hi, .slice D.A S.cs.length D.c, .int .i64 S.hd, .int .i64 S.sz, .slice D.A2 S.l.length D.c2, .slice D.A3 S.h.length D.c3] 33)) 33)
  clear HE hs
  have hne : (exS S (xpB now ep lim) != 0) = true := bne_iff_ne.2 hE
  clear hE
  generalize exS S (xpB now ep lim) = z at *
  have HT := Lib.hid (fun W => atime_any now W)
  have HP := Lib.hid (fun W => aepoch_any ep W)
  have HL := Lib.hid (fun W => alimit_any lim W)
  go_enter Tryz.func16, Tryz.ntmps16
  obtain ⟨p, hp⟩ : ∃ p, p = w.heap.size := ⟨_, rfl⟩
  obtain ⟨r, hr⟩ : ∃ r, r = w.heap.size + 1 := ⟨_, rfl⟩
  have e1 : (w.alloc (.cells #[.bool S.lv, .int .i64 S.lo, .int .i64 S.hi, .slice D.A S.cs.length D.c, .int .i64 S.hd, .int .i64 S.sz, .slice D.A2 S.l.length D.c2, .slice D.A3 S.h.length D.c3] 33)).heap.size = r := by rw [hr]; simp
  rw [e1] at R0
  have HPR := Lib.hid (show ¬ p = r ∧ ¬ r = p ∧ w.heap.size ≤ p ∧ p < r by omega)
  go_upto_region 1 with (fail)
  rw [← hr, ← hp]
  rw [← hp] at H0
  clear e1 hp hr
  generalize ((w.alloc (.cells #[.bool S.lv, .int .i64 S.lo, .int .i64 S.hi, .slice D.A S.cs.length D.c, .int .i64 S.hd, .int .i64 S.sz, .slice D.A2 S.l.length D.c2, .slice D.A3 S.h.length D.c3] 33)).alloc (.cells #[.bool false, .int .i64 0, .int .i64 0, .slice none 0 0, .int .i64 0, .int .i64 0, .slice none 0 0, .slice none 0 0] 33)) = w1 at *
  have HD := Lib.hid H0.out.drew
  have R1 := Lib.hid (R0.out.up ((Below.refl _ _).drew))
  have HT0 := Lib.hid (show K8 p S D w1.drew from HD.out.k8)
  go_region_held3 (fun W => K8 p S D W)
    (first | with_reducible exact HT0.out | with_reducible exact HT1.out | with_reducible exact HT2.out | with_reducible exact HT3.out | with_reducible exact HT4.out | with_reducible exact HT5.out)
    (first
    | (go_at_call 36; (with_reducible refine (HT.out _).mono ?_); rintro e w2 ⟨rfl, hb⟩; have HA1 := Lib.hid (HD.out.below hb); have R2 := Lib.hid (R1.out.up hb); have HT1 := Lib.hid HA1.out.k8; clear hb)
    | (go_at_call 38; (with_reducible refine (HP.out _).mono ?_); rintro e w3 ⟨rfl, hb⟩; have HA2 := Lib.hid (HA1.out.below hb); have R3 := Lib.hid (R2.out.up hb); have HT2 := Lib.hid HA2.out.k8; clear hb)
    | (go_at_call 39; (with_reducible refine (HL.out _).mono ?_); rintro e w4 ⟨rfl, hb⟩; have HA3 := Lib.hid (HA2.out.below hb); have HT3 := Lib.hid HA3.out.k8; have HA4 := Lib.hid (HA3.out.alloc (.cells #[.int .i64 now, .int .i64 0, .int .i64 1073741824, .int .i64 ep, .int .i64 0, .int .i64 65536, .int .i64 lim, .int .i64 1, .int .i64 8] 78)); have R4 := Lib.hid ((R3.out.up hb).up ((Below.refl _ _).alloc (Nat.le_refl _) (.cells #[.int .i64 now, .int .i64 0, .int .i64 1073741824, .int .i64 ep, .int .i64 0, .int .i64 65536, .int .i64 lim, .int .i64 1, .int .i64 8] 78))); have HT4 := Lib.hid HA4.out.k8; have HNL := Lib.hid (nl_three w4 ⟨now, 0, 1073741824⟩ ⟨ep, 0, 65536⟩ ⟨lim, 1, 8⟩ 78); clear hb)
    | (go_at_call 35; (with_reducible refine (HV.out _ _ _ _ HA4.out ?_).mono ?_); (have := HNL.out; simpa using this); rintro e w5 ⟨rfl, hb⟩; have HA5 := Lib.hid (HA4.out.below hb); have R5 := Lib.hid (R4.out.up hb); have HT5 := Lib.hid HA5.out.k8; clear hb))
  obtain ⟨⟨r0, r1, r2, r3, r4, r5, r6, r7, rl⟩, ⟨g0, g1, g2, g3, g4, g5, g6, g7⟩⟩ := R5.out.all
  have HF := Lib.hid (show SIe w zS [] z (.returned (.tuple #[.agg #[.bool false, .int .i64 0, .int .i64 0, .slice none 0 0, .int .i64 0, .int .i64 0, .slice none 0 0, .slice none 0 0], .slice none 0 0, .int .i64 z])) (z8 w5 r) from sie_zero (by have := HPR.out; omega) HA5.out.bel)
  go_wp2
  exact bodyPost_ret (v := .tuple #[.agg #[.bool false, .int .i64 0, .int .i64 0, .slice none 0 0, .int .i64 0, .int .i64 0, .slice none 0 0, .slice none 0 0], .slice none 0 0, .int .i64 z]) (by simp only [results, Tryz.results16]; go_simp <;> rfl) rfl HF.out
end Go.Proofs.YtkkgfnncdaiooaaGreat
namespace Go.Proofs.YtkkgfnncdaiooaaGreat
open Go.RowKit
set_option linter.unusedVariables false

def CsR (Bf Af : List Int) (g id : Int) : Prop := (Af.length : Int) = Bf.length - g ∧ (g = 0 ∨ g = 1) ∧ ∃ kk : Nat → Nat, kk 0 = 0 ∧ ∀ j (hj : j < Bf.length), (∃ h : kk j < Af.length, Af[kk j] = Bf[j] ∧ kk (j + 1) = kk j + 1) ∨ ((∀ h : kk j < Af.length, Af[kk j] ≠ Bf[j]) ∧ g = 1 ∧ Bf[j] = id ∧ kk (j + 1) = kk j)
theorem csr_same (l : List Int) (id : Int) : CsR l l 0 id := ⟨by omega, .inl rfl, fun j => j, rfl, fun j hj => .inl ⟨hj, rfl, rfl⟩⟩
theorem csr_one {O : List Int} {id : Int} (h : id ∉ O) : CsR (insI id O) O 1 id := by
  refine ⟨by rw [insI_len]; omega, .inr rfl, fun j => if j ≤ insA id O then j else j - 1, by simp, fun j hj => ?_⟩
  rcases insI_at hj with ⟨h1, h2, e⟩ | ⟨h1, e⟩ | ⟨h1, h2, e⟩
  · left
    refine ⟨by simp only; rw [if_pos (by omega)]; exact h1, ?_, by simp only; rw [if_pos (by omega), if_pos (by omega)]⟩
    simp only [if_pos (show j ≤ insA id O by omega)]
    exact e.symm
  · right
    refine ⟨fun g => ?_, rfl, e, by simp only; rw [if_neg (by omega), if_pos (by omega)]; omega⟩
    rw [e]
    exact fun c => h (c ▸ List.getElem_mem _)
  · left
    refine ⟨by simp only; rw [if_neg (by omega)]; exact h1, ?_, by simp only; rw [if_neg (by omega), if_neg (by omega)]; omega⟩
    simp only [if_neg (show ¬ j ≤ insA id O by omega)]
    exact e.symm
def CsQ (S T : Sh) (x g id : Int) : Prop := x = 0 → shV T = 0 ∧ SrSh T ∧ CsR (idsF S.al) (idsF T.al) g id
theorem csq_err {S T : Sh} {x g id : Int} (h : x ≠ 0) : CsQ S T x g id := fun e => absurd e h
theorem csq_same {V V' : Vs} {x : Int} (id : Int) (k : V.Ok) (k' : V'.Ok) (h : (V'.al.map Msg.id).Perm (V.al.map Msg.id)) : CsQ V.sh V'.sh x 0 id := fun _ =>
  ⟨k'.va, .inl ⟨V', k', rfl⟩, by rw [k.al_sh, k'.al_sh, idsF_same h]; exact csr_same _ _⟩
theorem csq_one {V V' : Vs} {x : Int} {M : Msg} (k : V.Ok) (k' : V'.Ok) (h : V.al.Perm (M :: V'.al)) : CsQ V.sh V'.sh x 1 M.id := fun _ => by
  refine ⟨k'.va, .inl ⟨V', k', rfl⟩, ?_⟩
  have g := gd_cons.1 (gd_perm h k.gd)
  rw [k.al_sh, k'.al_sh, idsF_one (x := M.id) (L' := V'.al) (by have := h.map Msg.id; simpa using this)]
  refine csr_one fun hm => ?_
  obtain ⟨N, hN, e⟩ := List.mem_map.1 ((idsF_perm V'.al).subset hm)
  exact g.2.2 N hN e
section
variable {V : Vs} {H : Hn} {now ep lim vis dl id : Int} {mx : Nat}
theorem rl_mem (k : V.Ok) (h : ∃ y ∈ V.l, y.id = id) : rlE V.l V.h id = 0 := by
  have := kFi_ge.2 h
  unfold rlE
  rw [if_neg (by simpa using (tbV_iff _ _).2 k.tb), if_neg (by omega)]
theorem fn_rl (h : fnO V.l V.h id = true) : rlE V.l V.h id = 0 := by
  have h := of_decide_eq_true h
  unfold rlE
  rw [if_neg (by simpa using h.1), if_neg (by omega)]
theorem he_rl {S : Sh} {b : Bool} (h : heS S H now ep b = 0) : fnO S.l S.h H.id = true := by
  unfold heS at h
  by_cases h0 : exS S (b && (wi now 0 1073741824 && wi ep 0 65536)) = 0
  · rw [if_neg (by simpa using h0)] at h
    by_cases h1 : hoF S H now ep = true
    · unfold hoF at h1
      simp only [Bool.and_eq_true] at h1
      exact h1.2.1
    · rw [if_neg h1] at h; exact absurd h (by decide)
  · rw [if_pos h0] at h; exact absurd h h0
theorem back_perm (k : V.Ok) (e : rlE V.l V.h id = 0) : ((((V.rel id).push (rlM V.l V.h id)).al).map Msg.id).Perm (V.al.map Msg.id) :=
  ((push_al _ _).trans (k.rel e).2.1.symm).map _
theorem cs_nack (k : V.Ok) (h : heS V.sh H now ep (wi lim 1 8) = 0) : ∃ V' : Vs, V'.Ok ∧ gbN V.sh H.id lim = V'.sh ∧ (V'.al.map Msg.id).Perm (V.al.map Msg.id) := by
  have e : rlE V.l V.h H.id = 0 := fn_rl (he_rl h)
  obtain ⟨g1, g2⟩ := gbN_sh (lim := lim) k e
  refine ⟨_, g2, g1, ?_⟩
  by_cases hs : spF (rlM V.l V.h H.id) lim = true
  · rw [if_pos hs]; exact back_perm k e
  · rw [if_neg hs, front_al]; exact ((k.rel e).2.1.symm).map _
theorem cs_ack (k : V.Ok) (h : heS V.sh H now ep true = 0) : ∃ (V' : Vs) (M : Msg), V'.Ok ∧ akF V.sh H.id = V'.sh ∧ V.al.Perm (M :: V'.al) ∧ M.id = H.id := by
  have e : rlE V.l V.h H.id = 0 := fn_rl (he_rl h)
  obtain ⟨k1, k2, k3, -, -⟩ := k.rel e
  exact ⟨V.rel H.id, _, k1, rfl, k2, k3⟩
theorem cs_chg (k : V.Ok) (h : chgE V.sh H now ep vis = 0) : ∃ V' : Vs, V'.Ok ∧ chgF V.sh H.id (now + vis) = V'.sh ∧ V'.al = V.al := by
  unfold chgE at h
  by_cases h0 : heS V.sh H now ep (wi vis 0 1000) = 0
  · rw [if_neg (by simpa using h0)] at h
    by_cases h1 : 1073741824 < now + vis
    · rw [if_pos h1] at h; exact absurd h (by decide)
    · have f := of_decide_eq_true (he_rl h0)
      obtain ⟨n1, n2, -, -⟩ := he_nums h0
      have hv := wi_of n1
      have e : exE V.l V.h H.id (now + vis) = 0 := by
        unfold exE
        rw [if_neg (show ¬ tbV V.l V.h ≠ 0 from fun g => g f.1), if_neg (show ¬ kFi Le.id V.l H.id < 0 from Int.not_lt.2 f.2), if_neg (by omega)]
      obtain ⟨k1, k2, -⟩ := k.ext e
      exact ⟨V.ext H.id (now + vis), k1, rfl, k2⟩
  · rw [if_pos h0] at h; exact absurd h h0
theorem xp_cons (S : Sh) (x : Int) (ids : List Int) : xpF S (x :: ids) = xpF (gbB S x) ids := rfl
theorem xp_ok : ∀ (ids : List Int) (V : Vs), V.Ok → ids.Nodup → (∀ x ∈ ids, ∃ y ∈ V.l, y.id = x) → ∃ V' : Vs, V'.Ok ∧ xpF V.sh ids = V'.sh ∧ (V'.al.map Msg.id).Perm (V.al.map Msg.id)
  | [], V, k, _, _ => ⟨V, k, rfl, List.Perm.refl _⟩
  | x :: ids, V, k, hn, hm => by
    have hn := List.nodup_cons.1 hn
    have e := rl_mem k (hm x (List.mem_cons_self ..))
    obtain ⟨g1, g2⟩ := gbB_sh k e
    obtain ⟨V', k', e', p'⟩ := xp_ok ids ((V.rel x).push (rlM V.l V.h x)) g2 hn.2 (fun z hz => by
      obtain ⟨y, hy, hi⟩ := hm z (List.mem_cons_of_mem _ hz)
      refine ⟨y, ?_, hi⟩
      show y ∈ rlL V.l V.h x
      obtain ⟨t, j, hj, -, e2, -, hL, -⟩ := rlE_at e
      rw [hL]
      obtain ⟨i, hi', rfl⟩ := List.getElem_of_mem hy
      refine List.mem_eraseIdx_iff_getElem.2 ⟨i, hi', fun c => ?_, rfl⟩
      subst c
      rw [← hi, e2] at hz
      exact hn.1 hz)
    refine ⟨V', k', by rw [xp_cons, g1]; exact e', p'.trans (back_perm k e)⟩
theorem la_facts {l : List Le} {h : List Du} (t : TbOk l h) : (laV l h now ep).Nodup ∧ ∀ x ∈ laV l h now ep, ∃ y ∈ l, y.id = x := by
  rw [t.lav]
  have hh : Hp h := (vaF_zero t.va).2.2.2
  have p := unF_perm h now hh
  have hn : (unF h now).Nodup := p.symm.nodup ((vaF_ids t.va).sublist (List.Sublist.map _ List.filter_sublist))
  refine ⟨hn.sublist List.filter_sublist, fun x hx => ?_⟩
  have hx := (List.mem_filter.1 hx).1
  obtain ⟨d, hd, -, e⟩ := (unF_mem hh now x).1 hx
  obtain ⟨y, hy, e2⟩ := List.mem_map.1 (t.perm.subset hd)
  exact ⟨y, hy, by rw [← e, ← e2]; rfl⟩
theorem cs_exp (k : V.Ok) : ∃ V' : Vs, V'.Ok ∧ xpF V.sh (laV V.l V.h now ep) = V'.sh ∧ (V'.al.map Msg.id).Perm (V.al.map Msg.id) :=
  xp_ok _ V k (la_facts k.tb).1 (la_facts k.tb).2
theorem cs_take (k : V.Ok) (hl : lim ≤ 8) (d0 : 0 ≤ dl) (d1 : dl ≤ 1073741824) :
    (V.take mx (fun M => rvF M ep lim) dl).Ok ∧ ((V.take mx (fun M => rvF M ep lim) dl).al.map Msg.id).Perm (V.al.map Msg.id) := by
  obtain ⟨s1, s2, s3⟩ := pk_sub mx (fun M => rvF M ep lim) V.L
  have pp := pk_permL mx (fun M => rvF M ep lim) V.L
  unfold Vs.take
  generalize (pk mx (fun M => rvF M ep lim) V.L).1 = T at *
  generalize (pk mx (fun M => rvF M ep lim) V.L).2 = R at *
  have hd : ∀ M ∈ T, vf (dlM M) = 0 ∧ (dlM M).id = M.id ∧ (dlM M).rt = M.rt ∧ (dlM M).ep = M.ep ∧ 1 ≤ (dlM M).gn := fun M hM => dl_facts (k.gL.1 M (s2.subset hM)) (s3 M hM) hl
  have k1 := ring_ok k s1
  have hp : V.al.Perm (T ++ (V.ring R).al) := by
    show (V.L ++ V.l.map Le.m).Perm (T ++ (R ++ V.l.map Le.m))
    rw [← List.append_assoc]
    exact pp.symm.append_right _
  have g := gd_perm hp k.gd
  have hg : Gd (T.map dlM ++ (V.ring R).al) := by
    refine ⟨fun M hM => ?_, (dup_pair _).2 ?_⟩
    · rcases List.mem_append.1 hM with h | h
      · obtain ⟨N, hN, rfl⟩ := List.mem_map.1 h
        exact (hd N hN).1
      · exact g.1 M (List.mem_append_right _ h)
    · have p := (dup_pair _).1 g.2
      rw [List.pairwise_append] at p ⊢
      refine ⟨List.pairwise_map.2 (p.1.imp_of_mem fun {a b} ha hb hab => by rw [(hd a ha).2.1, (hd b hb).2.1]; exact hab), p.2.1, fun a ha b hb => ?_⟩
      obtain ⟨N, hN, rfl⟩ := List.mem_map.1 ha
      rw [(hd N hN).2.1]
      exact p.2.2 N hN b hb
  have hlen := pp.length_eq
  rw [List.length_append] at hlen
  obtain ⟨o1, o2, -⟩ := grs_ok (dl := dl) T (V.ring R) k1 hg (fun M hM => by rw [(hd M hM).2.2.1]; exact k.own M (List.mem_append_left _ (s2.subset hM))) (by show R.length + V.l.length + T.length ≤ V.n; have := k.room; omega) (fun M hM => ⟨(hd M hM).1, by have := (hd M hM).2.2.2.2; show (dlM M).gn ≠ 0; omega, d0, d1⟩)
  refine ⟨o1, (o2.map _).trans (List.Perm.trans ?_ (hp.symm.map Msg.id))⟩
  have e : (T.map dlM).map Msg.id = T.map Msg.id := by
    rw [List.map_map]
    exact List.map_congr_left fun M hM => (hd M hM).2.1
  rw [List.map_append, List.map_append, e]
end
theorem sz4_of {V : Vs} (k : V.Ok) : V.sh.sz4 := by
  have h1 : V.sh.cs.length = V.n := fil_len _ _ _
  have := k.n1
  have := k.n2
  have h3 : V.sh.l.length ≤ 12 := k.tb.len
  have h4 : V.sh.h.length ≤ 12 := by have := k.tb.hlen; have := k.tb.len; show V.h.length ≤ 12; omega
  exact ⟨by omega, by omega, by omega, by omega⟩
theorem sr_len {S : Sh} (h : SrSh S) : S.l.length ≤ 1000 := by
  rcases h with ⟨V, k, rfl⟩ | ⟨k, _, _, rfl⟩
  · exact (sz4_of k).2.2.1
  · show ([] : List Le).length ≤ 1000; simp
def CsP (S : Sh) (g id : Int) (w : World) (e : Ending) (w' : World) : Prop := ∃ (T : Sh) (D : Sx) (x : Int), e = .returned (.tuple #[sv T D, .int .i64 x]) ∧ D.nw w.heap.size ∧ SR w' w'.heap.size T D ∧ Below w.heap.size w w' ∧ CsQ S T x g id
def CsL (S : Sh) (g id : Int) (w : World) (e : Ending) (w' : World) : Prop := ∃ (T : Sh) (D : Sx) (A : Option Addr) (n c : Nat) (x : Int), e = .returned (.tuple #[sv T D, .slice A n c, .int .i64 x]) ∧ D.nw w.heap.size ∧ SR w' w'.heap.size T D ∧ Below w.heap.size w w' ∧ CsQ S T x g id
section
variable {S : Sh} {D : Sx} {w : World}
theorem csp_of {T : Sh} {x g id : Int} {e : Ending} {w' : World} (h : SE w T x e w') (q : CsQ S T x g id) : CsP S g id w e w' := by
  obtain ⟨E, h1, h2, h3, h4⟩ := h
  exact ⟨T, E, x, h1, h2, h3, h4, q⟩
theorem csl_of {T : Sh} {l : List Le} {x g id : Int} {e : Ending} {w' : World} (h : SLe w T l x e w') (q : CsQ S T x g id) : CsL S g id w e w' := by
  obtain ⟨E, A, c, h1, h2, h3, -, -, h4⟩ := h
  exact ⟨T, E, A, _, c, x, h1, h2, h3, h4, q⟩
theorem csi_of {T : Sh} {l : List Int} {x g id : Int} {e : Ending} {w' : World} (h : SIe w T l x e w') (q : CsQ S T x g id) : CsL S g id w e w' := by
  obtain ⟨E, A, c, h1, h2, h3, -, h4⟩ := h
  exact ⟨T, E, A, _, c, x, h1, h2, h3, h4, q⟩
theorem st_take (h : SrSh S) (mx now vis ep lim id : Int) (hs : SR w w.heap.size S D) : Calls Tryz.prog 13 #[sv S D, .int .i64 mx, .int .i64 now, .int .i64 vis, .int .i64 ep, .int .i64 lim] w (CsL S 0 id w) := by
  by_cases hE : tkE S mx now vis ep lim = 0
  · unfold tkE at hE
    by_cases h0 : exS S (tkB mx now vis ep lim) = 0
    · rw [if_neg (fun g => g h0)] at hE
      by_cases h1 : 1073741824 < now + vis
      · rw [if_pos h1] at hE; exact absurd hE (by decide)
      · obtain ⟨-, -, hB⟩ := exS_zero h0
        rcases h with ⟨V, k, rfl⟩ | ⟨n, n1, n2, rfl⟩
        · have hB' := hB
          unfold tkB at hB'
          simp only [Bool.and_eq_true] at hB'
          have m := wi_of hB'.2.2.2.2
          have li := wi_of hB'.2.2.2.1
          have n := wi_of hB'.1
          have v := wi_of hB'.2.1
          obtain ⟨m', hm⟩ := Int.eq_ofNat_of_zero_le (show 0 ≤ mx by omega)
          have hm : mx = (m' : Int) := hm
          subst hm
          obtain ⟨k3, p3⟩ := cs_take (mx := m') (ep := ep) (dl := now + vis) k li.2 (by omega) (by omega)
          exact (stake_ok V k D m' now vis ep lim w hs hB (by omega)).mono fun e w' q => csl_of q (csq_same id k k3 p3)
        · rw [fr_ex n1 n2] at h0; exact absurd h0 (by decide)
    · rw [if_pos h0] at hE; exact absurd hE h0
  · exact (stake_bad S D mx now vis ep lim w hs hE).mono fun e w' q => csl_of q (csq_err hE)
theorem st_nack (h : SrSh S) (H : Hn) (now ep lim id : Int) (hs : SR w w.heap.size S D) : Calls Tryz.prog 14 #[sv S D, H.v, .int .i64 now, .int .i64 ep, .int .i64 lim] w (CsP S 0 id w) := by
  refine (snack_any S D H now ep lim w hs).mono fun e w' q => csp_of q ?_
  by_cases h0 : heS S H now ep (wi lim 1 8) = 0
  · rw [if_pos h0, h0]
    rcases h with ⟨V, k, rfl⟩ | ⟨n, n1, n2, rfl⟩
    · obtain ⟨V', k', e', p'⟩ := cs_nack k h0
      rw [e']; exact csq_same id k k' p'
    · have := (he_nums h0).2.2.2
      rw [fr_ex n1 n2] at this; exact absurd this (by decide)
  · exact csq_err h0
theorem st_ack (h : SrSh S) (H : Hn) (now ep : Int) (hs : SR w w.heap.size S D) : Calls Tryz.prog 17 #[sv S D, H.v, .int .i64 now, .int .i64 ep] w (CsP S 1 H.id w) := by
  refine (sack_any S D H now ep w hs (fun h0 => ?_)).mono fun e w' q => csp_of q ?_
  · rcases h with ⟨V, k, rfl⟩ | ⟨n, n1, n2, rfl⟩
    · exact sz4_of k
    · have := (he_nums h0).2.2.2
      rw [fr_ex n1 n2] at this; exact absurd this (by decide)
  · by_cases h0 : heS S H now ep true = 0
    · rw [if_pos h0, h0]
      rcases h with ⟨V, k, rfl⟩ | ⟨n, n1, n2, rfl⟩
      · obtain ⟨V', M, k', e', p', hi⟩ := cs_ack k h0
        rw [e', ← hi]; exact csq_one k k' p'
      · have := (he_nums h0).2.2.2
        rw [fr_ex n1 n2] at this; exact absurd this (by decide)
    · exact csq_err h0
theorem st_chg (h : SrSh S) (H : Hn) (now ep vis id : Int) (hs : SR w w.heap.size S D) : Calls Tryz.prog 15 #[sv S D, H.v, .int .i64 now, .int .i64 ep, .int .i64 vis] w (CsP S 0 id w) := by
  refine (schange_any S D H now ep vis w hs (fun h0 => ?_)).mono fun e w' q => csp_of q ?_
  · rcases h with ⟨V, k, rfl⟩ | ⟨n, n1, n2, rfl⟩
    · exact sz4_of k
    · have := (he_nums h0).2.2.2
      rw [fr_ex n1 n2] at this; exact absurd this (by decide)
  · by_cases h0 : chgE S H now ep vis = 0
    · rw [if_pos h0, h0]
      rcases h with ⟨V, k, rfl⟩ | ⟨n, n1, n2, rfl⟩
      · obtain ⟨V', k', e', p'⟩ := cs_chg k h0
        rw [e']; exact csq_same id k k' (by rw [p'])
      · unfold chgE at h0
        by_cases h1 : heS (frS n) H now ep (wi vis 0 1000) = 0
        · have := (he_nums h1).2.2.2
          rw [fr_ex n1 n2] at this; exact absurd this (by decide)
        · rw [if_pos h1] at h0; exact absurd h0 h1
    · exact csq_err h0
theorem st_exp (h : SrSh S) (now ep lim id : Int) (hs : SR w w.heap.size S D) : Calls Tryz.prog 16 #[sv S D, .int .i64 now, .int .i64 ep, .int .i64 lim] w (CsL S 0 id w) := by
  by_cases hE : exS S (xpB now ep lim) = 0
  · obtain ⟨-, -, hB⟩ := exS_zero hE
    rcases h with ⟨V, k, rfl⟩ | ⟨n, n1, n2, rfl⟩
    · obtain ⟨V', k', e', p'⟩ := cs_exp (now := now) (ep := ep) k
      exact (sexp_ok V k D now ep lim w hs hB).mono fun e w' q => csi_of (by rw [e'] at q; exact q) (csq_same id k k' p')
    · rw [fr_ex n1 n2] at hE; exact absurd hE (by decide)
  · exact (sexp_bad S D now ep lim w hs hE).mono fun e w' q => csi_of q (csq_err hE)
end
end Go.Proofs.YtkkgfnncdaiooaaGreat
namespace Go.Proofs.YtkkgfnncdaiooaaGreat
open Go.RowKit
set_option linter.unusedVariables false

def SrOdd (B g : Nat) (w : World) (e : Ending) (w' : World) : Prop := ∃ M : Msg, e = .returned M.v ∧ M.bd.size ≤ 18 ∧ SrcAt w' B g ∧ w.grownBy w' (some g)

theorem row_cells (w : World) (zs : List Int) (t : TypeId) : ∀ j (hj : j < zs.length), (w.alloc (.cells (zs.map i64v).toArray t)).cell? ⟨w.heap.size, j, none⟩ = some (.int .i64 zs[j]) := by
  intro j hj
  rw [World.cell?_alloc_new]
  simp [hj, i64v]

end Go.Proofs.YtkkgfnncdaiooaaGreat
