/- What is proved here: shard.Ack by a contract; shard.Nack by a contract; Slv; what shardqueuelaw07.ShardLeases reads. -/
import Derived.Test.YtkkgfnncdaiooaaGreatJ39
import Derived.Test.YtkkgfnncdaiooaaGreatJ26
import Derived.Test.YtkkgfnncdaiooaaGreatJ30
import Derived.Test.YtkkgfnncdaiooaaGreatJ38
import Derived.Test.YtkkgfnncdaiooaaGreatJ31
namespace Go.Proofs.YtkkgfnncdaiooaaGreat
open Go.RowKit
set_option linter.unusedVariables false

noncomputable def akF (S : Sh) (id : Int) : Sh := ⟨S.lv, S.lo, S.hi, S.cs, S.hd, S.sz, rlL S.l S.h id, rlH S.l S.h id⟩
def Sh.sz4 (S : Sh) : Prop := 1 ≤ S.cs.length ∧ S.cs.length ≤ 1000 ∧ S.l.length ≤ 1000 ∧ S.h.length ≤ 1000
set_option maxHeartbeats 8000000 in
set_option maxRecDepth 20000 in
theorem sack_any (S : Sh) (D : Sx) (H : Hn) (now ep : Int) (w : World) (hs : SR w w.heap.size S D) (hn : heS S H now ep true = 0 → S.sz4) :
    Calls Tryz.prog 17 #[sv S D, H.v, .int .i64 now, .int .i64 ep] w (SE w (if heS S H now ep true = 0 then akF S H.id else zS) (heS S H now ep true)) := by
  have e1 : (w.alloc (.cells #[.bool S.lv, .int .i64 S.lo, .int .i64 S.hi, .slice D.A S.cs.length D.c, .int .i64 S.hd, .int .i64 S.sz, .slice D.A2 S.l.length D.c2, .slice D.A3 S.h.length D.c3] 33)).heap.size = w.heap.size + 1 := by simp
  have e2 : ((w.alloc (.cells #[.bool S.lv, .int .i64 S.lo, .int .i64 S.hi, .slice D.A S.cs.length D.c, .int .i64 S.hd, .int .i64 S.sz, .slice D.A2 S.l.length D.c2, .slice D.A3 S.h.length D.c3] 33)).alloc (.cells #[.int .i64 H.id, .int .i64 H.gn, .int .i64 H.rt, .int .i64 H.ht] 40)).heap.size = w.heap.size + 1 + 1 := by simp
  have H0 := Lib.hid (((SAt.start 33 hs).alloc (.cells #[.int .i64 H.id, .int .i64 H.gn, .int .i64 H.rt, .int .i64 H.ht] 40)).alloc (.cells #[.bool false, .int .i64 0, .int .i64 0, .slice none 0 0, .int .i64 0, .int .i64 0, .slice none 0 0, .slice none 0 0] 33))
  have Q0 := Lib.hid ((H4.start (w.alloc (.cells #[.bool S.lv, .int .i64 S.lo, .int .i64 S.hi, .slice D.A S.cs.length D.c, .int .i64 S.hd, .int .i64 S.sz, .slice D.A2 S.l.length D.c2, .slice D.A3 S.h.length D.c3] 33)) H 40).up ((Below.refl _ _).alloc (Nat.le_refl _) (.cells #[.bool false, .int .i64 0, .int .i64 0, .slice none 0 0, .int .i64 0, .int .i64 0, .slice none 0 0, .slice none 0 0] 33)))
  have R0 := Lib.hid (SB8.zero ((w.alloc (.cells #[.bool S.lv, .int .i64 S.lo, .int .i64 S.hi, .slice D.A S.cs.length D.c, .int .i64 S.hd, .int .i64 S.sz, .slice D.A2 S.l.length D.c2, .slice D.A3 S.h.length D.c3] 33)).alloc (.cells #[.int .i64 H.id, .int .i64 H.gn, .int .i64 H.rt, .int .i64 H.ht] 40)) 33)
  rw [e1] at Q0
  rw [e2] at R0
  have HHE := Lib.hid (fun p W (k : SAt w p S D W) => (show Calls Tryz.prog 45 #[sv S D, H.v, .int .i64 now, .int .i64 ep, .slice none 0 0] W (VlT W (heS S H now ep true)) from sherr_any S D H now ep none [] W k.sr Nl.nil (fun _ => rfl) (by simp)))
  obtain ⟨x, hx⟩ : ∃ x, x = heS S H now ep true := ⟨_, rfl⟩
  rw [← hx] at HHE hn
  rw [← hx]
  have HCL := Lib.hid (fun (h : x = 0) p W (q : SAt w p S D W) => sclone_any S D W q.sr (hn h).1 (hn h).2.1 (hn h).2.2.1 (hn h).2.2.2)
  have HRL := Lib.hid (fun p D W (q : SAt w p S D W) => lrelease_any D.A2 S.l.length D.c2 S.l D.A3 S.h.length D.c3 S.h H.id W q.sr.el q.sr.dl)
  obtain ⟨T, hT⟩ : ∃ T, T = akF S H.id := ⟨_, rfl⟩
  obtain ⟨U, hU⟩ : ∃ U, U = if x = 0 then akF S H.id else zS := ⟨_, rfl⟩
  have HUU := Lib.hid (show U = if x = 0 then T else zS from by rw [hU, hT])
  have HTT := Lib.hid (show T = ⟨S.lv, S.lo, S.hi, S.cs, S.hd, S.sz, rlL S.l S.h H.id, rlH S.l S.h H.id⟩ from hT)
  rw [← hU]
  clear hU hT hs hn hx
  generalize rlL S.l S.h H.id = gl at *
  generalize rlH S.l S.h H.id = gh at *
  generalize rlE S.l S.h H.id = rE at *
  generalize rlM S.l S.h H.id = M at *
  go_enter Tryz.func17, Tryz.ntmps17
  obtain ⟨t0, t1, t2, t3, t4, t5, t6, t7, tl⟩ := H0.out.s8.facts
  obtain ⟨q0, q1, q2, q3, ql⟩ := Q0.out
  go_wp2_with fail
  clear t0 t1 t2 t3 t4 t5 t6 t7 tl q0 q1 q2 q3 ql
  obtain ⟨p, hp⟩ : ∃ p, p = w.heap.size := ⟨_, rfl⟩
  obtain ⟨q, hq⟩ : ∃ q, q = w.heap.size + 1 := ⟨_, rfl⟩
  obtain ⟨r, hr⟩ : ∃ r, r = w.heap.size + 1 + 1 := ⟨_, rfl⟩
  have HPR := Lib.hid (show (¬ p = r ∧ ¬ r = p ∧ ¬ p = q ∧ ¬ q = p) ∧ w.heap.size ≤ p ∧ p < q ∧ q < r by omega)
  rw [← hr, ← hq, ← hp]
  rw [← hr] at R0
  rw [← hq] at Q0
  rw [← hp] at H0
  clear e1 e2 hp hq hr
  generalize (((w.alloc (.cells #[.bool S.lv, .int .i64 S.lo, .int .i64 S.hi, .slice D.A S.cs.length D.c, .int .i64 S.hd, .int .i64 S.sz, .slice D.A2 S.l.length D.c2, .slice D.A3 S.h.length D.c3] 33)).alloc (.cells #[.int .i64 H.id, .int .i64 H.gn, .int .i64 H.rt, .int .i64 H.ht] 40)).alloc (.cells #[.bool false, .int .i64 0, .int .i64 0, .slice none 0 0, .int .i64 0, .int .i64 0, .slice none 0 0, .slice none 0 0] 33)) = w1 at *
  refine (HHE.out _ _ H0.out).mono ?_
  rintro e w2 ⟨rfl, hb⟩
  have H1 := Lib.hid (H0.out.below hb)
  have Q1 := Lib.hid (Q0.out.up hb)
  have R1 := Lib.hid (R0.out.up hb)
  clear hb HHE H0 Q0 R0
  by_cases hx : x = 0
  · have HX := Lib.hid hx
    subst hx
    obtain ⟨t0, t1, t2, t3, t4, t5, t6, t7, tl⟩ := H1.out.s8.facts
    go_wp2_with fail
    clear t0 t1 t2 t3 t4 t5 t6 t7 tl
    refine (HCL.out (by first | trivial | rfl) _ _ H1.out).mono ?_
    rintro e w3 ⟨D2, rfl, hn2, hr2, hb⟩
    have H2 := Lib.hid (H1.out.below hb)
    have H3 := Lib.hid (show SAt w p S D2 ((((((((w3.setCell ⟨p, 0, none⟩ (.bool S.lv)).setCell ⟨p, 1, none⟩ (.int .i64 S.lo)).setCell ⟨p, 2, none⟩ (.int .i64 S.hi)).setCell ⟨p, 3, none⟩ (.slice D2.A S.cs.length D2.c)).setCell ⟨p, 4, none⟩ (.int .i64 S.hd)).setCell ⟨p, 5, none⟩ (.int .i64 S.sz)).setCell ⟨p, 6, none⟩ (.slice D2.A2 S.l.length D2.c2)).setCell ⟨p, 7, none⟩ (.slice D2.A3 S.h.length D2.c3)) from H2.out.put hr2 (hn2.off H1.out.lt))
    have Q2 := Lib.hid (Q1.out.up hb)
    have R3 := Lib.hid (show SB8 ((((((((w3.setCell ⟨p, 0, none⟩ (.bool S.lv)).setCell ⟨p, 1, none⟩ (.int .i64 S.lo)).setCell ⟨p, 2, none⟩ (.int .i64 S.hi)).setCell ⟨p, 3, none⟩ (.slice D2.A S.cs.length D2.c)).setCell ⟨p, 4, none⟩ (.int .i64 S.hd)).setCell ⟨p, 5, none⟩ (.int .i64 S.sz)).setCell ⟨p, 6, none⟩ (.slice D2.A2 S.l.length D2.c2)).setCell ⟨p, 7, none⟩ (.slice D2.A3 S.h.length D2.c3)) r zS zX from (R1.out.up hb).put_far HPR.out.1.2.1 S D2)
    have N2 := Lib.hid (show D2.nw (r + 1) from hn2.low R1.out.lt)
    clear hn2 hr2 hb
    obtain ⟨⟨t0, t1, t2, t3, t4, t5, t6, t7, tl⟩, ⟨f0, f1, f2, f3, f4, f5, f6, f7⟩⟩ := H2.out.s8.all
    obtain ⟨q0, q1, q2, q3, ql⟩ := Q2.out
    obtain ⟨⟨hpr, hrp, hpq, hqp⟩, -, -, -⟩ := HPR.out
    go_wp2_with fail
    clear t0 t1 t2 t3 t4 t5 t6 t7 tl f0 f1 f2 f3 f4 f5 f6 f7 q0 q1 q2 q3 ql hpr hrp hpq hqp H2 Q2 H1 Q1 R1
    generalize ((((((((w3.setCell ⟨p, 0, none⟩ (.bool S.lv)).setCell ⟨p, 1, none⟩ (.int .i64 S.lo)).setCell ⟨p, 2, none⟩ (.int .i64 S.hi)).setCell ⟨p, 3, none⟩ (.slice D2.A S.cs.length D2.c)).setCell ⟨p, 4, none⟩ (.int .i64 S.hd)).setCell ⟨p, 5, none⟩ (.int .i64 S.sz)).setCell ⟨p, 6, none⟩ (.slice D2.A2 S.l.length D2.c2)).setCell ⟨p, 7, none⟩ (.slice D2.A3 S.h.length D2.c3)) = w3' at *
    refine (HRL.out _ _ _ H3.out).mono ?_
    rintro e w4 ⟨A3, c3, A4, c4, rfl, n3, n4, h3, h4, hb⟩
    have H4 := Lib.hid (H3.out.below hb)
    have R4 := Lib.hid (R3.out.up hb)
    have H5 := Lib.hid (show SAt w p ⟨S.lv, S.lo, S.hi, S.cs, S.hd, S.sz, gl, gh⟩ ⟨D2.A, D2.c, A3, c3, A4, c4⟩ (((w4.setCell ⟨p, 6, none⟩ (.slice A3 gl.length c3)).setCell ⟨p, 7, none⟩ (.slice A4 gh.length c4))) from H4.out.setTab h3 h4 (offb_nw n3 H3.out.lt) (offb_nw n4 H3.out.lt))
    have N5 := Lib.hid (show Nw (r + 1) A3 ∧ Nw (r + 1) A4 from ⟨nw_low n3 R3.out.lt, nw_low n4 R3.out.lt⟩)
    clear n3 n4 h3 h4 hb
    have HF := Lib.hid (show SE w U 0 (.returned (.tuple #[.agg #[.bool S.lv, .int .i64 S.lo, .int .i64 S.hi, .slice D2.A S.cs.length D2.c, .int .i64 S.hd, .int .i64 S.sz, .slice A3 gl.length c3, .slice A4 gh.length c4], .int .i64 0])) (((((((((((w4.setCell ⟨p, 6, none⟩ (.slice A3 gl.length c3)).setCell ⟨p, 7, none⟩ (.slice A4 gh.length c4))).setCell ⟨r, 0, none⟩ (.bool S.lv)).setCell ⟨r, 1, none⟩ (.int .i64 S.lo)).setCell ⟨r, 2, none⟩ (.int .i64 S.hi)).setCell ⟨r, 3, none⟩ (.slice D2.A S.cs.length D2.c)).setCell ⟨r, 4, none⟩ (.int .i64 S.hd)).setCell ⟨r, 5, none⟩ (.int .i64 S.sz)).setCell ⟨r, 6, none⟩ (.slice A3 gl.length c3)).setCell ⟨r, 7, none⟩ (.slice A4 gh.length c4)) from by
      rw [HUU.out, if_pos trivial, HTT.out]
      have hne := HPR.out.2
      exact ⟨⟨D2.A, D2.c, A3, c3, A4, c4⟩, rfl, ⟨(N2.out.low (show w.heap.size ≤ r + 1 by omega)).1, nw_low N5.out.1 (by omega), nw_low N5.out.2 (by omega)⟩, SR.sets (S := ⟨S.lv, S.lo, S.hi, S.cs, S.hd, S.sz, gl, gh⟩) (D := ⟨D2.A, D2.c, A3, c3, A4, c4⟩) ⟨(N2.out.off (Nat.lt_succ_self r)).o1, offb_nw N5.out.1 (Nat.lt_succ_self r), offb_nw N5.out.2 (Nat.lt_succ_self r)⟩ (Sh.l8 ⟨S.lv, S.lo, S.hi, S.cs, S.hd, S.sz, gl, gh⟩ ⟨D2.A, D2.c, A3, c3, A4, c4⟩) 0 _ H5.out.sr, set8s_below (show w.heap.size ≤ r by omega) H5.out.bel ⟨S.lv, S.lo, S.hi, S.cs, S.hd, S.sz, gl, gh⟩ ⟨D2.A, D2.c, A3, c3, A4, c4⟩⟩)
    obtain ⟨⟨t0, t1, t2, t3, t4, t5, t6, t7, tl⟩, ⟨f0, f1, f2, f3, f4, f5, f6, f7⟩⟩ := H4.out.s8.all
    obtain ⟨⟨r0, r1, r2, r3, r4, r5, r6, r7, rl⟩, ⟨g0, g1, g2, g3, g4, g5, g6, g7⟩⟩ := R4.out.all
    obtain ⟨⟨hpr, hrp, hpq, hqp⟩, -, -, -⟩ := HPR.out
    go_wp2
    exact bodyPost_ret (v := .tuple #[.agg #[.bool S.lv, .int .i64 S.lo, .int .i64 S.hi, .slice D2.A S.cs.length D2.c, .int .i64 S.hd, .int .i64 S.sz, .slice A3 gl.length c3, .slice A4 gh.length c4], .int .i64 0]) (by simp only [results, Tryz.results17]; go_simp <;> rfl) rfl HF.out
  · have hne : (x != 0) = true := bne_iff_ne.2 hx
    have HF := Lib.hid (show SE w U x (.returned (.tuple #[.agg #[.bool false, .int .i64 0, .int .i64 0, .slice none 0 0, .int .i64 0, .int .i64 0, .slice none 0 0, .slice none 0 0], .int .i64 x])) (z8 w2 r) from by
      rw [HUU.out, if_neg hx]
      have hne := HPR.out.2
      exact se_zero (by omega) H1.out.bel)
    clear hx
    obtain ⟨⟨r0, r1, r2, r3, r4, r5, r6, r7, rl⟩, ⟨g0, g1, g2, g3, g4, g5, g6, g7⟩⟩ := R1.out.all
    go_wp2
    exact bodyPost_ret (v := .tuple #[.agg #[.bool false, .int .i64 0, .int .i64 0, .slice none 0 0, .int .i64 0, .int .i64 0, .slice none 0 0, .slice none 0 0], .int .i64 x]) (by simp only [results, Tryz.results17]; go_simp <;> rfl) rfl HF.out
end Go.Proofs.YtkkgfnncdaiooaaGreat
namespace Go.Proofs.YtkkgfnncdaiooaaGreat
open Go.RowKit
set_option linter.unusedVariables false

theorem nl_one (w : World) (a : Rn) (t : TypeId) : Nl (w.alloc (.cells #[.int .i64 a.n, .int .i64 a.lo, .int .i64 a.hi] t)) (w.heap.size + 1) (.slice (some ⟨w.heap.size, 0, none⟩) 1 1) [a] := by
  refine ⟨_, 1, rfl, Nat.le_refl _, by unfold maxLen; omega, by simp [rcs, Rn.l], fun _ => ⟨w.heap.size, 0, rfl, Nat.lt_succ_self _, fun j u hu => ?_⟩⟩
  rw [Nat.zero_add, World.cell?_alloc_new]
  simpa [rcs, Rn.l] using hu
abbrev NkK (p q b : Nat) (S : Sh) (D : Sx) (H : Hn) (lim : Int) (W : World) : Prop := K8 p S D W ∧ W.cell? ⟨q, 0, none⟩ = some (.int .i64 H.id) ∧ W.cell? ⟨q, 1, none⟩ = some (.int .i64 H.gn) ∧ W.cell? ⟨q, 2, none⟩ = some (.int .i64 H.rt) ∧ W.cell? ⟨q, 3, none⟩ = some (.int .i64 H.ht) ∧ W.cell? ⟨b, 0, none⟩ = some (.int .i64 lim)
theorem NkK.mk {p q b : Nat} {S : Sh} {D : Sx} {H : Hn} {lim : Int} {W : World} (h : K8 p S D W) (k : H4 W q H) (c : W.cell? ⟨b, 0, none⟩ = some (.int .i64 lim)) : NkK p q b S D H lim W := ⟨h, k.1, k.2.1, k.2.2.1, k.2.2.2.1, c⟩
set_option maxHeartbeats 8000000 in
set_option maxRecDepth 20000 in
theorem snack_any (S : Sh) (D : Sx) (H : Hn) (now ep lim : Int) (w : World) (hs : SR w w.heap.size S D) :
    Calls Tryz.prog 14 #[sv S D, H.v, .int .i64 now, .int .i64 ep, .int .i64 lim] w (SE w (if heS S H now ep (wi lim 1 8) = 0 then gbN S H.id lim else zS) (heS S H now ep (wi lim 1 8))) := by
  have e1 : (w.alloc (.cells #[.bool S.lv, .int .i64 S.lo, .int .i64 S.hi, .slice D.A S.cs.length D.c, .int .i64 S.hd, .int .i64 S.sz, .slice D.A2 S.l.length D.c2, .slice D.A3 S.h.length D.c3] 33)).heap.size = w.heap.size + 1 := by simp
  have e2 : ((w.alloc (.cells #[.bool S.lv, .int .i64 S.lo, .int .i64 S.hi, .slice D.A S.cs.length D.c, .int .i64 S.hd, .int .i64 S.sz, .slice D.A2 S.l.length D.c2, .slice D.A3 S.h.length D.c3] 33)).alloc (.cells #[.int .i64 H.id, .int .i64 H.gn, .int .i64 H.rt, .int .i64 H.ht] 40)).heap.size = w.heap.size + 1 + 1 := by simp
  have e3 : (((w.alloc (.cells #[.bool S.lv, .int .i64 S.lo, .int .i64 S.hi, .slice D.A S.cs.length D.c, .int .i64 S.hd, .int .i64 S.sz, .slice D.A2 S.l.length D.c2, .slice D.A3 S.h.length D.c3] 33)).alloc (.cells #[.int .i64 H.id, .int .i64 H.gn, .int .i64 H.rt, .int .i64 H.ht] 40)).alloc (.cells #[.int .i64 lim] 3)).heap.size = w.heap.size + 1 + 1 + 1 := by simp
  have H0 := Lib.hid ((((SAt.start 33 hs).alloc (.cells #[.int .i64 H.id, .int .i64 H.gn, .int .i64 H.rt, .int .i64 H.ht] 40)).alloc (.cells #[.int .i64 lim] 3)).alloc (.cells #[.bool false, .int .i64 0, .int .i64 0, .slice none 0 0, .int .i64 0, .int .i64 0, .slice none 0 0, .slice none 0 0] 33))
  have Q0 := Lib.hid (((H4.start (w.alloc (.cells #[.bool S.lv, .int .i64 S.lo, .int .i64 S.hi, .slice D.A S.cs.length D.c, .int .i64 S.hd, .int .i64 S.sz, .slice D.A2 S.l.length D.c2, .slice D.A3 S.h.length D.c3] 33)) H 40).up ((Below.refl _ _).alloc (Nat.le_refl _) (.cells #[.int .i64 lim] 3))).up ((Below.refl _ _).alloc (Nat.le_refl _) (.cells #[.bool false, .int .i64 0, .int .i64 0, .slice none 0 0, .int .i64 0, .int .i64 0, .slice none 0 0, .slice none 0 0] 33)))
  have R0 := Lib.hid (SB8.zero (((w.alloc (.cells #[.bool S.lv, .int .i64 S.lo, .int .i64 S.hi, .slice D.A S.cs.length D.c, .int .i64 S.hd, .int .i64 S.sz, .slice D.A2 S.l.length D.c2, .slice D.A3 S.h.length D.c3] 33)).alloc (.cells #[.int .i64 H.id, .int .i64 H.gn, .int .i64 H.rt, .int .i64 H.ht] 40)).alloc (.cells #[.int .i64 lim] 3)) 33)
  have L0 : Hid (((((w.alloc (.cells #[.bool S.lv, .int .i64 S.lo, .int .i64 S.hi, .slice D.A S.cs.length D.c, .int .i64 S.hd, .int .i64 S.sz, .slice D.A2 S.l.length D.c2, .slice D.A3 S.h.length D.c3] 33)).alloc (.cells #[.int .i64 H.id, .int .i64 H.gn, .int .i64 H.rt, .int .i64 H.ht] 40)).alloc (.cells #[.int .i64 lim] 3)).alloc (.cells #[.bool false, .int .i64 0, .int .i64 0, .slice none 0 0, .int .i64 0, .int .i64 0, .slice none 0 0, .slice none 0 0] 33)).cell? ⟨w.heap.size + 1 + 1, 0, none⟩ = some (.int .i64 lim)) := Lib.hid (by simp [go_sem])
  rw [e1] at Q0
  rw [e3] at R0
  have HHE := Lib.hid (fun A p W (k : SAt w p S D W) (hn : Nl W W.heap.size (.slice (some A) 1 1) [⟨lim, 1, 8⟩]) => (show Calls Tryz.prog 45 #[sv S D, H.v, .int .i64 now, .int .i64 ep, .slice (some A) 1 1] W (VlT W (heS S H now ep (wi lim 1 8))) from by
    have h := sherr_any S D H now ep (some A) [⟨lim, 1, 8⟩] W k.sr hn (fun h => by cases h) (by simp)
    have he : ([⟨lim, 1, 8⟩] : List Rn).all Rn.ok = wi lim 1 8 := by simp [Rn.ok]
    rw [he] at h
    exact h))
  obtain ⟨x, hx⟩ : ∃ x, x = heS S H now ep (wi lim 1 8) := ⟨_, rfl⟩
  rw [← hx] at HHE
  rw [← hx]
  have HL := Lib.hid (fun W => alimit_any lim W)
  have HGB := Lib.hid (fun p b W (q : SAt w p S D W) (hc : W.cell? ⟨b, 0, none⟩ = some (.int .i64 lim)) (hb : b < W.heap.size) => givenack_any S D H.id b lim W q.sr hc hb)
  obtain ⟨T, hT⟩ : ∃ T, T = gbN S H.id lim := ⟨_, rfl⟩
  obtain ⟨U, hU⟩ : ∃ U, U = if x = 0 then gbN S H.id lim else zS := ⟨_, rfl⟩
  have HUU := Lib.hid (show U = if x = 0 then T else zS from by rw [hU, hT])
  rw [← hU]
  rw [← hT] at HGB
  clear hU hT hs hx
  go_enter Tryz.func14, Tryz.ntmps14
  obtain ⟨p, hp⟩ : ∃ p, p = w.heap.size := ⟨_, rfl⟩
  obtain ⟨q, hq⟩ : ∃ q, q = w.heap.size + 1 := ⟨_, rfl⟩
  obtain ⟨b, hb0⟩ : ∃ b, b = w.heap.size + 1 + 1 := ⟨_, rfl⟩
  obtain ⟨r, hr⟩ : ∃ r, r = w.heap.size + 1 + 1 + 1 := ⟨_, rfl⟩
  have HPR := Lib.hid (show w.heap.size ≤ p ∧ p < q ∧ q < b ∧ b < r by omega)
  rw [← hr] at R0
  rw [← hb0] at L0
  rw [← hq] at Q0
  rw [← hp] at H0
  clear e1 e2 e3
  go_upto_region 1 with (fail)
  rw [← hr, ← hb0, ← hq, ← hp]
  clear hp hq hb0 hr
  generalize ((((w.alloc (.cells #[.bool S.lv, .int .i64 S.lo, .int .i64 S.hi, .slice D.A S.cs.length D.c, .int .i64 S.hd, .int .i64 S.sz, .slice D.A2 S.l.length D.c2, .slice D.A3 S.h.length D.c3] 33)).alloc (.cells #[.int .i64 H.id, .int .i64 H.gn, .int .i64 H.rt, .int .i64 H.ht] 40)).alloc (.cells #[.int .i64 lim] 3)).alloc (.cells #[.bool false, .int .i64 0, .int .i64 0, .slice none 0 0, .int .i64 0, .int .i64 0, .slice none 0 0, .slice none 0 0] 33)) = w1 at *
  have HLT := Lib.hid (show b < w1.heap.size from Nat.lt_trans HPR.out.2.2.2 R0.out.lt)
  have HD := Lib.hid H0.out.drew
  have Q1 := Lib.hid (Q0.out.up ((Below.refl _ _).drew))
  have R1 := Lib.hid (R0.out.up ((Below.refl _ _).drew))
  have L1 := Lib.hid (show w1.drew.cell? ⟨b, 0, none⟩ = some (.int .i64 lim) from L0.out)
  have HT0 := Lib.hid (show NkK p q b S D H lim w1.drew from NkK.mk HD.out.k8 Q1.out L1.out)
  go_region_held3 (fun W => NkK p q b S D H lim W)
    (first | with_reducible exact HT0.out | with_reducible exact HT1.out | with_reducible exact HT2.out | with_reducible exact HT3.out | with_reducible exact HT4.out | with_reducible exact HT5.out)
    (first
    | (go_at_call 39; (with_reducible refine (HL.out _).mono ?_); rintro e w3 ⟨rfl, hb⟩; have HB2 := Lib.hid hb; have HA2 := Lib.hid ((HD.out.below hb).alloc (.cells #[.int .i64 lim, .int .i64 1, .int .i64 8] 78)); have HB3 := Lib.hid (hb.trans ((((Below.refl w3.heap.size w3).alloc (Nat.le_refl _) (.cells #[.int .i64 lim, .int .i64 1, .int .i64 8] 78))).mono hb.size)); have Q2 := Lib.hid (Q1.out.up HB3.out); have R2 := Lib.hid (R1.out.up HB3.out); have L2 := Lib.hid ((HB3.out.cell (p := ⟨b, 0, none⟩) HLT.out).trans L1.out); have HT1 := Lib.hid (show NkK p q b S D H lim w3 from NkK.mk (HD.out.below hb).k8 (Q1.out.up hb) ((hb.cell (p := ⟨b, 0, none⟩) HLT.out).trans L1.out)); have HT2 := Lib.hid (show NkK p q b S D H lim (w3.alloc (.cells #[.int .i64 lim, .int .i64 1, .int .i64 8] 78)) from NkK.mk HA2.out.k8 Q2.out L2.out); have HNL := Lib.hid (nl_one w3 ⟨lim, 1, 8⟩ 78); clear hb)
    | (go_at_call 45; (with_reducible refine (HHE.out _ _ _ HA2.out ?_).mono ?_); (have := HNL.out; simpa using this); rintro e w5 ⟨rfl, hb⟩; have HA5 := Lib.hid (HA2.out.below hb); have Q5 := Lib.hid (Q2.out.up hb); have R5 := Lib.hid (R2.out.up hb); have HB5 := Lib.hid (HB3.out.trans (hb.mono HB3.out.size)); have L5 := Lib.hid ((HB5.out.cell (p := ⟨b, 0, none⟩) HLT.out).trans L1.out); have HT3 := Lib.hid (show NkK p q b S D H lim w5 from NkK.mk HA5.out.k8 Q5.out L5.out); clear hb))
  have HL5 := Lib.hid (show b < w5.heap.size from Nat.lt_trans HPR.out.2.2.2 R5.out.lt)
  clear HD HT0 HT1 HT2 HT3 HA2 HNL HL HHE H0 R0 R1 R2 Q0 Q1 Q2 HB2 HB3 HB5 L0 L1 L2 HLT
  by_cases hx : x = 0
  · have HX := Lib.hid hx
    subst hx
    obtain ⟨t0, t1, t2, t3, t4, t5, t6, t7, tl⟩ := HA5.out.s8.facts
    obtain ⟨q0, q1, q2, q3, ql⟩ := Q5.out
    go_wp2_with fail
    clear t0 t1 t2 t3 t4 t5 t6 t7 tl q0 q1 q2 q3 ql
    refine (HGB.out _ _ _ HA5.out L5.out HL5.out).mono ?_
    rintro e w6 ⟨D2, rfl, hn2, hr2, hb⟩
    have R6 := Lib.hid (R5.out.up hb)
    have HF := Lib.hid (show SE w U 0 (.returned (.tuple #[.agg #[.bool T.lv, .int .i64 T.lo, .int .i64 T.hi, .slice D2.A T.cs.length D2.c, .int .i64 T.hd, .int .i64 T.sz, .slice D2.A2 T.l.length D2.c2, .slice D2.A3 T.h.length D2.c3], .int .i64 0])) ((((((((w6.setCell ⟨r, 0, none⟩ (.bool T.lv)).setCell ⟨r, 1, none⟩ (.int .i64 T.lo)).setCell ⟨r, 2, none⟩ (.int .i64 T.hi)).setCell ⟨r, 3, none⟩ (.slice D2.A T.cs.length D2.c)).setCell ⟨r, 4, none⟩ (.int .i64 T.hd)).setCell ⟨r, 5, none⟩ (.int .i64 T.sz)).setCell ⟨r, 6, none⟩ (.slice D2.A2 T.l.length D2.c2)).setCell ⟨r, 7, none⟩ (.slice D2.A3 T.h.length D2.c3)) from by
      rw [HUU.out, if_pos trivial]
      have hne := HPR.out
      have hbel := HA5.out.bel
      have hlt := R5.out.lt
      exact ⟨D2, rfl, hn2.low hbel.size, SR.sets (hn2.off hlt) (T.l8 D2) 0 _ hr2, set8s_below (show w.heap.size ≤ r by omega) (hbel.trans (hb.mono hbel.size)) T D2⟩)
    clear hn2 hr2 hb
    obtain ⟨⟨r0, r1, r2, r3, r4, r5, r6, r7, rl⟩, ⟨g0, g1, g2, g3, g4, g5, g6, g7⟩⟩ := R6.out.all
    go_wp2
    exact bodyPost_ret (v := .tuple #[.agg #[.bool T.lv, .int .i64 T.lo, .int .i64 T.hi, .slice D2.A T.cs.length D2.c, .int .i64 T.hd, .int .i64 T.sz, .slice D2.A2 T.l.length D2.c2, .slice D2.A3 T.h.length D2.c3], .int .i64 0]) (by simp only [results, Tryz.results14]; go_simp <;> rfl) rfl HF.out
  · have hne : (x != 0) = true := bne_iff_ne.2 hx
    have HF := Lib.hid (show SE w U x (.returned (.tuple #[.agg #[.bool false, .int .i64 0, .int .i64 0, .slice none 0 0, .int .i64 0, .int .i64 0, .slice none 0 0, .slice none 0 0], .int .i64 x])) (z8 w5 r) from by
      rw [HUU.out, if_neg hx]
      have hne := HPR.out
      exact se_zero (by omega) HA5.out.bel)
    clear hx
    obtain ⟨⟨r0, r1, r2, r3, r4, r5, r6, r7, rl⟩, ⟨g0, g1, g2, g3, g4, g5, g6, g7⟩⟩ := R5.out.all
    go_wp2
    exact bodyPost_ret (v := .tuple #[.agg #[.bool false, .int .i64 0, .int .i64 0, .slice none 0 0, .int .i64 0, .int .i64 0, .slice none 0 0, .slice none 0 0], .int .i64 x]) (by simp only [results, Tryz.results14]; go_simp <;> rfl) rfl HF.out
end Go.Proofs.YtkkgfnncdaiooaaGreat
/- Plain: what Take's leases are: Holds, Ack and Nack of them. -/
namespace Go.Proofs.YtkkgfnncdaiooaaGreat
open Go.RowKit
set_option linter.unusedVariables false

theorem vf_parts {M : Msg} (h : vf M = 0) : (1 ≤ M.id ∧ M.id ≤ 1073741824) ∧ (0 ≤ M.rt ∧ M.rt ≤ 65535) ∧ (0 ≤ M.ep ∧ M.ep ≤ 65536) ∧ (0 ≤ M.ct ∧ M.ct ≤ 8) ∧ (M.ct ≤ M.gn ∧ M.gn ≤ 65536) ∧ (0 ≤ M.st ∧ M.st ≤ 1073741824) ∧ ¬ (16 : Int) < (M.bd.size : Int) := by
  unfold vf at h
  cases hh : hv M with
  | false => rw [hh, if_neg (by decide)] at h; exact absurd h (by decide)
  | true =>
    rw [if_pos hh] at h
    unfold hv at hh
    simp only [Bool.and_eq_true] at hh
    refine ⟨wi_of hh.1, wi_of hh.2.1, wi_of hh.2.2.1, wi_of hh.2.2.2.1, wi_of hh.2.2.2.2.1, wi_of hh.2.2.2.2.2, fun g => ?_⟩
    rw [if_pos g] at h; exact absurd h (by decide)
theorem vf_mk {M : Msg} (h1 : 1 ≤ M.id ∧ M.id ≤ 1073741824) (h2 : 0 ≤ M.rt ∧ M.rt ≤ 65535) (h3 : 0 ≤ M.ep ∧ M.ep ≤ 65536) (h4 : 0 ≤ M.ct ∧ M.ct ≤ 8) (h5 : M.ct ≤ M.gn ∧ M.gn ≤ 65536) (h6 : 0 ≤ M.st ∧ M.st ≤ 1073741824) (h7 : ¬ (16 : Int) < (M.bd.size : Int)) : vf M = 0 := by
  have e : hv M = true := by
    unfold hv
    rw [wi_true h1.1 h1.2, wi_true h2.1 h2.2, wi_true h3.1 h3.2, wi_true h4.1 h4.2, wi_true h5.1 h5.2, wi_true h6.1 h6.2]; rfl
  unfold vf
  rw [if_pos e, if_neg h7]
theorem dl_facts {M : Msg} {ep lim : Int} (hM : vf M = 0) (h : rvF M ep lim = true) (hl : lim ≤ 8) : vf (dlM M) = 0 ∧ (dlM M).id = M.id ∧ (dlM M).rt = M.rt ∧ (dlM M).ep = M.ep ∧ 1 ≤ (dlM M).gn := by
  rw [dl_rv hM h hl]
  obtain ⟨p1, p2, p3, p4, p5, p6, p7⟩ := vf_parts hM
  obtain ⟨q1, q2, q3⟩ := rvF_iff.1 h
  exact ⟨vf_mk p1 p2 p3 (by show 0 ≤ M.ct + 1 ∧ M.ct + 1 ≤ 8; omega) (by show M.ct + 1 ≤ M.gn + 1 ∧ M.gn + 1 ≤ 65536; omega) p6 p7, rfl, rfl, rfl, by show 1 ≤ M.gn + 1; omega⟩
section
variable {V : Vs} {X : Le} {H : Hn} {now ep lim vis dl id : Int} {mx : Nat}
structure LvOk (S S' : Sh) (X : Le) (now vis ep lim : Int) : Prop where
  dl : X.dl = now + vis
  a1 : hoF S' ⟨X.m.id, X.m.gn, X.m.rt, 0⟩ (now + vis) ep = false
  a2 : 0 < vis → hoF S' ⟨X.m.id, X.m.gn, X.m.rt, 0⟩ (now + vis - 1) ep = true
  a3 : hoF S' ⟨X.m.id, X.m.gn - 1, X.m.rt, 0⟩ now ep = false
  a4 : hoF S' ⟨X.m.id, X.m.gn, (X.m.rt + 1) % 65536, 0⟩ now ep = false
  a5 : hoF S ⟨X.m.id, X.m.gn, X.m.rt, 0⟩ now ep = false
  b1 : 0 < vis → heS S' ⟨X.m.id, X.m.gn, X.m.rt, 0⟩ now ep true = 0
  b2 : 0 < vis → heS S' ⟨X.m.id, X.m.gn, X.m.rt, 0⟩ now ep (wi lim 1 8) = 0
  b3 : hoF (akF S' X.m.id) ⟨X.m.id, X.m.gn, X.m.rt, 0⟩ now ep = false
  b4 : hoF (gbN S' X.m.id lim) ⟨X.m.id, X.m.gn, X.m.rt, 0⟩ now ep = false
  b5 : stF (akF S' X.m.id) = stF S' - 1
  b6 : stF (gbN S' X.m.id lim) = stF S'
  c1 : 1 ≤ X.m.gn ∧ X.m.gn ≤ 65536
  c2 : 0 ≤ X.m.rt ∧ X.m.rt ≤ 65535
  c3 : 1 ≤ stF S' ∧ stF S' ≤ 24
end
end Go.Proofs.YtkkgfnncdaiooaaGreat
namespace Go.Proofs.YtkkgfnncdaiooaaGreat
open Go.RowKit
set_option linter.unusedVariables false

theorem SAt.grownG {w W W' : World} {p g : Nat} {S : Sh} {D : Sx} (h : SAt w p S D W) (hg : W.grownBy W' (some g)) (ho : SOff S D g) (hne : p ≠ g) (hB : w.heap.size ≤ g) : SAt w p S D W' :=
  ⟨h.s8.grownG hg hne, ⟨(h.sr.ls.grownR (Nat.le_refl _) hg (fun q e => by injection e with e; subst e; exact ho.o1)).more hg.size, (h.sr.el.grownR (Nat.le_refl _) hg (fun q e => by injection e with e; subst e; exact ho.o2)).more hg.size, (h.sr.dl.grownR (Nat.le_refl _) hg (fun q e => by injection e with e; subst e; exact ho.o3)).more hg.size⟩, h.off,
   h.bel.grown hg h.bel.size (fun x e => by injection e with e; omega), h.old⟩
structure D5 (W : World) (d : Nat) (mx now vis ep lim : Int) : Prop where
  c0 : W.cell? ⟨d, 0, none⟩ = some (.int .i64 mx)
  c1 : W.cell? ⟨d, 1, none⟩ = some (.int .i64 now)
  c2 : W.cell? ⟨d, 2, none⟩ = some (.int .i64 vis)
  c3 : W.cell? ⟨d, 3, none⟩ = some (.int .i64 ep)
  c4 : W.cell? ⟨d, 4, none⟩ = some (.int .i64 lim)
  lt : d < W.heap.size
def H4f (W : World) (q : Nat) (H : Hn) : Prop := H4 W q H ∧ ∀ o, W.frozen? ⟨q, o, none⟩ = false
structure LwAt (w : World) (p d s : Nat) (S T : Sh) (D E : Sx) (mx now vis ep lim : Int) (A : Option Addr) (c : Nat) (K : List Le) (W : World) : Prop where
  sa : SAt w p S D W
  sb : SAt w s T E W
  d5 : D5 W d mx now vis ep lim
  el : El W W.heap.size (.slice A K.length c) K
structure LuAt (w : World) (p d s q a z : Nat) (S T : Sh) (D E : Sx) (mx now vis ep lim i g r x y : Int) (A : Option Addr) (c : Nat) (K : List Le) (W : World) : Prop where
  lw : LwAt w p d s S T D E mx now vis ep lim A c K W
  hq : H4 W q ⟨i, g, r, 0⟩
  ha : H4 W a ⟨i, x, r, 0⟩
  hz : H4 W z ⟨i, g, y, 0⟩
structure LzAt (w : World) (p d s q a z u v : Nat) (S T F1 F2 : Sh) (D E D3 D4 : Sx) (mx now vis ep lim i g r x y : Int) (A : Option Addr) (c : Nat) (K : List Le) (W : World) : Prop where
  lu : LuAt w p d s q a z S T D E mx now vis ep lim i g r x y A c K W
  s1 : SAt w u F1 D3 W
  s2 : SAt w v F2 D4 W
abbrev LzK (d s q u v : Nat) (T F1 F2 : Sh) (E D3 D4 : Sx) (now ep i g r : Int) (W : World) : Prop := K8 u F1 D3 W ∧ K8 v F2 D4 W ∧ K8 s T E W ∧ W.cell? ⟨q, 0, none⟩ = some (.int .i64 i) ∧ W.cell? ⟨q, 1, none⟩ = some (.int .i64 g) ∧ W.cell? ⟨q, 2, none⟩ = some (.int .i64 r) ∧ W.cell? ⟨q, 3, none⟩ = some (.int .i64 0) ∧ W.cell? ⟨d, 1, none⟩ = some (.int .i64 now) ∧ W.cell? ⟨d, 3, none⟩ = some (.int .i64 ep)
section
variable {w W W' : World} {p d s q a z u v c : Nat} {S T F1 F2 : Sh} {D E D3 D4 : Sx} {mx now vis ep lim i g r x y : Int} {A : Option Addr} {K : List Le}
end
end Go.Proofs.YtkkgfnncdaiooaaGreat
