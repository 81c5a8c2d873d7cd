/- What is proved here: ref13.Step by a contract. -/
import Derived.Test.YtijpflljopckiaaJ40
import Derived.Test.YtijpflljopckiaaJ45
import Derived.Test.YtijpflljopckiaaJ20
import Derived.Deep.DeepCutAuto
import Derived.Deep.RegionHeld3
namespace Go.Proofs.Ytijpflljopckiaa
open Go.RowKit
set_option linter.unusedVariables false

set_option maxHeartbeats 8000000 in
set_option maxRecDepth 20000 in
theorem rstep13_2 (a : Ar) (Y : Ax) (l : Lk) (A : Option Addr) (c : Nat) (t : Int) (w : World) (har : AR w w.heap.size a Y) (hf : Fl w w.heap.size (.slice A l.cs.length c) l.cs) (hw : a.sl.length ≤ 1000) (hs : l.sm) (hk0 : l.ph = 0 → 0 ≤ l.hv ∧ l.hv < l.cs.length) (hk1 : l.ph = 1 ∨ l.ph = 4 → 1 ≤ l.hv ∧ l.hv ≤ l.cs.length) (h2 : l.ph = 2) : Calls Try.prog 25 #[av a Y, lv l A c, .int .i64 t] w (RS13 w a Y l.cs.length A (stA13 a l t) (stL13 a l t) (stE13 a l t)) := by
  have HHY := Lib.hid h2
  clear h2
  obtain ⟨p, hp⟩ : ∃ p, p = w.heap.size := ⟨_, rfl⟩
  obtain ⟨q, hq⟩ : ∃ q, q = w.heap.size + 1 := ⟨_, rfl⟩
  obtain ⟨r, hr⟩ : ∃ r, r = w.heap.size + 2 := ⟨_, rfl⟩
  obtain ⟨s, hss⟩ : ∃ s, s = w.heap.size + 3 := ⟨_, rfl⟩
  have H0 := Lib.hid (show Js w p q r s a Y l A c _ from by rw [hss, hr, hq, hp]; exact Js.start har hf)
  have HPP := Lib.hid (And.intro hp (And.intro hq (And.intro hr hss)))
  obtain ⟨E, hE⟩ : ∃ E, E = stE13 a l t := ⟨_, rfl⟩
  obtain ⟨M, hM⟩ : ∃ M, M = stL13 a l t := ⟨_, rfl⟩
  obtain ⟨TA, hTA⟩ : ∃ x, x = stA13 a l t := ⟨_, rfl⟩
  have HR := Lib.hid (And.intro hE (And.intro hM hTA))
  rw [← hE, ← hM, ← hTA]
  have HSM := Lib.hid hs
  have HLE := Lib.hid hw
  have HK0 := Lib.hid hk0
  have HK1 := Lib.hid hk1
  clear hp hq hr hss har hf hw hs hE hM hTA hk0 hk1
  go_enter Try.func25, Try.ntmps25
  go_upto_region 1 with (fail)
  rw [← HPP.out.2.2.2, ← HPP.out.2.2.1, ← HPP.out.2.1, ← HPP.out.1]
  generalize ((((w.alloc (.cells #[.slice Y.A a.sl.length Y.c, .slice Y.A2 a.st.length Y.c2, .int .i64 a.ow, .int .i64 a.cap, .slice Y.A3 a.dl.length Y.c3, .int .i64 a.dir.vn, .slice Y.D.A a.dir.l.length Y.D.c, .slice Y.D.A2 a.dir.F.length Y.D.c2, .int .i64 a.ep, .int .i64 a.ck, .int .i64 a.ni] 36)).alloc (.cells #[.slice A l.cs.length c, .int .i64 l.ph, .int .i64 l.hv, .int .i64 l.tr, .int .i64 l.wt] 60)).alloc (.cells #[.slice none 0 0, .slice none 0 0, .int .i64 0, .int .i64 0, .slice none 0 0, .int .i64 0, .slice none 0 0, .slice none 0 0, .int .i64 0, .int .i64 0, .int .i64 0] 36)).alloc (.cells #[.slice none 0 0, .int .i64 0, .int .i64 0, .int .i64 0, .int .i64 0] 60)) = w1 at *
  have h2 := HHY.out
  have h0 : ¬ l.ph = 0 := by omega
  have h14 : ¬ (l.ph = 1 ∨ l.ph = 4) := by omega
  have hb0 : (l.ph == 0) = false := by simp [h0]
  have hb1 : (l.ph == 1) = false := by simp [h2]
  have hb4 : (l.ph == 4) = false := by simp [h2]
  have hb2 : (l.ph == 2) = true := by simp [h2]
  have HE := Lib.hid (show E = 0 ∧ M = pzL l ∧ TA = a from ⟨by rw [HR.out.1]; unfold stE13; rw [if_neg h0, if_neg h14, if_pos h2], by rw [HR.out.2.1]; unfold stL13; rw [if_neg h0, if_neg h14, if_pos h2], by rw [HR.out.2.2]; unfold stA13; rw [if_neg h0, if_neg h14, if_pos h2]⟩)
  have HMC := Lib.hid (show M.cs = l.cs from by rw [HE.out.2.1]; rfl)
  obtain ⟨x, hx⟩ : ∃ x, x = l.wt - 1 := ⟨_, rfl⟩
  have hw2 : IntKind.i64.wrap (l.wt - 1) = x := by rw [hx]; exact IntWalk.i64_in _ (by have := HSM.out.2.2; omega)
  have HM := Lib.hid (show M = ⟨l.cs, if x = 0 then 0 else l.ph, l.hv, l.tr, x⟩ from by rw [HE.out.2.1, hx]; rfl)
  clear h0 h14 h2 hx
  obtain ⟨y0, y1, y2, y3, y4, y5, y6, y7, y8, y9, y10⟩ := H0.out.pb.k
  have yl := H0.out.pb.lt
  obtain ⟨f0, f1, f2, f3, f4, f5, f6, f7, f8, f9, f10⟩ := H0.out.pb.free
  obtain ⟨l0, l1, l2, l3, l4⟩ := H0.out.qb.k
  have ll := H0.out.qb.lt
  obtain ⟨e0, e1, e2, e3, e4⟩ := H0.out.qb.free
  obtain ⟨r0, r1, r2, r3, r4, r5, r6, r7, r8, r9, r10⟩ := H0.out.rb.k
  have rl := H0.out.rb.lt
  obtain ⟨g0, g1, g2, g3, g4, g5, g6, g7, g8, g9, g10⟩ := H0.out.rb.free
  obtain ⟨s0, s1, s2, s3, s4⟩ := H0.out.sb.k
  have sl := H0.out.sb.lt
  obtain ⟨h0, h1, h2, h3, h4⟩ := H0.out.sb.free
  have npr : ¬ p = r := (by have := H0.out.ne; omega)
  have nrp : ¬ r = p := fun e => npr e.symm
  have npq : ¬ p = q := (by have := H0.out.ne; omega)
  have nqp : ¬ q = p := fun e => npq e.symm
  have nps : ¬ p = s := (by have := H0.out.ne; omega)
  have nsp : ¬ s = p := fun e => nps e.symm
  have nqr : ¬ q = r := (by have := H0.out.ne; omega)
  have nrq : ¬ r = q := fun e => nqr e.symm
  have nqs : ¬ q = s := (by have := H0.out.ne; omega)
  have nsq : ¬ s = q := fun e => nqs e.symm
  have nrs : ¬ r = s := (by have := H0.out.ne; omega)
  have nsr : ¬ s = r := fun e => nrs e.symm
  go_upto_region 28 with (fail)
  clear y0 y1 y2 y3 y4 y5 y6 y7 y8 y9 y10 yl f0 f1 f2 f3 f4 f5 f6 f7 f8 f9 f10 l0 l1 l2 l3 l4 ll e0 e1 e2 e3 e4 r0 r1 r2 r3 r4 r5 r6 r7 r8 r9 r10 rl g0 g1 g2 g3 g4 g5 g6 g7 g8 g9 g10 s0 s1 s2 s3 s4 sl h0 h1 h2 h3 h4 npr nrp npq nqp nps nsp nqr nrq nqs nsq nrs nsr
  have HQ1 := Lib.hid (H0.out.setC (m := ⟨l.cs, l.ph, l.hv, l.tr, x⟩) rfl (H0.out.qb.setW x))
  clear H0 hw2 hb0 hb1 hb4 hb2
  generalize (w1.setCell ⟨q, 4, none⟩ (.int .i64 x)) = w5 at *
  obtain ⟨y0, y1, y2, y3, y4, y5, y6, y7, y8, y9, y10⟩ := HQ1.out.pb.k
  have yl := HQ1.out.pb.lt
  obtain ⟨f0, f1, f2, f3, f4, f5, f6, f7, f8, f9, f10⟩ := HQ1.out.pb.free
  obtain ⟨l0, l1, l2, l3, l4⟩ := HQ1.out.qb.k
  have ll := HQ1.out.qb.lt
  obtain ⟨e0, e1, e2, e3, e4⟩ := HQ1.out.qb.free
  obtain ⟨r0, r1, r2, r3, r4, r5, r6, r7, r8, r9, r10⟩ := HQ1.out.rb.k
  have rl := HQ1.out.rb.lt
  obtain ⟨g0, g1, g2, g3, g4, g5, g6, g7, g8, g9, g10⟩ := HQ1.out.rb.free
  obtain ⟨s0, s1, s2, s3, s4⟩ := HQ1.out.sb.k
  have sl := HQ1.out.sb.lt
  obtain ⟨h0, h1, h2, h3, h4⟩ := HQ1.out.sb.free
  have npr : ¬ p = r := (by have := HQ1.out.ne; omega)
  have nrp : ¬ r = p := fun e => npr e.symm
  have npq : ¬ p = q := (by have := HQ1.out.ne; omega)
  have nqp : ¬ q = p := fun e => npq e.symm
  have nps : ¬ p = s := (by have := HQ1.out.ne; omega)
  have nsp : ¬ s = p := fun e => nps e.symm
  have nqr : ¬ q = r := (by have := HQ1.out.ne; omega)
  have nrq : ¬ r = q := fun e => nqr e.symm
  have nqs : ¬ q = s := (by have := HQ1.out.ne; omega)
  have nsq : ¬ s = q := fun e => nqs e.symm
  have nrs : ¬ r = s := (by have := HQ1.out.ne; omega)
  have nsr : ¬ s = r := fun e => nrs e.symm
  by_cases h0 : x = 0
  · have HM := Lib.hid (show M = ⟨l.cs, 0, l.hv, l.tr, x⟩ from by rw [HM.out, if_pos h0])
    have hb : (x == 0) = true := by simp [h0]
    clear h0
    go_upto_region 30 with (fail)
    clear y0 y1 y2 y3 y4 y5 y6 y7 y8 y9 y10 yl f0 f1 f2 f3 f4 f5 f6 f7 f8 f9 f10 l0 l1 l2 l3 l4 ll e0 e1 e2 e3 e4 r0 r1 r2 r3 r4 r5 r6 r7 r8 r9 r10 rl g0 g1 g2 g3 g4 g5 g6 g7 g8 g9 g10 s0 s1 s2 s3 s4 sl h0 h1 h2 h3 h4 npr nrp npq nqp nps nsp nqr nrq nqs nsq nrs nsr
    have HQ2 := Lib.hid (HQ1.out.setC (m := ⟨l.cs, 0, l.hv, l.tr, x⟩) rfl (HQ1.out.qb.setP 0))
    rw [← HM.out] at HQ2
    clear HQ1 hb
    generalize (w5.setCell ⟨q, 1, none⟩ (.int .i64 0)) = w6 at *
    have HF := Lib.hid (show RS13 w a Y l.cs.length A TA M E (.returned (.tuple #[av a Y, lv M A c, .int .i64 0])) (set5 (set11 _ r a Y) s M A c).drew from by rw [HE.out.1, HE.out.2.2]; exact (rs_out (by have := HQ2.out.ne; omega) (by have := HQ2.out.ne; omega) HQ2.out.bel HQ2.out.ar ⟨HQ2.out.ao.2.2.1, HQ2.out.ao.2.2.2⟩ (fun p0 _ h => h) HQ2.out.fl ⟨HQ2.out.fo.2.2.1, HQ2.out.fo.2.2.2⟩ (fun p0 h => by rw [HMC.out]; exact h)).drew)
    obtain ⟨y0, y1, y2, y3, y4, y5, y6, y7, y8, y9, y10⟩ := HQ2.out.pb.k
    have yl := HQ2.out.pb.lt
    obtain ⟨f0, f1, f2, f3, f4, f5, f6, f7, f8, f9, f10⟩ := HQ2.out.pb.free
    obtain ⟨l0, l1, l2, l3, l4⟩ := HQ2.out.qb.k
    have ll := HQ2.out.qb.lt
    obtain ⟨e0, e1, e2, e3, e4⟩ := HQ2.out.qb.free
    obtain ⟨r0, r1, r2, r3, r4, r5, r6, r7, r8, r9, r10⟩ := HQ2.out.rb.k
    have rl := HQ2.out.rb.lt
    obtain ⟨g0, g1, g2, g3, g4, g5, g6, g7, g8, g9, g10⟩ := HQ2.out.rb.free
    obtain ⟨s0, s1, s2, s3, s4⟩ := HQ2.out.sb.k
    have sl := HQ2.out.sb.lt
    obtain ⟨h0, h1, h2, h3, h4⟩ := HQ2.out.sb.free
    have npr : ¬ p = r := (by have := HQ2.out.ne; omega)
    have nrp : ¬ r = p := fun e => npr e.symm
    have npq : ¬ p = q := (by have := HQ2.out.ne; omega)
    have nqp : ¬ q = p := fun e => npq e.symm
    have nps : ¬ p = s := (by have := HQ2.out.ne; omega)
    have nsp : ¬ s = p := fun e => nps e.symm
    have nqr : ¬ q = r := (by have := HQ2.out.ne; omega)
    have nrq : ¬ r = q := fun e => nqr e.symm
    have nqs : ¬ q = s := (by have := HQ2.out.ne; omega)
    have nsq : ¬ s = q := fun e => nqs e.symm
    have nrs : ¬ r = s := (by have := HQ2.out.ne; omega)
    have nsr : ¬ s = r := fun e => nrs e.symm
    clear HQ2
    go_region
    all_goals
      go_wp2
      exact bodyPost_ret (v := .tuple #[av a Y, lv M A c, .int .i64 0]) (by simp only [results, Try.results25]; go_simp <;> rfl) rfl HF.out
  · have HM := Lib.hid (show M = ⟨l.cs, l.ph, l.hv, l.tr, x⟩ from by rw [HM.out, if_neg h0])
    have hb : (x == 0) = false := by simp [h0]
    clear h0
    go_upto_region 30 with (fail)
    clear y0 y1 y2 y3 y4 y5 y6 y7 y8 y9 y10 yl f0 f1 f2 f3 f4 f5 f6 f7 f8 f9 f10 l0 l1 l2 l3 l4 ll e0 e1 e2 e3 e4 r0 r1 r2 r3 r4 r5 r6 r7 r8 r9 r10 rl g0 g1 g2 g3 g4 g5 g6 g7 g8 g9 g10 s0 s1 s2 s3 s4 sl h0 h1 h2 h3 h4 npr nrp npq nqp nps nsp nqr nrq nqs nsq nrs nsr
    have HQ2 := Lib.hid HQ1.out
    rw [← HM.out] at HQ2
    clear HQ1 hb
    have HF := Lib.hid (show RS13 w a Y l.cs.length A TA M E (.returned (.tuple #[av a Y, lv M A c, .int .i64 0])) (set5 (set11 _ r a Y) s M A c).drew from by rw [HE.out.1, HE.out.2.2]; exact (rs_out (by have := HQ2.out.ne; omega) (by have := HQ2.out.ne; omega) HQ2.out.bel HQ2.out.ar ⟨HQ2.out.ao.2.2.1, HQ2.out.ao.2.2.2⟩ (fun p0 _ h => h) HQ2.out.fl ⟨HQ2.out.fo.2.2.1, HQ2.out.fo.2.2.2⟩ (fun p0 h => by rw [HMC.out]; exact h)).drew)
    obtain ⟨y0, y1, y2, y3, y4, y5, y6, y7, y8, y9, y10⟩ := HQ2.out.pb.k
    have yl := HQ2.out.pb.lt
    obtain ⟨f0, f1, f2, f3, f4, f5, f6, f7, f8, f9, f10⟩ := HQ2.out.pb.free
    obtain ⟨l0, l1, l2, l3, l4⟩ := HQ2.out.qb.k
    have ll := HQ2.out.qb.lt
    obtain ⟨e0, e1, e2, e3, e4⟩ := HQ2.out.qb.free
    obtain ⟨r0, r1, r2, r3, r4, r5, r6, r7, r8, r9, r10⟩ := HQ2.out.rb.k
    have rl := HQ2.out.rb.lt
    obtain ⟨g0, g1, g2, g3, g4, g5, g6, g7, g8, g9, g10⟩ := HQ2.out.rb.free
    obtain ⟨s0, s1, s2, s3, s4⟩ := HQ2.out.sb.k
    have sl := HQ2.out.sb.lt
    obtain ⟨h0, h1, h2, h3, h4⟩ := HQ2.out.sb.free
    have npr : ¬ p = r := (by have := HQ2.out.ne; omega)
    have nrp : ¬ r = p := fun e => npr e.symm
    have npq : ¬ p = q := (by have := HQ2.out.ne; omega)
    have nqp : ¬ q = p := fun e => npq e.symm
    have nps : ¬ p = s := (by have := HQ2.out.ne; omega)
    have nsp : ¬ s = p := fun e => nps e.symm
    have nqr : ¬ q = r := (by have := HQ2.out.ne; omega)
    have nrq : ¬ r = q := fun e => nqr e.symm
    have nqs : ¬ q = s := (by have := HQ2.out.ne; omega)
    have nsq : ¬ s = q := fun e => nqs e.symm
    have nrs : ¬ r = s := (by have := HQ2.out.ne; omega)
    have nsr : ¬ s = r := fun e => nrs e.symm
    clear HQ2
    go_region
    all_goals
      go_wp2
      exact bodyPost_ret (v := .tuple #[av a Y, lv M A c, .int .i64 0]) (by simp only [results, Try.results25]; go_simp <;> rfl) rfl HF.out
set_option maxHeartbeats 8000000 in
set_option maxRecDepth 20000 in
theorem rstep13_x (a : Ar) (Y : Ax) (l : Lk) (A : Option Addr) (c : Nat) (t : Int) (w : World) (har : AR w w.heap.size a Y) (hf : Fl w w.heap.size (.slice A l.cs.length c) l.cs) (hw : a.sl.length ≤ 1000) (hs : l.sm) (hk0 : l.ph = 0 → 0 ≤ l.hv ∧ l.hv < l.cs.length) (hk1 : l.ph = 1 ∨ l.ph = 4 → 1 ≤ l.hv ∧ l.hv ≤ l.cs.length) (hx : l.ph ≠ 0 ∧ l.ph ≠ 1 ∧ l.ph ≠ 4 ∧ l.ph ≠ 2) : Calls Try.prog 25 #[av a Y, lv l A c, .int .i64 t] w (RS13 w a Y l.cs.length A (stA13 a l t) (stL13 a l t) (stE13 a l t)) := by
  have HHY := Lib.hid hx
  clear hx
  obtain ⟨p, hp⟩ : ∃ p, p = w.heap.size := ⟨_, rfl⟩
  obtain ⟨q, hq⟩ : ∃ q, q = w.heap.size + 1 := ⟨_, rfl⟩
  obtain ⟨r, hr⟩ : ∃ r, r = w.heap.size + 2 := ⟨_, rfl⟩
  obtain ⟨s, hss⟩ : ∃ s, s = w.heap.size + 3 := ⟨_, rfl⟩
  have H0 := Lib.hid (show Js w p q r s a Y l A c _ from by rw [hss, hr, hq, hp]; exact Js.start har hf)
  have HPP := Lib.hid (And.intro hp (And.intro hq (And.intro hr hss)))
  obtain ⟨E, hE⟩ : ∃ E, E = stE13 a l t := ⟨_, rfl⟩
  obtain ⟨M, hM⟩ : ∃ M, M = stL13 a l t := ⟨_, rfl⟩
  obtain ⟨TA, hTA⟩ : ∃ x, x = stA13 a l t := ⟨_, rfl⟩
  have HR := Lib.hid (And.intro hE (And.intro hM hTA))
  rw [← hE, ← hM, ← hTA]
  have HSM := Lib.hid hs
  have HLE := Lib.hid hw
  have HK0 := Lib.hid hk0
  have HK1 := Lib.hid hk1
  clear hp hq hr hss har hf hw hs hE hM hTA hk0 hk1
  go_enter Try.func25, Try.ntmps25
  go_upto_region 1 with (fail)
  rw [← HPP.out.2.2.2, ← HPP.out.2.2.1, ← HPP.out.2.1, ← HPP.out.1]
  generalize ((((w.alloc (.cells #[.slice Y.A a.sl.length Y.c, .slice Y.A2 a.st.length Y.c2, .int .i64 a.ow, .int .i64 a.cap, .slice Y.A3 a.dl.length Y.c3, .int .i64 a.dir.vn, .slice Y.D.A a.dir.l.length Y.D.c, .slice Y.D.A2 a.dir.F.length Y.D.c2, .int .i64 a.ep, .int .i64 a.ck, .int .i64 a.ni] 36)).alloc (.cells #[.slice A l.cs.length c, .int .i64 l.ph, .int .i64 l.hv, .int .i64 l.tr, .int .i64 l.wt] 60)).alloc (.cells #[.slice none 0 0, .slice none 0 0, .int .i64 0, .int .i64 0, .slice none 0 0, .int .i64 0, .slice none 0 0, .slice none 0 0, .int .i64 0, .int .i64 0, .int .i64 0] 36)).alloc (.cells #[.slice none 0 0, .int .i64 0, .int .i64 0, .int .i64 0, .int .i64 0] 60)) = w1 at *
  have hx := HHY.out
  have h0 : ¬ l.ph = 0 := by omega
  have h14 : ¬ (l.ph = 1 ∨ l.ph = 4) := by omega
  have h2 : ¬ l.ph = 2 := by omega
  have hb0 : (l.ph == 0) = false := beq_eq_false_iff_ne.2 h0
  have hb1 : (l.ph == 1) = false := beq_eq_false_iff_ne.2 (by omega)
  have hb4 : (l.ph == 4) = false := beq_eq_false_iff_ne.2 (by omega)
  have hb2 : (l.ph == 2) = false := beq_eq_false_iff_ne.2 h2
  have HE := Lib.hid (show E = 7 ∧ M = zK ∧ TA = zA from ⟨by rw [HR.out.1]; unfold stE13; rw [if_neg h0, if_neg h14, if_neg h2], by rw [HR.out.2.1]; unfold stL13; rw [if_neg h0, if_neg h14, if_neg h2], by rw [HR.out.2.2]; unfold stA13; rw [if_neg h0, if_neg h14, if_neg h2]⟩)
  clear h0 h14 h2 hx
  have HF := Lib.hid (show RS13 w a Y l.cs.length A TA M E (.returned (.tuple #[av zA zAx, lv zK none 0, .int .i64 7])) (set5 (set11 w1 r zA zAx) s zK none 0) from by rw [HE.out.1, HE.out.2.1, HE.out.2.2]; exact rs_out (by have := H0.out.ne; omega) (by have := H0.out.ne; omega) H0.out.bel AR.zero ⟨aoff_z _, aoff_z _⟩ (fun p0 _ _ => aoff_z _) Fl.nil ⟨offb_0 _ _, offb_0 _ _⟩ (fun p0 _ => offb_0 _ _))
  obtain ⟨y0, y1, y2, y3, y4, y5, y6, y7, y8, y9, y10⟩ := H0.out.pb.k
  have yl := H0.out.pb.lt
  obtain ⟨f0, f1, f2, f3, f4, f5, f6, f7, f8, f9, f10⟩ := H0.out.pb.free
  obtain ⟨l0, l1, l2, l3, l4⟩ := H0.out.qb.k
  have ll := H0.out.qb.lt
  obtain ⟨e0, e1, e2, e3, e4⟩ := H0.out.qb.free
  obtain ⟨r0, r1, r2, r3, r4, r5, r6, r7, r8, r9, r10⟩ := H0.out.rb.k
  have rl := H0.out.rb.lt
  obtain ⟨g0, g1, g2, g3, g4, g5, g6, g7, g8, g9, g10⟩ := H0.out.rb.free
  obtain ⟨s0, s1, s2, s3, s4⟩ := H0.out.sb.k
  have sl := H0.out.sb.lt
  obtain ⟨h0, h1, h2, h3, h4⟩ := H0.out.sb.free
  have npr : ¬ p = r := (by have := H0.out.ne; omega)
  have nrp : ¬ r = p := fun e => npr e.symm
  have npq : ¬ p = q := (by have := H0.out.ne; omega)
  have nqp : ¬ q = p := fun e => npq e.symm
  have nps : ¬ p = s := (by have := H0.out.ne; omega)
  have nsp : ¬ s = p := fun e => nps e.symm
  have nqr : ¬ q = r := (by have := H0.out.ne; omega)
  have nrq : ¬ r = q := fun e => nqr e.symm
  have nqs : ¬ q = s := (by have := H0.out.ne; omega)
  have nsq : ¬ s = q := fun e => nqs e.symm
  have nrs : ¬ r = s := (by have := H0.out.ne; omega)
  have nsr : ¬ s = r := fun e => nrs e.symm
  clear H0
  go_wp2
  exact bodyPost_ret (v := .tuple #[.agg #[.slice none 0 0, .slice none 0 0, .int .i64 0, .int .i64 0, .slice none 0 0, .int .i64 0, .slice none 0 0, .slice none 0 0, .int .i64 0, .int .i64 0, .int .i64 0], .agg #[.slice none 0 0, .int .i64 0, .int .i64 0, .int .i64 0, .int .i64 0], .int .i64 7]) (by simp only [results, Try.results25]; go_simp <;> rfl) rfl HF.out
end Go.Proofs.Ytijpflljopckiaa
