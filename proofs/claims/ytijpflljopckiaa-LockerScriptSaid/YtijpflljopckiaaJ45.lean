/- What is proved here: locker.Step by a contract. -/
import Derived.Test.YtijpflljopckiaaJ43
import Derived.Test.YtijpflljopckiaaJ44
import Derived.Deep.DeepCutAuto
import Derived.Deep.RegionHeld3
namespace Go.Proofs.Ytijpflljopckiaa
open Go.RowKit
set_option linter.unusedVariables false

theorem SE13o.of {A0 : Option Addr} {w w' : World} {a : Ar} {l : Lk} {x : Int} {e : Ending} (h : SE13o A0 w a l x e w') : ∃ Y A c, e = .returned (.tuple #[av a Y, lv l A c, .int .i64 x]) ∧ Y.nw w.heap.size ∧ (∀ lo, Nw lo A0 → Nw lo A) ∧ AR w' w'.heap.size a Y ∧ Fl w' w'.heap.size (.slice A l.cs.length c) l.cs ∧ Below w.heap.size w w' := h
set_option maxHeartbeats 8000000 in
set_option maxRecDepth 20000 in
theorem jstep_any (a : Ar) (Y : Ax) (l : Lk) (A : Option Addr) (c : Nat) (t : Int) (w : World) (har : AR w w.heap.size a Y) (hf : Fl w w.heap.size (.slice A l.cs.length c) l.cs) (hw : a.Few) (hs : l.sm) : Calls Try.prog 24 #[av a Y, lv l A c, .int .i64 t] w (SE13 w (stA13 a l t) (stL13 a l t) (stE13 a l t)) := by
  obtain ⟨p, hp⟩ : ∃ p, p = w.heap.size := ⟨_, rfl⟩
  obtain ⟨q, hq⟩ : ∃ q, q = w.heap.size + 1 := ⟨_, rfl⟩
  obtain ⟨r, hr⟩ : ∃ r, r = w.heap.size + 2 := ⟨_, rfl⟩
  obtain ⟨s, hss⟩ : ∃ s, s = w.heap.size + 3 := ⟨_, rfl⟩
  have H0 := Lib.hid (show Js w p q r s a Y l A c _ from by rw [hss, hr, hq, hp]; exact Js.start har hf)
  have HPP := Lib.hid (And.intro hp (And.intro hq (And.intro hr hss)))
  have HCL := Lib.hid (fun W (k : Js w p q r s a Y l A c W) => (niclone_any A l.cs.length c l.cs W k.fl (by have := hs.2.2.2; omega)).mono fun _ _ h => niclp_flv h)
  have HA := Lib.hid (fun A' c' W (k : Js w p q r s a Y l A' c' W) => (jacq_any a Y l A' c' t W k.ar k.fl hw hs).mono fun _ _ h => SE13o.of h)
  have HG := Lib.hid (fun A' c' W (k : Js w p q r s a Y l A' c' W) => (jgive_any a Y l A' c' t W k.ar k.fl hw hs).mono fun _ _ h => SE13o.of h)
  have HP := Lib.hid (fun A' c' W => jpause_any l A' c' W hs)
  have HCA := Lib.hid (fun A' c' W (k : Js w p q r s a Y l A' c' W) => aclone_any a Y W k.ar hw)
  obtain ⟨E, hE⟩ : ∃ E, E = stE13 a l t := ⟨_, rfl⟩
  obtain ⟨M, hM⟩ : ∃ M, M = stL13 a l t := ⟨_, rfl⟩
  obtain ⟨TA, hTA⟩ : ∃ x, x = stA13 a l t := ⟨_, rfl⟩
  have HR := Lib.hid (And.intro hE (And.intro hM hTA))
  rw [← hE, ← hM, ← hTA]
  clear hp hq hr hss har hf hw hs hE hM hTA
  go_enter Try.func24, Try.ntmps24
  go_upto_region 1 with (fail)
  rw [← HPP.out.2.2.2, ← HPP.out.2.2.1, ← HPP.out.2.1, ← HPP.out.1]
  generalize ((((w.alloc (.cells #[.slice Y.A a.sl.length Y.c, .slice Y.A2 a.st.length Y.c2, .int .i64 a.ow, .int .i64 a.cap, .slice Y.A3 a.dl.length Y.c3, .int .i64 a.dir.vn, .slice Y.D.A a.dir.l.length Y.D.c, .slice Y.D.A2 a.dir.F.length Y.D.c2, .int .i64 a.ep, .int .i64 a.ck, .int .i64 a.ni] 36)).alloc (.cells #[.slice A l.cs.length c, .int .i64 l.ph, .int .i64 l.hv, .int .i64 l.tr, .int .i64 l.wt] 60)).alloc (.cells #[.slice none 0 0, .slice none 0 0, .int .i64 0, .int .i64 0, .slice none 0 0, .int .i64 0, .slice none 0 0, .slice none 0 0, .int .i64 0, .int .i64 0, .int .i64 0] 36)).alloc (.cells #[.slice none 0 0, .int .i64 0, .int .i64 0, .int .i64 0, .int .i64 0] 60)) = w1 at *
  obtain ⟨y0, y1, y2, y3, y4, y5, y6, y7, y8, y9, y10⟩ := H0.out.pb.k
  have yl := H0.out.pb.lt
  obtain ⟨f0, f1, f2, f3, f4, f5, f6, f7, f8, f9, f10⟩ := H0.out.pb.free
  obtain ⟨l0, l1, l2, l3, l4⟩ := H0.out.qb.k
  have ll := H0.out.qb.lt
  obtain ⟨e0, e1, e2, e3, e4⟩ := H0.out.qb.free
  obtain ⟨r0, r1, r2, r3, r4, r5, r6, r7, r8, r9, r10⟩ := H0.out.rb.k
  have rl := H0.out.rb.lt
  obtain ⟨g0, g1, g2, g3, g4, g5, g6, g7, g8, g9, g10⟩ := H0.out.rb.free
  obtain ⟨s0, s1, s2, s3, s4⟩ := H0.out.sb.k
  have sl := H0.out.sb.lt
  obtain ⟨h0, h1, h2, h3, h4⟩ := H0.out.sb.free
  have npr : ¬ p = r := (by have := H0.out.ne; omega)
  have nrp : ¬ r = p := fun e => npr e.symm
  have npq : ¬ p = q := (by have := H0.out.ne; omega)
  have nqp : ¬ q = p := fun e => npq e.symm
  have nps : ¬ p = s := (by have := H0.out.ne; omega)
  have nsp : ¬ s = p := fun e => nps e.symm
  have nqr : ¬ q = r := (by have := H0.out.ne; omega)
  have nrq : ¬ r = q := fun e => nqr e.symm
  have nqs : ¬ q = s := (by have := H0.out.ne; omega)
  have nsq : ¬ s = q := fun e => nqs e.symm
  have nrs : ¬ r = s := (by have := H0.out.ne; omega)
  have nsr : ¬ s = r := fun e => nrs e.symm
  go_wp2_with fail
  clear y0 y1 y2 y3 y4 y5 y6 y7 y8 y9 y10 yl f0 f1 f2 f3 f4 f5 f6 f7 f8 f9 f10 l0 l1 l2 l3 l4 ll e0 e1 e2 e3 e4 r0 r1 r2 r3 r4 r5 r6 r7 r8 r9 r10 rl g0 g1 g2 g3 g4 g5 g6 g7 g8 g9 g10 s0 s1 s2 s3 s4 sl h0 h1 h2 h3 h4 npr nrp npq nqp nps nsp nqr nrq nqs nsq nrs nsr
  refine (HCL.out _ H0.out).mono ?_
  rintro e w2 ⟨A2, c2, rfl, hn, hl, hb⟩
  have H1 := Lib.hid (H0.out.below hb)
  have HN := Lib.hid (nw_low hn (show s + 1 ≤ _ from H0.out.sb.lt))
  have H2 := Lib.hid (H1.out.setL HN.out hl)
  clear hn hl hb H0 HCL
  obtain ⟨y0, y1, y2, y3, y4, y5, y6, y7, y8, y9, y10⟩ := H1.out.pb.k
  have yl := H1.out.pb.lt
  obtain ⟨f0, f1, f2, f3, f4, f5, f6, f7, f8, f9, f10⟩ := H1.out.pb.free
  obtain ⟨l0, l1, l2, l3, l4⟩ := H1.out.qb.k
  have ll := H1.out.qb.lt
  obtain ⟨e0, e1, e2, e3, e4⟩ := H1.out.qb.free
  obtain ⟨r0, r1, r2, r3, r4, r5, r6, r7, r8, r9, r10⟩ := H1.out.rb.k
  have rl := H1.out.rb.lt
  obtain ⟨g0, g1, g2, g3, g4, g5, g6, g7, g8, g9, g10⟩ := H1.out.rb.free
  obtain ⟨s0, s1, s2, s3, s4⟩ := H1.out.sb.k
  have sl := H1.out.sb.lt
  obtain ⟨h0, h1, h2, h3, h4⟩ := H1.out.sb.free
  have npr : ¬ p = r := (by have := H1.out.ne; omega)
  have nrp : ¬ r = p := fun e => npr e.symm
  have npq : ¬ p = q := (by have := H1.out.ne; omega)
  have nqp : ¬ q = p := fun e => npq e.symm
  have nps : ¬ p = s := (by have := H1.out.ne; omega)
  have nsp : ¬ s = p := fun e => nps e.symm
  have nqr : ¬ q = r := (by have := H1.out.ne; omega)
  have nrq : ¬ r = q := fun e => nqr e.symm
  have nqs : ¬ q = s := (by have := H1.out.ne; omega)
  have nsq : ¬ s = q := fun e => nqs e.symm
  have nrs : ¬ r = s := (by have := H1.out.ne; omega)
  have nsr : ¬ s = r := fun e => nrs e.symm
  go_upto_region 2 with (fail)
  clear y0 y1 y2 y3 y4 y5 y6 y7 y8 y9 y10 yl f0 f1 f2 f3 f4 f5 f6 f7 f8 f9 f10 l0 l1 l2 l3 l4 ll e0 e1 e2 e3 e4 r0 r1 r2 r3 r4 r5 r6 r7 r8 r9 r10 rl g0 g1 g2 g3 g4 g5 g6 g7 g8 g9 g10 s0 s1 s2 s3 s4 sl h0 h1 h2 h3 h4 npr nrp npq nqp nps nsp nqr nrq nqs nsq nrs nsr H1
  generalize (w2.setCell ⟨q, 0, none⟩ (.slice A2 l.cs.length c2)) = w3 at *
  have HNE := Lib.hid (show w.heap.size ≤ r ∧ w.heap.size ≤ s ∧ r < s from by have := H2.out.ne; omega)
  have HNN := Lib.hid (show w.heap.size ≤ s + 1 from by have := HNE.out; omega)
  by_cases h0 : l.ph = 0
  · have hb0 : (l.ph == 0) = true := by simp [h0]
    have HE := Lib.hid (show E = aqE a l t ∧ M = aqR a l t ∧ TA = tlA a (ctF l.cs l.hv) t from ⟨by rw [HR.out.1]; exact if_pos h0, by rw [HR.out.2.1]; exact if_pos h0, by rw [HR.out.2.2]; exact if_pos h0⟩)
    rw [← HE.out.1, ← HE.out.2.1, ← HE.out.2.2] at HA
    clear h0
    obtain ⟨y0, y1, y2, y3, y4, y5, y6, y7, y8, y9, y10⟩ := H2.out.pb.k
    have yl := H2.out.pb.lt
    obtain ⟨f0, f1, f2, f3, f4, f5, f6, f7, f8, f9, f10⟩ := H2.out.pb.free
    obtain ⟨l0, l1, l2, l3, l4⟩ := H2.out.qb.k
    have ll := H2.out.qb.lt
    obtain ⟨e0, e1, e2, e3, e4⟩ := H2.out.qb.free
    obtain ⟨r0, r1, r2, r3, r4, r5, r6, r7, r8, r9, r10⟩ := H2.out.rb.k
    have rl := H2.out.rb.lt
    obtain ⟨g0, g1, g2, g3, g4, g5, g6, g7, g8, g9, g10⟩ := H2.out.rb.free
    obtain ⟨s0, s1, s2, s3, s4⟩ := H2.out.sb.k
    have sl := H2.out.sb.lt
    obtain ⟨h0, h1, h2, h3, h4⟩ := H2.out.sb.free
    have npr : ¬ p = r := (by have := H2.out.ne; omega)
    have nrp : ¬ r = p := fun e => npr e.symm
    have npq : ¬ p = q := (by have := H2.out.ne; omega)
    have nqp : ¬ q = p := fun e => npq e.symm
    have nps : ¬ p = s := (by have := H2.out.ne; omega)
    have nsp : ¬ s = p := fun e => nps e.symm
    have nqr : ¬ q = r := (by have := H2.out.ne; omega)
    have nrq : ¬ r = q := fun e => nqr e.symm
    have nqs : ¬ q = s := (by have := H2.out.ne; omega)
    have nsq : ¬ s = q := fun e => nqs e.symm
    have nrs : ¬ r = s := (by have := H2.out.ne; omega)
    have nsr : ¬ s = r := fun e => nrs e.symm
    go_wp2_with fail
    clear y0 y1 y2 y3 y4 y5 y6 y7 y8 y9 y10 yl f0 f1 f2 f3 f4 f5 f6 f7 f8 f9 f10 l0 l1 l2 l3 l4 ll e0 e1 e2 e3 e4 r0 r1 r2 r3 r4 r5 r6 r7 r8 r9 r10 rl g0 g1 g2 g3 g4 g5 g6 g7 g8 g9 g10 s0 s1 s2 s3 s4 sl h0 h1 h2 h3 h4 npr nrp npq nqp nps nsp nqr nrq nqs nsq nrs nsr hb0
    refine (HA.out _ _ _ H2.out).mono ?_
    rintro e w4 ⟨Z, A3, c3, rfl, hzn, hna, hzr, hfl, hb⟩
    have HNA := Lib.hid (hna _ HN.out)
    have HZN := Lib.hid (And.intro (hzn.low (show s + 1 ≤ _ from H2.out.sb.lt)) (hzn.low H2.out.bel.size))
    have HQ := Lib.hid (H2.out.below hb)
    have HF := Lib.hid (se13_out (a := TA) (l := M) (x := E) HNE.out.1 HNE.out.2.1 HQ.out.bel HZN.out.2 ⟨HZN.out.1.off (by have := HNE.out; omega), HZN.out.1.off (Nat.lt_succ_self s)⟩ hzr (nw_low HNA.out HNN.out) hfl ⟨offb_nw HNA.out (by have := HNE.out; omega), offb_nw HNA.out (Nat.lt_succ_self s)⟩)
    clear hzn hna hzr hfl hb HZN HNA H2
    obtain ⟨y0, y1, y2, y3, y4, y5, y6, y7, y8, y9, y10⟩ := HQ.out.pb.k
    have yl := HQ.out.pb.lt
    obtain ⟨f0, f1, f2, f3, f4, f5, f6, f7, f8, f9, f10⟩ := HQ.out.pb.free
    obtain ⟨l0, l1, l2, l3, l4⟩ := HQ.out.qb.k
    have ll := HQ.out.qb.lt
    obtain ⟨e0, e1, e2, e3, e4⟩ := HQ.out.qb.free
    obtain ⟨r0, r1, r2, r3, r4, r5, r6, r7, r8, r9, r10⟩ := HQ.out.rb.k
    have rl := HQ.out.rb.lt
    obtain ⟨g0, g1, g2, g3, g4, g5, g6, g7, g8, g9, g10⟩ := HQ.out.rb.free
    obtain ⟨s0, s1, s2, s3, s4⟩ := HQ.out.sb.k
    have sl := HQ.out.sb.lt
    obtain ⟨h0, h1, h2, h3, h4⟩ := HQ.out.sb.free
    have npr : ¬ p = r := (by have := HQ.out.ne; omega)
    have nrp : ¬ r = p := fun e => npr e.symm
    have npq : ¬ p = q := (by have := HQ.out.ne; omega)
    have nqp : ¬ q = p := fun e => npq e.symm
    have nps : ¬ p = s := (by have := HQ.out.ne; omega)
    have nsp : ¬ s = p := fun e => nps e.symm
    have nqr : ¬ q = r := (by have := HQ.out.ne; omega)
    have nrq : ¬ r = q := fun e => nqr e.symm
    have nqs : ¬ q = s := (by have := HQ.out.ne; omega)
    have nsq : ¬ s = q := fun e => nqs e.symm
    have nrs : ¬ r = s := (by have := HQ.out.ne; omega)
    have nsr : ¬ s = r := fun e => nrs e.symm
    clear HQ
    go_wp2
    exact bodyPost_ret (v := .tuple #[av TA Z, lv M A3 c3, .int .i64 E]) (by simp only [results, Try.results24]; go_simp <;> rfl) rfl HF.out
  · have hb0 : (l.ph == 0) = false := by simp [h0]
    by_cases h14 : l.ph = 1 ∨ l.ph = 4
    · have HE := Lib.hid (show E = gbE a l t ∧ M = gbR a l t ∧ TA = ulA a (ctF l.cs (l.hv - 1)) t from ⟨by rw [HR.out.1]; unfold stE13; rw [if_neg h0, if_pos h14], by rw [HR.out.2.1]; unfold stL13; rw [if_neg h0, if_pos h14], by rw [HR.out.2.2]; unfold stA13; rw [if_neg h0, if_pos h14]⟩)
      rw [← HE.out.1, ← HE.out.2.1, ← HE.out.2.2] at HG
      clear h0
      rcases h14 with h1 | h4
      · have hb1 : (l.ph == 1) = true := by simp [h1]
        clear h1
        obtain ⟨y0, y1, y2, y3, y4, y5, y6, y7, y8, y9, y10⟩ := H2.out.pb.k
        have yl := H2.out.pb.lt
        obtain ⟨f0, f1, f2, f3, f4, f5, f6, f7, f8, f9, f10⟩ := H2.out.pb.free
        obtain ⟨l0, l1, l2, l3, l4⟩ := H2.out.qb.k
        have ll := H2.out.qb.lt
        obtain ⟨e0, e1, e2, e3, e4⟩ := H2.out.qb.free
        obtain ⟨r0, r1, r2, r3, r4, r5, r6, r7, r8, r9, r10⟩ := H2.out.rb.k
        have rl := H2.out.rb.lt
        obtain ⟨g0, g1, g2, g3, g4, g5, g6, g7, g8, g9, g10⟩ := H2.out.rb.free
        obtain ⟨s0, s1, s2, s3, s4⟩ := H2.out.sb.k
        have sl := H2.out.sb.lt
        obtain ⟨h0, h1, h2, h3, h4⟩ := H2.out.sb.free
        have npr : ¬ p = r := (by have := H2.out.ne; omega)
        have nrp : ¬ r = p := fun e => npr e.symm
        have npq : ¬ p = q := (by have := H2.out.ne; omega)
        have nqp : ¬ q = p := fun e => npq e.symm
        have nps : ¬ p = s := (by have := H2.out.ne; omega)
        have nsp : ¬ s = p := fun e => nps e.symm
        have nqr : ¬ q = r := (by have := H2.out.ne; omega)
        have nrq : ¬ r = q := fun e => nqr e.symm
        have nqs : ¬ q = s := (by have := H2.out.ne; omega)
        have nsq : ¬ s = q := fun e => nqs e.symm
        have nrs : ¬ r = s := (by have := H2.out.ne; omega)
        have nsr : ¬ s = r := fun e => nrs e.symm
        go_wp2_with fail
        clear y0 y1 y2 y3 y4 y5 y6 y7 y8 y9 y10 yl f0 f1 f2 f3 f4 f5 f6 f7 f8 f9 f10 l0 l1 l2 l3 l4 ll e0 e1 e2 e3 e4 r0 r1 r2 r3 r4 r5 r6 r7 r8 r9 r10 rl g0 g1 g2 g3 g4 g5 g6 g7 g8 g9 g10 s0 s1 s2 s3 s4 sl h0 h1 h2 h3 h4 npr nrp npq nqp nps nsp nqr nrq nqs nsq nrs nsr hb0 hb1
        refine (HG.out _ _ _ H2.out).mono ?_
        rintro e w4 ⟨Z, A3, c3, rfl, hzn, hna, hzr, hfl, hb⟩
        have HNA := Lib.hid (hna _ HN.out)
        have HZN := Lib.hid (And.intro (hzn.low (show s + 1 ≤ _ from H2.out.sb.lt)) (hzn.low H2.out.bel.size))
        have HQ := Lib.hid (H2.out.below hb)
        have HF := Lib.hid (se13_out (a := TA) (l := M) (x := E) HNE.out.1 HNE.out.2.1 HQ.out.bel HZN.out.2 ⟨HZN.out.1.off (by have := HNE.out; omega), HZN.out.1.off (Nat.lt_succ_self s)⟩ hzr (nw_low HNA.out HNN.out) hfl ⟨offb_nw HNA.out (by have := HNE.out; omega), offb_nw HNA.out (Nat.lt_succ_self s)⟩)
        clear hzn hna hzr hfl hb HZN HNA H2
        obtain ⟨y0, y1, y2, y3, y4, y5, y6, y7, y8, y9, y10⟩ := HQ.out.pb.k
        have yl := HQ.out.pb.lt
        obtain ⟨f0, f1, f2, f3, f4, f5, f6, f7, f8, f9, f10⟩ := HQ.out.pb.free
        obtain ⟨l0, l1, l2, l3, l4⟩ := HQ.out.qb.k
        have ll := HQ.out.qb.lt
        obtain ⟨e0, e1, e2, e3, e4⟩ := HQ.out.qb.free
        obtain ⟨r0, r1, r2, r3, r4, r5, r6, r7, r8, r9, r10⟩ := HQ.out.rb.k
        have rl := HQ.out.rb.lt
        obtain ⟨g0, g1, g2, g3, g4, g5, g6, g7, g8, g9, g10⟩ := HQ.out.rb.free
        obtain ⟨s0, s1, s2, s3, s4⟩ := HQ.out.sb.k
        have sl := HQ.out.sb.lt
        obtain ⟨h0, h1, h2, h3, h4⟩ := HQ.out.sb.free
        have npr : ¬ p = r := (by have := HQ.out.ne; omega)
        have nrp : ¬ r = p := fun e => npr e.symm
        have npq : ¬ p = q := (by have := HQ.out.ne; omega)
        have nqp : ¬ q = p := fun e => npq e.symm
        have nps : ¬ p = s := (by have := HQ.out.ne; omega)
        have nsp : ¬ s = p := fun e => nps e.symm
        have nqr : ¬ q = r := (by have := HQ.out.ne; omega)
        have nrq : ¬ r = q := fun e => nqr e.symm
        have nqs : ¬ q = s := (by have := HQ.out.ne; omega)
        have nsq : ¬ s = q := fun e => nqs e.symm
        have nrs : ¬ r = s := (by have := HQ.out.ne; omega)
        have nsr : ¬ s = r := fun e => nrs e.symm
        clear HQ
        go_wp2
        exact bodyPost_ret (v := .tuple #[av TA Z, lv M A3 c3, .int .i64 E]) (by simp only [results, Try.results24]; go_simp <;> rfl) rfl HF.out
      · have hb1 : (l.ph == 1) = false := by simp [h4]
        have hb4 : (l.ph == 4) = true := by simp [h4]
        clear h4
        obtain ⟨y0, y1, y2, y3, y4, y5, y6, y7, y8, y9, y10⟩ := H2.out.pb.k
        have yl := H2.out.pb.lt
        obtain ⟨f0, f1, f2, f3, f4, f5, f6, f7, f8, f9, f10⟩ := H2.out.pb.free
        obtain ⟨l0, l1, l2, l3, l4⟩ := H2.out.qb.k
        have ll := H2.out.qb.lt
        obtain ⟨e0, e1, e2, e3, e4⟩ := H2.out.qb.free
        obtain ⟨r0, r1, r2, r3, r4, r5, r6, r7, r8, r9, r10⟩ := H2.out.rb.k
        have rl := H2.out.rb.lt
        obtain ⟨g0, g1, g2, g3, g4, g5, g6, g7, g8, g9, g10⟩ := H2.out.rb.free
        obtain ⟨s0, s1, s2, s3, s4⟩ := H2.out.sb.k
        have sl := H2.out.sb.lt
        obtain ⟨h0, h1, h2, h3, h4⟩ := H2.out.sb.free
        have npr : ¬ p = r := (by have := H2.out.ne; omega)
        have nrp : ¬ r = p := fun e => npr e.symm
        have npq : ¬ p = q := (by have := H2.out.ne; omega)
        have nqp : ¬ q = p := fun e => npq e.symm
        have nps : ¬ p = s := (by have := H2.out.ne; omega)
        have nsp : ¬ s = p := fun e => nps e.symm
        have nqr : ¬ q = r := (by have := H2.out.ne; omega)
        have nrq : ¬ r = q := fun e => nqr e.symm
        have nqs : ¬ q = s := (by have := H2.out.ne; omega)
        have nsq : ¬ s = q := fun e => nqs e.symm
        have nrs : ¬ r = s := (by have := H2.out.ne; omega)
        have nsr : ¬ s = r := fun e => nrs e.symm
        go_wp2_with fail
        clear y0 y1 y2 y3 y4 y5 y6 y7 y8 y9 y10 yl f0 f1 f2 f3 f4 f5 f6 f7 f8 f9 f10 l0 l1 l2 l3 l4 ll e0 e1 e2 e3 e4 r0 r1 r2 r3 r4 r5 r6 r7 r8 r9 r10 rl g0 g1 g2 g3 g4 g5 g6 g7 g8 g9 g10 s0 s1 s2 s3 s4 sl h0 h1 h2 h3 h4 npr nrp npq nqp nps nsp nqr nrq nqs nsq nrs nsr hb0 hb1 hb4
        refine (HG.out _ _ _ H2.out).mono ?_
        rintro e w4 ⟨Z, A3, c3, rfl, hzn, hna, hzr, hfl, hb⟩
        have HNA := Lib.hid (hna _ HN.out)
        have HZN := Lib.hid (And.intro (hzn.low (show s + 1 ≤ _ from H2.out.sb.lt)) (hzn.low H2.out.bel.size))
        have HQ := Lib.hid (H2.out.below hb)
        have HF := Lib.hid (se13_out (a := TA) (l := M) (x := E) HNE.out.1 HNE.out.2.1 HQ.out.bel HZN.out.2 ⟨HZN.out.1.off (by have := HNE.out; omega), HZN.out.1.off (Nat.lt_succ_self s)⟩ hzr (nw_low HNA.out HNN.out) hfl ⟨offb_nw HNA.out (by have := HNE.out; omega), offb_nw HNA.out (Nat.lt_succ_self s)⟩)
        clear hzn hna hzr hfl hb HZN HNA H2
        obtain ⟨y0, y1, y2, y3, y4, y5, y6, y7, y8, y9, y10⟩ := HQ.out.pb.k
        have yl := HQ.out.pb.lt
        obtain ⟨f0, f1, f2, f3, f4, f5, f6, f7, f8, f9, f10⟩ := HQ.out.pb.free
        obtain ⟨l0, l1, l2, l3, l4⟩ := HQ.out.qb.k
        have ll := HQ.out.qb.lt
        obtain ⟨e0, e1, e2, e3, e4⟩ := HQ.out.qb.free
        obtain ⟨r0, r1, r2, r3, r4, r5, r6, r7, r8, r9, r10⟩ := HQ.out.rb.k
        have rl := HQ.out.rb.lt
        obtain ⟨g0, g1, g2, g3, g4, g5, g6, g7, g8, g9, g10⟩ := HQ.out.rb.free
        obtain ⟨s0, s1, s2, s3, s4⟩ := HQ.out.sb.k
        have sl := HQ.out.sb.lt
        obtain ⟨h0, h1, h2, h3, h4⟩ := HQ.out.sb.free
        have npr : ¬ p = r := (by have := HQ.out.ne; omega)
        have nrp : ¬ r = p := fun e => npr e.symm
        have npq : ¬ p = q := (by have := HQ.out.ne; omega)
        have nqp : ¬ q = p := fun e => npq e.symm
        have nps : ¬ p = s := (by have := HQ.out.ne; omega)
        have nsp : ¬ s = p := fun e => nps e.symm
        have nqr : ¬ q = r := (by have := HQ.out.ne; omega)
        have nrq : ¬ r = q := fun e => nqr e.symm
        have nqs : ¬ q = s := (by have := HQ.out.ne; omega)
        have nsq : ¬ s = q := fun e => nqs e.symm
        have nrs : ¬ r = s := (by have := HQ.out.ne; omega)
        have nsr : ¬ s = r := fun e => nrs e.symm
        clear HQ
        go_wp2
        exact bodyPost_ret (v := .tuple #[av TA Z, lv M A3 c3, .int .i64 E]) (by simp only [results, Try.results24]; go_simp <;> rfl) rfl HF.out
    · have hb1 : (l.ph == 1) = false := by simp; exact fun h => h14 (.inl h)
      have hb4 : (l.ph == 4) = false := by simp; exact fun h => h14 (.inr h)
      by_cases h2 : l.ph = 2
      · have HE := Lib.hid (show E = 0 ∧ M = pzL l ∧ TA = a from ⟨by rw [HR.out.1]; unfold stE13; rw [if_neg h0, if_neg h14, if_pos h2], by rw [HR.out.2.1]; unfold stL13; rw [if_neg h0, if_neg h14, if_pos h2], by rw [HR.out.2.2]; unfold stA13; rw [if_neg h0, if_neg h14, if_pos h2]⟩)
        rw [← HE.out.2.1] at HP
        have HMC := Lib.hid (show M.cs = l.cs from by rw [HE.out.2.1]; rfl)
        have hb2 : (l.ph == 2) = true := by simp [h2]
        have HJ := Lib.hid H2.out.drew
        clear h0 h14 h2
        obtain ⟨y0, y1, y2, y3, y4, y5, y6, y7, y8, y9, y10⟩ := H2.out.pb.k
        have yl := H2.out.pb.lt
        obtain ⟨f0, f1, f2, f3, f4, f5, f6, f7, f8, f9, f10⟩ := H2.out.pb.free
        obtain ⟨l0, l1, l2, l3, l4⟩ := H2.out.qb.k
        have ll := H2.out.qb.lt
        obtain ⟨e0, e1, e2, e3, e4⟩ := H2.out.qb.free
        obtain ⟨r0, r1, r2, r3, r4, r5, r6, r7, r8, r9, r10⟩ := H2.out.rb.k
        have rl := H2.out.rb.lt
        obtain ⟨g0, g1, g2, g3, g4, g5, g6, g7, g8, g9, g10⟩ := H2.out.rb.free
        obtain ⟨s0, s1, s2, s3, s4⟩ := H2.out.sb.k
        have sl := H2.out.sb.lt
        obtain ⟨h0, h1, h2, h3, h4⟩ := H2.out.sb.free
        have npr : ¬ p = r := (by have := H2.out.ne; omega)
        have nrp : ¬ r = p := fun e => npr e.symm
        have npq : ¬ p = q := (by have := H2.out.ne; omega)
        have nqp : ¬ q = p := fun e => npq e.symm
        have nps : ¬ p = s := (by have := H2.out.ne; omega)
        have nsp : ¬ s = p := fun e => nps e.symm
        have nqr : ¬ q = r := (by have := H2.out.ne; omega)
        have nrq : ¬ r = q := fun e => nqr e.symm
        have nqs : ¬ q = s := (by have := H2.out.ne; omega)
        have nsq : ¬ s = q := fun e => nqs e.symm
        have nrs : ¬ r = s := (by have := H2.out.ne; omega)
        have nsr : ¬ s = r := fun e => nrs e.symm
        go_wp2
        go_region_law (first
          | (go_simp; go_at_call 42; (with_reducible refine (HCA.out _ _ _ HJ.out).mono ?_); rintro e w5 ⟨Z, b, rfl, hn, hr, hb, -⟩; have HZN := Lib.hid (And.intro (hn.low (show s + 1 ≤ _ from HJ.out.sb.lt)) (hn.low HJ.out.bel.size)); have HZR := Lib.hid hr; have HBZ := Lib.hid (Below.refl w5.heap.size w5); have HJ := Lib.hid (HJ.out.below hb); clear hn hr hb; obtain ⟨y0, y1, y2, y3, y4, y5, y6, y7, y8, y9, y10⟩ := HJ.out.pb.k; have yl := HJ.out.pb.lt; obtain ⟨f0, f1, f2, f3, f4, f5, f6, f7, f8, f9, f10⟩ := HJ.out.pb.free; obtain ⟨l0, l1, l2, l3, l4⟩ := HJ.out.qb.k; have ll := HJ.out.qb.lt; obtain ⟨e0, e1, e2, e3, e4⟩ := HJ.out.qb.free; obtain ⟨r0, r1, r2, r3, r4, r5, r6, r7, r8, r9, r10⟩ := HJ.out.rb.k; have rl := HJ.out.rb.lt; obtain ⟨g0, g1, g2, g3, g4, g5, g6, g7, g8, g9, g10⟩ := HJ.out.rb.free; obtain ⟨s0, s1, s2, s3, s4⟩ := HJ.out.sb.k; have sl := HJ.out.sb.lt; obtain ⟨h0, h1, h2, h3, h4⟩ := HJ.out.sb.free; have npr : ¬ p = r := (by have := HJ.out.ne; omega); have nrp : ¬ r = p := fun e => npr e.symm; have npq : ¬ p = q := (by have := HJ.out.ne; omega); have nqp : ¬ q = p := fun e => npq e.symm; have nps : ¬ p = s := (by have := HJ.out.ne; omega); have nsp : ¬ s = p := fun e => nps e.symm; have nqr : ¬ q = r := (by have := HJ.out.ne; omega); have nrq : ¬ r = q := fun e => nqr e.symm; have nqs : ¬ q = s := (by have := HJ.out.ne; omega); have nsq : ¬ s = q := fun e => nqs e.symm; have nrs : ¬ r = s := (by have := HJ.out.ne; omega); have nsr : ¬ s = r := fun e => nrs e.symm)
          | (go_simp; go_at_call 50; (with_reducible refine (HP.out _ _ _).mono ?_); rintro e w6 ⟨rfl, hb⟩; (try (have HBZ := Lib.hid (HBZ.out.trans (hb.mono HBZ.out.size)))); have HJ := Lib.hid (HJ.out.below hb); clear hb; obtain ⟨y0, y1, y2, y3, y4, y5, y6, y7, y8, y9, y10⟩ := HJ.out.pb.k; have yl := HJ.out.pb.lt; obtain ⟨f0, f1, f2, f3, f4, f5, f6, f7, f8, f9, f10⟩ := HJ.out.pb.free; obtain ⟨l0, l1, l2, l3, l4⟩ := HJ.out.qb.k; have ll := HJ.out.qb.lt; obtain ⟨e0, e1, e2, e3, e4⟩ := HJ.out.qb.free; obtain ⟨r0, r1, r2, r3, r4, r5, r6, r7, r8, r9, r10⟩ := HJ.out.rb.k; have rl := HJ.out.rb.lt; obtain ⟨g0, g1, g2, g3, g4, g5, g6, g7, g8, g9, g10⟩ := HJ.out.rb.free; obtain ⟨s0, s1, s2, s3, s4⟩ := HJ.out.sb.k; have sl := HJ.out.sb.lt; obtain ⟨h0, h1, h2, h3, h4⟩ := HJ.out.sb.free; have npr : ¬ p = r := (by have := HJ.out.ne; omega); have nrp : ¬ r = p := fun e => npr e.symm; have npq : ¬ p = q := (by have := HJ.out.ne; omega); have nqp : ¬ q = p := fun e => npq e.symm; have nps : ¬ p = s := (by have := HJ.out.ne; omega); have nsp : ¬ s = p := fun e => nps e.symm; have nqr : ¬ q = r := (by have := HJ.out.ne; omega); have nrq : ¬ r = q := fun e => nqr e.symm; have nqs : ¬ q = s := (by have := HJ.out.ne; omega); have nsq : ¬ s = q := fun e => nqs e.symm; have nrs : ¬ r = s := (by have := HJ.out.ne; omega); have nsr : ¬ s = r := fun e => nrs e.symm))
        all_goals
          have HF := Lib.hid (show SE13 w TA M E (.returned (.tuple #[av a Z, lv M A2 c2, .int .i64 0])) (set5 (set11 _ r a Z) s M A2 c2) from by rw [HE.out.1, HE.out.2.2]; exact se13_out (a := a) (l := M) (A := A2) (c := c2) (x := 0) HNE.out.1 HNE.out.2.1 HJ.out.bel HZN.out.2 ⟨HZN.out.1.off (by have := HNE.out; omega), HZN.out.1.off (Nat.lt_succ_self s)⟩ (HZR.out.up HBZ.out) (nw_low HN.out HNN.out) (by rw [HMC.out]; exact HJ.out.fl) ⟨offb_nw HN.out (by have := HNE.out; omega), offb_nw HN.out (Nat.lt_succ_self s)⟩)
          clear HJ HZN HZR HBZ H2
          go_wp2
          exact bodyPost_ret (v := .tuple #[av a Z, lv M A2 c2, .int .i64 0]) (by simp only [results, Try.results24]; go_simp <;> rfl) rfl HF.out
      · have HE := Lib.hid (show E = 7 ∧ M = zK ∧ TA = zA from ⟨by rw [HR.out.1]; unfold stE13; rw [if_neg h0, if_neg h14, if_neg h2], by rw [HR.out.2.1]; unfold stL13; rw [if_neg h0, if_neg h14, if_neg h2], by rw [HR.out.2.2]; unfold stA13; rw [if_neg h0, if_neg h14, if_neg h2]⟩)
        have hb2 : (l.ph == 2) = false := by simp [h2]
        clear h0 h14 h2
        have HF := Lib.hid (show SE13 w TA M E (.returned (.tuple #[av zA zAx, lv zK none 0, .int .i64 7])) (set5 (set11 w3 r zA zAx) s zK none 0) from by rw [HE.out.1, HE.out.2.1, HE.out.2.2]; exact se13_out (a := zA) (Y := zAx) (l := zK) (A := none) (c := 0) (x := 7) HNE.out.1 HNE.out.2.1 H2.out.bel (zAx_nw _) ⟨aoff_z _, aoff_z _⟩ AR.zero nw_none Fl.nil ⟨offb_0 _ _, offb_0 _ _⟩)
        obtain ⟨y0, y1, y2, y3, y4, y5, y6, y7, y8, y9, y10⟩ := H2.out.pb.k
        have yl := H2.out.pb.lt
        obtain ⟨f0, f1, f2, f3, f4, f5, f6, f7, f8, f9, f10⟩ := H2.out.pb.free
        obtain ⟨l0, l1, l2, l3, l4⟩ := H2.out.qb.k
        have ll := H2.out.qb.lt
        obtain ⟨e0, e1, e2, e3, e4⟩ := H2.out.qb.free
        obtain ⟨r0, r1, r2, r3, r4, r5, r6, r7, r8, r9, r10⟩ := H2.out.rb.k
        have rl := H2.out.rb.lt
        obtain ⟨g0, g1, g2, g3, g4, g5, g6, g7, g8, g9, g10⟩ := H2.out.rb.free
        obtain ⟨s0, s1, s2, s3, s4⟩ := H2.out.sb.k
        have sl := H2.out.sb.lt
        obtain ⟨h0, h1, h2, h3, h4⟩ := H2.out.sb.free
        have npr : ¬ p = r := (by have := H2.out.ne; omega)
        have nrp : ¬ r = p := fun e => npr e.symm
        have npq : ¬ p = q := (by have := H2.out.ne; omega)
        have nqp : ¬ q = p := fun e => npq e.symm
        have nps : ¬ p = s := (by have := H2.out.ne; omega)
        have nsp : ¬ s = p := fun e => nps e.symm
        have nqr : ¬ q = r := (by have := H2.out.ne; omega)
        have nrq : ¬ r = q := fun e => nqr e.symm
        have nqs : ¬ q = s := (by have := H2.out.ne; omega)
        have nsq : ¬ s = q := fun e => nqs e.symm
        have nrs : ¬ r = s := (by have := H2.out.ne; omega)
        have nsr : ¬ s = r := fun e => nrs e.symm
        clear H2
        go_wp2
        exact bodyPost_ret (v := .tuple #[.agg #[.slice none 0 0, .slice none 0 0, .int .i64 0, .int .i64 0, .slice none 0 0, .int .i64 0, .slice none 0 0, .slice none 0 0, .int .i64 0, .int .i64 0, .int .i64 0], .agg #[.slice none 0 0, .int .i64 0, .int .i64 0, .int .i64 0, .int .i64 0], .int .i64 7]) (by simp only [results, Try.results24]; go_simp <;> rfl) rfl HF.out
end Go.Proofs.Ytijpflljopckiaa
