/- What is proved here: locker.giveBack by a contract. -/
import Derived.Test.YtijpflljopckiaaJ37
import Derived.Deep.DeepCutAuto
import Derived.Deep.RegionHeld3
namespace Go.Proofs.Ytijpflljopckiaa
open Go.RowKit
set_option linter.unusedVariables false

set_option maxHeartbeats 8000000 in
set_option maxRecDepth 20000 in
theorem jgive_any (a : Ar) (Y : Ax) (l : Lk) (A : Option Addr) (c : Nat) (t : Int) (w : World) (har : AR w w.heap.size a Y) (hf : Fl w w.heap.size (.slice A l.cs.length c) l.cs) (hw : a.Few) (hs : l.sm) : Calls Try.prog 49 #[av a Y, lv l A c, .int .i64 t] w (SE13o A w (ulA a (ctF l.cs (l.hv - 1)) t) (gbR a l t) (gbE a l t)) := by
  obtain ⟨p, hp⟩ : ∃ p, p = w.heap.size := ⟨_, rfl⟩
  obtain ⟨q, hq⟩ : ∃ q, q = w.heap.size + 1 := ⟨_, rfl⟩
  obtain ⟨r, hr⟩ : ∃ r, r = w.heap.size + 2 := ⟨_, rfl⟩
  obtain ⟨s, hss⟩ : ∃ s, s = w.heap.size + 3 := ⟨_, rfl⟩
  have H0 := Lib.hid (show Js w p q r s a Y l A c _ from by rw [hss, hr, hq, hp]; exact Js.start har hf)
  have HPP := Lib.hid (And.intro hp (And.intro hq (And.intro hr hss)))
  have HC := Lib.hid (fun W (k : Js w p q r s a Y l A c W) => jcell_any l A c (l.hv - 1) W k.fl)
  obtain ⟨k, hk⟩ : ∃ k, k = ctF l.cs (l.hv - 1) := ⟨_, rfl⟩
  have HT := Lib.hid (fun W (h : Js w p q r s a Y l A c W) => aunlock_any a Y k t W h.ar hw)
  obtain ⟨E, hE⟩ : ∃ E, E = gbE a l t := ⟨_, rfl⟩
  obtain ⟨M, hM⟩ : ∃ M, M = gbR a l t := ⟨_, rfl⟩
  obtain ⟨TA, hTA⟩ : ∃ x, x = ulA a k t := ⟨_, rfl⟩
  have HM0 := Lib.hid (show M = if E = 0 then gbL l else zK from by rw [hM, hE]; rfl)
  have HTZ := Lib.hid (show E ≠ 0 → TA = zA from fun h => by rw [hTA]; exact if_neg (by rw [hE] at h; unfold gbE at h; rw [← hk] at h; exact h))
  rw [← hk] at HC
  rw [← hTA, show owE a k t = E by rw [hE, hk]; rfl] at HT
  rw [← hE, ← hM, ← hk, ← hTA]
  have hw0 : IntKind.i64.wrap (l.hv - 1) = l.hv - 1 := IntWalk.i64_in _ (by have := hs.1; omega)
  obtain ⟨x, hx⟩ : ∃ x, x = l.hv - 1 := ⟨_, rfl⟩
  have hw1 : IntKind.i64.wrap (l.hv - 1) = x := by rw [hx]; exact hw0
  have HX := Lib.hid hx
  rw [← hx] at HC
  have HSM := Lib.hid hs.2.1
  clear hp hq hr hss har hf hw hs hk hE hM hTA hw0 hx
  go_enter Try.func49, Try.ntmps49
  go_upto_region 1 with (fail)
  rw [← HPP.out.2.2.2, ← HPP.out.2.2.1, ← HPP.out.2.1, ← HPP.out.1]
  generalize ((((w.alloc (.cells #[.slice Y.A a.sl.length Y.c, .slice Y.A2 a.st.length Y.c2, .int .i64 a.ow, .int .i64 a.cap, .slice Y.A3 a.dl.length Y.c3, .int .i64 a.dir.vn, .slice Y.D.A a.dir.l.length Y.D.c, .slice Y.D.A2 a.dir.F.length Y.D.c2, .int .i64 a.ep, .int .i64 a.ck, .int .i64 a.ni] 36)).alloc (.cells #[.slice A l.cs.length c, .int .i64 l.ph, .int .i64 l.hv, .int .i64 l.tr, .int .i64 l.wt] 60)).alloc (.cells #[.slice none 0 0, .slice none 0 0, .int .i64 0, .int .i64 0, .slice none 0 0, .int .i64 0, .slice none 0 0, .slice none 0 0, .int .i64 0, .int .i64 0, .int .i64 0] 36)).alloc (.cells #[.slice none 0 0, .int .i64 0, .int .i64 0, .int .i64 0, .int .i64 0] 60)) = w1 at *
  have HJ := Lib.hid H0.out.drew
  have HS := Lib.hid HJ.out.cl
  obtain ⟨y0, y1, y2, y3, y4, y5, y6, y7, y8, y9, y10⟩ := H0.out.pb.k
  have yl := H0.out.pb.lt
  obtain ⟨f0, f1, f2, f3, f4, f5, f6, f7, f8, f9, f10⟩ := H0.out.pb.free
  obtain ⟨l0, l1, l2, l3, l4⟩ := H0.out.qb.k
  have ll := H0.out.qb.lt
  obtain ⟨e0, e1, e2, e3, e4⟩ := H0.out.qb.free
  go_cut [9] (fun s9 wx => s9 = .int .i64 E ∧ ∃ Z, Hid (Js w p q r s TA Z l A c wx ∧ Z.nw w.heap.size))
  case first =>
    go_region_law (first
      | (go_simp; go_at_call 80; (with_reducible refine (HC.out _ HJ.out).mono ?_); rintro e w2 ⟨rfl, hb⟩; have HJ := Lib.hid (HJ.out.below hb); clear hb; obtain ⟨y0, y1, y2, y3, y4, y5, y6, y7, y8, y9, y10⟩ := HJ.out.pb.k; have yl := HJ.out.pb.lt; obtain ⟨f0, f1, f2, f3, f4, f5, f6, f7, f8, f9, f10⟩ := HJ.out.pb.free; obtain ⟨l0, l1, l2, l3, l4⟩ := HJ.out.qb.k; have ll := HJ.out.qb.lt; obtain ⟨e0, e1, e2, e3, e4⟩ := HJ.out.qb.free)
      | (go_simp; go_at_call 81; (with_reducible refine (HT.out _ HJ.out).mono ?_); rintro e w3 ⟨Z, rfl, hn, hr, hb⟩; have HZ := Lib.hid (And.intro ((HJ.out.below hb).setA (hn.low (show s + 1 ≤ _ from HJ.out.sb.lt)) hr) (hn.low HJ.out.bel.size)); have HJ := Lib.hid (HJ.out.below hb); clear hn hr hb; obtain ⟨y0, y1, y2, y3, y4, y5, y6, y7, y8, y9, y10⟩ := HJ.out.pb.k; have yl := HJ.out.pb.lt; obtain ⟨f0, f1, f2, f3, f4, f5, f6, f7, f8, f9, f10⟩ := HJ.out.pb.free; obtain ⟨l0, l1, l2, l3, l4⟩ := HJ.out.qb.k; have ll := HJ.out.qb.lt; obtain ⟨e0, e1, e2, e3, e4⟩ := HJ.out.qb.free))
    all_goals
      have HQ := Lib.hid HZ.out
      clear HZ HJ HC HT
      go_wp2_with fail
      go_meet
      exact ⟨rfl, _, HQ⟩
  case rest =>
    obtain ⟨rfl, Z, HQ⟩ := hcut
    clear y0 y1 y2 y3 y4 y5 y6 y7 y8 y9 y10 yl f0 f1 f2 f3 f4 f5 f6 f7 f8 f9 f10 l0 l1 l2 l3 l4 ll e0 e1 e2 e3 e4 HJ HC HT
    generalize wc = w4 at *
    have HNZ := Lib.hid HQ.out.2
    have HQ := Lib.hid HQ.out.1
    by_cases hE0 : E = 0
    · subst hE0
      have HM := Lib.hid (show M = if 0 < x then ⟨l.cs, l.ph, x, l.tr, l.wt⟩ else if l.ph = 4 then ⟨l.cs, 5, x, l.tr, l.wt⟩ else boL ⟨l.cs, l.ph, x, l.tr, l.wt⟩ from by rw [HX.out, HM0.out]; exact if_pos rfl)
      clear HTZ HM0
      obtain ⟨y0, y1, y2, y3, y4, y5, y6, y7, y8, y9, y10⟩ := HQ.out.pb.k
      have yl := HQ.out.pb.lt
      obtain ⟨f0, f1, f2, f3, f4, f5, f6, f7, f8, f9, f10⟩ := HQ.out.pb.free
      obtain ⟨l0, l1, l2, l3, l4⟩ := HQ.out.qb.k
      have ll := HQ.out.qb.lt
      obtain ⟨e0, e1, e2, e3, e4⟩ := HQ.out.qb.free
      obtain ⟨r0, r1, r2, r3, r4, r5, r6, r7, r8, r9, r10⟩ := HQ.out.rb.k
      have rl := HQ.out.rb.lt
      obtain ⟨g0, g1, g2, g3, g4, g5, g6, g7, g8, g9, g10⟩ := HQ.out.rb.free
      obtain ⟨s0, s1, s2, s3, s4⟩ := HQ.out.sb.k
      have sl := HQ.out.sb.lt
      obtain ⟨h0, h1, h2, h3, h4⟩ := HQ.out.sb.free
      have npr : ¬ p = r := (by have := HQ.out.ne; omega)
      have nrp : ¬ r = p := fun e => npr e.symm
      have npq : ¬ p = q := (by have := HQ.out.ne; omega)
      have nqp : ¬ q = p := fun e => npq e.symm
      have nps : ¬ p = s := (by have := HQ.out.ne; omega)
      have nsp : ¬ s = p := fun e => nps e.symm
      have nqr : ¬ q = r := (by have := HQ.out.ne; omega)
      have nrq : ¬ r = q := fun e => nqr e.symm
      have nqs : ¬ q = s := (by have := HQ.out.ne; omega)
      have nsq : ¬ s = q := fun e => nqs e.symm
      have nrs : ¬ r = s := (by have := HQ.out.ne; omega)
      have nsr : ¬ s = r := fun e => nrs e.symm
      go_upto_region 5 with (fail)
      clear y0 y1 y2 y3 y4 y5 y6 y7 y8 y9 y10 yl f0 f1 f2 f3 f4 f5 f6 f7 f8 f9 f10 l0 l1 l2 l3 l4 ll e0 e1 e2 e3 e4 r0 r1 r2 r3 r4 r5 r6 r7 r8 r9 r10 rl g0 g1 g2 g3 g4 g5 g6 g7 g8 g9 g10 s0 s1 s2 s3 s4 sl h0 h1 h2 h3 h4 npr nrp npq nqp nps nsp nqr nrq nqs nsq nrs nsr
      have HQ1 := Lib.hid (HQ.out.setC (m := ⟨l.cs, l.ph, x, l.tr, l.wt⟩) rfl (HQ.out.qb.setH x))
      clear HQ hw1
      generalize (w4.setCell ⟨q, 2, none⟩ (.int .i64 x)) = w5 at *
      obtain ⟨y0, y1, y2, y3, y4, y5, y6, y7, y8, y9, y10⟩ := HQ1.out.pb.k
      have yl := HQ1.out.pb.lt
      obtain ⟨f0, f1, f2, f3, f4, f5, f6, f7, f8, f9, f10⟩ := HQ1.out.pb.free
      obtain ⟨l0, l1, l2, l3, l4⟩ := HQ1.out.qb.k
      have ll := HQ1.out.qb.lt
      obtain ⟨e0, e1, e2, e3, e4⟩ := HQ1.out.qb.free
      obtain ⟨r0, r1, r2, r3, r4, r5, r6, r7, r8, r9, r10⟩ := HQ1.out.rb.k
      have rl := HQ1.out.rb.lt
      obtain ⟨g0, g1, g2, g3, g4, g5, g6, g7, g8, g9, g10⟩ := HQ1.out.rb.free
      obtain ⟨s0, s1, s2, s3, s4⟩ := HQ1.out.sb.k
      have sl := HQ1.out.sb.lt
      obtain ⟨h0, h1, h2, h3, h4⟩ := HQ1.out.sb.free
      have npr : ¬ p = r := (by have := HQ1.out.ne; omega)
      have nrp : ¬ r = p := fun e => npr e.symm
      have npq : ¬ p = q := (by have := HQ1.out.ne; omega)
      have nqp : ¬ q = p := fun e => npq e.symm
      have nps : ¬ p = s := (by have := HQ1.out.ne; omega)
      have nsp : ¬ s = p := fun e => nps e.symm
      have nqr : ¬ q = r := (by have := HQ1.out.ne; omega)
      have nrq : ¬ r = q := fun e => nqr e.symm
      have nqs : ¬ q = s := (by have := HQ1.out.ne; omega)
      have nsq : ¬ s = q := fun e => nqs e.symm
      have nrs : ¬ r = s := (by have := HQ1.out.ne; omega)
      have nsr : ¬ s = r := fun e => nrs e.symm
      by_cases hl : 0 < x
      · have HM := Lib.hid (show M = ⟨l.cs, l.ph, x, l.tr, l.wt⟩ from by rw [HM.out, if_pos hl])
        go_upto_region 6 with (fail)
        clear y0 y1 y2 y3 y4 y5 y6 y7 y8 y9 y10 yl f0 f1 f2 f3 f4 f5 f6 f7 f8 f9 f10 l0 l1 l2 l3 l4 ll e0 e1 e2 e3 e4 r0 r1 r2 r3 r4 r5 r6 r7 r8 r9 r10 rl g0 g1 g2 g3 g4 g5 g6 g7 g8 g9 g10 s0 s1 s2 s3 s4 sl h0 h1 h2 h3 h4 npr nrp npq nqp nps nsp nqr nrq nqs nsq nrs nsr hl
        have HQ2 := Lib.hid HQ1.out
        rw [← HM.out] at HQ2
        clear HQ1
        have HF := Lib.hid (so_out (x := 0) (by have := HQ2.out.ne; omega) (by have := HQ2.out.ne; omega) HQ2.out.bel HNZ.out ⟨HQ2.out.ao.2.2.1, HQ2.out.ao.2.2.2⟩ HQ2.out.ar (fun lo h => h) HQ2.out.fl ⟨HQ2.out.fo.2.2.1, HQ2.out.fo.2.2.2⟩ : SE13o A w TA M 0 _ _).drew
        obtain ⟨y0, y1, y2, y3, y4, y5, y6, y7, y8, y9, y10⟩ := HQ2.out.pb.k
        have yl := HQ2.out.pb.lt
        obtain ⟨f0, f1, f2, f3, f4, f5, f6, f7, f8, f9, f10⟩ := HQ2.out.pb.free
        obtain ⟨l0, l1, l2, l3, l4⟩ := HQ2.out.qb.k
        have ll := HQ2.out.qb.lt
        obtain ⟨e0, e1, e2, e3, e4⟩ := HQ2.out.qb.free
        obtain ⟨r0, r1, r2, r3, r4, r5, r6, r7, r8, r9, r10⟩ := HQ2.out.rb.k
        have rl := HQ2.out.rb.lt
        obtain ⟨g0, g1, g2, g3, g4, g5, g6, g7, g8, g9, g10⟩ := HQ2.out.rb.free
        obtain ⟨s0, s1, s2, s3, s4⟩ := HQ2.out.sb.k
        have sl := HQ2.out.sb.lt
        obtain ⟨h0, h1, h2, h3, h4⟩ := HQ2.out.sb.free
        have npr : ¬ p = r := (by have := HQ2.out.ne; omega)
        have nrp : ¬ r = p := fun e => npr e.symm
        have npq : ¬ p = q := (by have := HQ2.out.ne; omega)
        have nqp : ¬ q = p := fun e => npq e.symm
        have nps : ¬ p = s := (by have := HQ2.out.ne; omega)
        have nsp : ¬ s = p := fun e => nps e.symm
        have nqr : ¬ q = r := (by have := HQ2.out.ne; omega)
        have nrq : ¬ r = q := fun e => nqr e.symm
        have nqs : ¬ q = s := (by have := HQ2.out.ne; omega)
        have nsq : ¬ s = q := fun e => nqs e.symm
        have nrs : ¬ r = s := (by have := HQ2.out.ne; omega)
        have nsr : ¬ s = r := fun e => nrs e.symm
        clear HQ2
        go_region
        all_goals
          go_wp2
          exact bodyPost_ret (v := .tuple #[av TA Z, lv M A c, .int .i64 0]) (by simp only [results, Try.results49]; go_simp <;> rfl) rfl HF.out
      · have HM := Lib.hid (show M = if l.ph = 4 then ⟨l.cs, 5, x, l.tr, l.wt⟩ else boL ⟨l.cs, l.ph, x, l.tr, l.wt⟩ from by rw [HM.out, if_neg hl])
        by_cases h4 : l.ph = 4
        · have HM := Lib.hid (show M = ⟨l.cs, 5, x, l.tr, l.wt⟩ from by rw [HM.out, if_pos h4])
          have hb4 : (l.ph == 4) = true := by simp [h4]
          clear h4
          go_upto_region 10 with (fail)
          clear y0 y1 y2 y3 y4 y5 y6 y7 y8 y9 y10 yl f0 f1 f2 f3 f4 f5 f6 f7 f8 f9 f10 l0 l1 l2 l3 l4 ll e0 e1 e2 e3 e4 r0 r1 r2 r3 r4 r5 r6 r7 r8 r9 r10 rl g0 g1 g2 g3 g4 g5 g6 g7 g8 g9 g10 s0 s1 s2 s3 s4 sl h0 h1 h2 h3 h4 npr nrp npq nqp nps nsp nqr nrq nqs nsq nrs nsr hl hb4
          have HQ2 := Lib.hid (HQ1.out.setC (m := ⟨l.cs, 5, x, l.tr, l.wt⟩) rfl (HQ1.out.qb.setP 5))
          rw [← HM.out] at HQ2
          clear HQ1
          generalize (w5.setCell ⟨q, 1, none⟩ (.int .i64 5)) = w6 at *
          have HF := Lib.hid (so_out (x := 0) (by have := HQ2.out.ne; omega) (by have := HQ2.out.ne; omega) HQ2.out.bel HNZ.out ⟨HQ2.out.ao.2.2.1, HQ2.out.ao.2.2.2⟩ HQ2.out.ar (fun lo h => h) HQ2.out.fl ⟨HQ2.out.fo.2.2.1, HQ2.out.fo.2.2.2⟩ : SE13o A w TA M 0 _ _).drew
          obtain ⟨y0, y1, y2, y3, y4, y5, y6, y7, y8, y9, y10⟩ := HQ2.out.pb.k
          have yl := HQ2.out.pb.lt
          obtain ⟨f0, f1, f2, f3, f4, f5, f6, f7, f8, f9, f10⟩ := HQ2.out.pb.free
          obtain ⟨l0, l1, l2, l3, l4⟩ := HQ2.out.qb.k
          have ll := HQ2.out.qb.lt
          obtain ⟨e0, e1, e2, e3, e4⟩ := HQ2.out.qb.free
          obtain ⟨r0, r1, r2, r3, r4, r5, r6, r7, r8, r9, r10⟩ := HQ2.out.rb.k
          have rl := HQ2.out.rb.lt
          obtain ⟨g0, g1, g2, g3, g4, g5, g6, g7, g8, g9, g10⟩ := HQ2.out.rb.free
          obtain ⟨s0, s1, s2, s3, s4⟩ := HQ2.out.sb.k
          have sl := HQ2.out.sb.lt
          obtain ⟨h0, h1, h2, h3, h4⟩ := HQ2.out.sb.free
          have npr : ¬ p = r := (by have := HQ2.out.ne; omega)
          have nrp : ¬ r = p := fun e => npr e.symm
          have npq : ¬ p = q := (by have := HQ2.out.ne; omega)
          have nqp : ¬ q = p := fun e => npq e.symm
          have nps : ¬ p = s := (by have := HQ2.out.ne; omega)
          have nsp : ¬ s = p := fun e => nps e.symm
          have nqr : ¬ q = r := (by have := HQ2.out.ne; omega)
          have nrq : ¬ r = q := fun e => nqr e.symm
          have nqs : ¬ q = s := (by have := HQ2.out.ne; omega)
          have nsq : ¬ s = q := fun e => nqs e.symm
          have nrs : ¬ r = s := (by have := HQ2.out.ne; omega)
          have nsr : ¬ s = r := fun e => nrs e.symm
          clear HQ2
          go_region
          all_goals
            go_wp2
            exact bodyPost_ret (v := .tuple #[av TA Z, lv M A c, .int .i64 0]) (by simp only [results, Try.results49]; go_simp <;> rfl) rfl HF.out
        · have HM := Lib.hid (show M = boL ⟨l.cs, l.ph, x, l.tr, l.wt⟩ from by rw [HM.out, if_neg h4])
          have hb4 : (l.ph == 4) = false := by simp [h4]
          have HBO := Lib.hid (fun W => jback_any ⟨l.cs, l.ph, x, l.tr, l.wt⟩ A c W HSM.out)
          rw [← HM.out] at HBO
          clear h4
          go_wp2_with fail
          clear y0 y1 y2 y3 y4 y5 y6 y7 y8 y9 y10 yl f0 f1 f2 f3 f4 f5 f6 f7 f8 f9 f10 l0 l1 l2 l3 l4 ll e0 e1 e2 e3 e4 r0 r1 r2 r3 r4 r5 r6 r7 r8 r9 r10 rl g0 g1 g2 g3 g4 g5 g6 g7 g8 g9 g10 s0 s1 s2 s3 s4 sl h0 h1 h2 h3 h4 npr nrp npq nqp nps nsp nqr nrq nqs nsq nrs nsr hl hb4
          refine (HBO.out _).mono ?_
          rintro e w6 ⟨rfl, hb⟩
          have HQ2 := Lib.hid (HQ1.out.below hb)
          have HMC := Lib.hid (show M.cs = l.cs from by rw [HM.out]; rfl)
          have HQ3 := Lib.hid (show Js w p q r s TA Z M A c (((((w6.setCell ⟨q, 0, none⟩ (.slice A M.cs.length c)).setCell ⟨q, 1, none⟩ (.int .i64 M.ph)).setCell ⟨q, 2, none⟩ (.int .i64 M.hv)).setCell ⟨q, 3, none⟩ (.int .i64 M.tr)).setCell ⟨q, 4, none⟩ (.int .i64 M.wt)) from HQ2.out.putL (m := M) (A' := A) (c' := c) (by rw [HMC.out]; exact HQ2.out.fo) (by rw [HMC.out]; exact HQ2.out.fl))
          clear hb HQ1 HBO
          obtain ⟨y0, y1, y2, y3, y4, y5, y6, y7, y8, y9, y10⟩ := HQ2.out.pb.k
          have yl := HQ2.out.pb.lt
          obtain ⟨f0, f1, f2, f3, f4, f5, f6, f7, f8, f9, f10⟩ := HQ2.out.pb.free
          obtain ⟨l0, l1, l2, l3, l4⟩ := HQ2.out.qb.k
          have ll := HQ2.out.qb.lt
          obtain ⟨e0, e1, e2, e3, e4⟩ := HQ2.out.qb.free
          obtain ⟨r0, r1, r2, r3, r4, r5, r6, r7, r8, r9, r10⟩ := HQ2.out.rb.k
          have rl := HQ2.out.rb.lt
          obtain ⟨g0, g1, g2, g3, g4, g5, g6, g7, g8, g9, g10⟩ := HQ2.out.rb.free
          obtain ⟨s0, s1, s2, s3, s4⟩ := HQ2.out.sb.k
          have sl := HQ2.out.sb.lt
          obtain ⟨h0, h1, h2, h3, h4⟩ := HQ2.out.sb.free
          have npr : ¬ p = r := (by have := HQ2.out.ne; omega)
          have nrp : ¬ r = p := fun e => npr e.symm
          have npq : ¬ p = q := (by have := HQ2.out.ne; omega)
          have nqp : ¬ q = p := fun e => npq e.symm
          have nps : ¬ p = s := (by have := HQ2.out.ne; omega)
          have nsp : ¬ s = p := fun e => nps e.symm
          have nqr : ¬ q = r := (by have := HQ2.out.ne; omega)
          have nrq : ¬ r = q := fun e => nqr e.symm
          have nqs : ¬ q = s := (by have := HQ2.out.ne; omega)
          have nsq : ¬ s = q := fun e => nqs e.symm
          have nrs : ¬ r = s := (by have := HQ2.out.ne; omega)
          have nsr : ¬ s = r := fun e => nrs e.symm
          go_upto_region 10 with (fail)
          clear y0 y1 y2 y3 y4 y5 y6 y7 y8 y9 y10 yl f0 f1 f2 f3 f4 f5 f6 f7 f8 f9 f10 l0 l1 l2 l3 l4 ll e0 e1 e2 e3 e4 r0 r1 r2 r3 r4 r5 r6 r7 r8 r9 r10 rl g0 g1 g2 g3 g4 g5 g6 g7 g8 g9 g10 s0 s1 s2 s3 s4 sl h0 h1 h2 h3 h4 npr nrp npq nqp nps nsp nqr nrq nqs nsq nrs nsr HQ2
          have HQ2 := Lib.hid HQ3.out
          clear HQ3
          generalize (((((w6.setCell ⟨q, 0, none⟩ (.slice A M.cs.length c)).setCell ⟨q, 1, none⟩ (.int .i64 M.ph)).setCell ⟨q, 2, none⟩ (.int .i64 M.hv)).setCell ⟨q, 3, none⟩ (.int .i64 M.tr)).setCell ⟨q, 4, none⟩ (.int .i64 M.wt)) = w7 at *
          have HF := Lib.hid (so_out (x := 0) (by have := HQ2.out.ne; omega) (by have := HQ2.out.ne; omega) HQ2.out.bel HNZ.out ⟨HQ2.out.ao.2.2.1, HQ2.out.ao.2.2.2⟩ HQ2.out.ar (fun lo h => h) HQ2.out.fl ⟨HQ2.out.fo.2.2.1, HQ2.out.fo.2.2.2⟩ : SE13o A w TA M 0 _ _).drew
          obtain ⟨y0, y1, y2, y3, y4, y5, y6, y7, y8, y9, y10⟩ := HQ2.out.pb.k
          have yl := HQ2.out.pb.lt
          obtain ⟨f0, f1, f2, f3, f4, f5, f6, f7, f8, f9, f10⟩ := HQ2.out.pb.free
          obtain ⟨l0, l1, l2, l3, l4⟩ := HQ2.out.qb.k
          have ll := HQ2.out.qb.lt
          obtain ⟨e0, e1, e2, e3, e4⟩ := HQ2.out.qb.free
          obtain ⟨r0, r1, r2, r3, r4, r5, r6, r7, r8, r9, r10⟩ := HQ2.out.rb.k
          have rl := HQ2.out.rb.lt
          obtain ⟨g0, g1, g2, g3, g4, g5, g6, g7, g8, g9, g10⟩ := HQ2.out.rb.free
          obtain ⟨s0, s1, s2, s3, s4⟩ := HQ2.out.sb.k
          have sl := HQ2.out.sb.lt
          obtain ⟨h0, h1, h2, h3, h4⟩ := HQ2.out.sb.free
          have npr : ¬ p = r := (by have := HQ2.out.ne; omega)
          have nrp : ¬ r = p := fun e => npr e.symm
          have npq : ¬ p = q := (by have := HQ2.out.ne; omega)
          have nqp : ¬ q = p := fun e => npq e.symm
          have nps : ¬ p = s := (by have := HQ2.out.ne; omega)
          have nsp : ¬ s = p := fun e => nps e.symm
          have nqr : ¬ q = r := (by have := HQ2.out.ne; omega)
          have nrq : ¬ r = q := fun e => nqr e.symm
          have nqs : ¬ q = s := (by have := HQ2.out.ne; omega)
          have nsq : ¬ s = q := fun e => nqs e.symm
          have nrs : ¬ r = s := (by have := HQ2.out.ne; omega)
          have nsr : ¬ s = r := fun e => nrs e.symm
          clear HQ2
          go_region
          all_goals
            go_wp2
            exact bodyPost_ret (v := .tuple #[av TA Z, lv M A c, .int .i64 0]) (by simp only [results, Try.results49]; go_simp <;> rfl) rfl HF.out
    · have hne : (E != 0) = true := bne_iff_ne.2 hE0
      have HM := Lib.hid (show M = zK from by rw [HM0.out]; exact if_neg hE0)
      have HTZ := Lib.hid (HTZ.out hE0)
      have HF := Lib.hid (show SE13o A w TA M E (.returned (.tuple #[av zA zAx, lv zK none 0, .int .i64 E])) (set5 (set11 w4 r zA zAx) s zK none 0) from by rw [HTZ.out, HM.out]; exact so_out (by have := HQ.out.ne; omega) (by have := HQ.out.ne; omega) HQ.out.bel (zAx_nw _) ⟨aoff_z _, aoff_z _⟩ AR.zero (fun lo _ => nw_none) Fl.nil ⟨offb_0 _ _, offb_0 _ _⟩)
      obtain ⟨y0, y1, y2, y3, y4, y5, y6, y7, y8, y9, y10⟩ := HQ.out.pb.k
      have yl := HQ.out.pb.lt
      obtain ⟨f0, f1, f2, f3, f4, f5, f6, f7, f8, f9, f10⟩ := HQ.out.pb.free
      obtain ⟨l0, l1, l2, l3, l4⟩ := HQ.out.qb.k
      have ll := HQ.out.qb.lt
      obtain ⟨e0, e1, e2, e3, e4⟩ := HQ.out.qb.free
      obtain ⟨r0, r1, r2, r3, r4, r5, r6, r7, r8, r9, r10⟩ := HQ.out.rb.k
      have rl := HQ.out.rb.lt
      obtain ⟨g0, g1, g2, g3, g4, g5, g6, g7, g8, g9, g10⟩ := HQ.out.rb.free
      obtain ⟨s0, s1, s2, s3, s4⟩ := HQ.out.sb.k
      have sl := HQ.out.sb.lt
      obtain ⟨h0, h1, h2, h3, h4⟩ := HQ.out.sb.free
      have npr : ¬ p = r := (by have := HQ.out.ne; omega)
      have nrp : ¬ r = p := fun e => npr e.symm
      have npq : ¬ p = q := (by have := HQ.out.ne; omega)
      have nqp : ¬ q = p := fun e => npq e.symm
      have nps : ¬ p = s := (by have := HQ.out.ne; omega)
      have nsp : ¬ s = p := fun e => nps e.symm
      have nqr : ¬ q = r := (by have := HQ.out.ne; omega)
      have nrq : ¬ r = q := fun e => nqr e.symm
      have nqs : ¬ q = s := (by have := HQ.out.ne; omega)
      have nsq : ¬ s = q := fun e => nqs e.symm
      have nrs : ¬ r = s := (by have := HQ.out.ne; omega)
      have nsr : ¬ s = r := fun e => nrs e.symm
      clear HQ hE0
      go_wp2
      all_goals
        exact bodyPost_ret (v := .tuple #[.agg #[.slice none 0 0, .slice none 0 0, .int .i64 0, .int .i64 0, .slice none 0 0, .int .i64 0, .slice none 0 0, .slice none 0 0, .int .i64 0, .int .i64 0, .int .i64 0], .agg #[.slice none 0 0, .int .i64 0, .int .i64 0, .int .i64 0, .int .i64 0], .int .i64 E]) (by simp only [results, Try.results49]; go_simp <;> rfl) rfl HF.out
end Go.Proofs.Ytijpflljopckiaa
