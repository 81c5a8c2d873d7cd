/- What is proved here: ref13.Step by a contract. -/
import Derived.Test.YtijpflljopckiaaJ40
import Derived.Test.YtijpflljopckiaaJ45
import Derived.Test.YtijpflljopckiaaJ20
import Derived.Deep.DeepCutAuto
import Derived.Deep.RegionHeld3
namespace Go.Proofs.Ytijpflljopckiaa
open Go.RowKit
set_option linter.unusedVariables false

set_option maxHeartbeats 8000000 in
set_option maxRecDepth 20000 in
theorem rstep13_4 (a : Ar) (Y : Ax) (l : Lk) (A : Option Addr) (c : Nat) (t : Int) (w : World) (har : AR w w.heap.size a Y) (hf : Fl w w.heap.size (.slice A l.cs.length c) l.cs) (hw : a.sl.length ≤ 1000) (hs : l.sm) (hk0 : l.ph = 0 → 0 ≤ l.hv ∧ l.hv < l.cs.length) (hk1 : l.ph = 1 ∨ l.ph = 4 → 1 ≤ l.hv ∧ l.hv ≤ l.cs.length) (h4 : l.ph = 4) : Calls Try.prog 25 #[av a Y, lv l A c, .int .i64 t] w (RS13 w a Y l.cs.length A (stA13 a l t) (stL13 a l t) (stE13 a l t)) := by
  have HHY := Lib.hid h4
  clear h4
  obtain ⟨p, hp⟩ : ∃ p, p = w.heap.size := ⟨_, rfl⟩
  obtain ⟨q, hq⟩ : ∃ q, q = w.heap.size + 1 := ⟨_, rfl⟩
  obtain ⟨r, hr⟩ : ∃ r, r = w.heap.size + 2 := ⟨_, rfl⟩
  obtain ⟨s, hss⟩ : ∃ s, s = w.heap.size + 3 := ⟨_, rfl⟩
  have H0 := Lib.hid (show Js w p q r s a Y l A c _ from by rw [hss, hr, hq, hp]; exact Js.start har hf)
  have HPP := Lib.hid (And.intro hp (And.intro hq (And.intro hr hss)))
  obtain ⟨E, hE⟩ : ∃ E, E = stE13 a l t := ⟨_, rfl⟩
  obtain ⟨M, hM⟩ : ∃ M, M = stL13 a l t := ⟨_, rfl⟩
  obtain ⟨TA, hTA⟩ : ∃ x, x = stA13 a l t := ⟨_, rfl⟩
  have HR := Lib.hid (And.intro hE (And.intro hM hTA))
  rw [← hE, ← hM, ← hTA]
  have HSM := Lib.hid hs
  have HLE := Lib.hid hw
  have HK0 := Lib.hid hk0
  have HK1 := Lib.hid hk1
  clear hp hq hr hss har hf hw hs hE hM hTA hk0 hk1
  go_enter Try.func25, Try.ntmps25
  go_upto_region 1 with (fail)
  rw [← HPP.out.2.2.2, ← HPP.out.2.2.1, ← HPP.out.2.1, ← HPP.out.1]
  generalize ((((w.alloc (.cells #[.slice Y.A a.sl.length Y.c, .slice Y.A2 a.st.length Y.c2, .int .i64 a.ow, .int .i64 a.cap, .slice Y.A3 a.dl.length Y.c3, .int .i64 a.dir.vn, .slice Y.D.A a.dir.l.length Y.D.c, .slice Y.D.A2 a.dir.F.length Y.D.c2, .int .i64 a.ep, .int .i64 a.ck, .int .i64 a.ni] 36)).alloc (.cells #[.slice A l.cs.length c, .int .i64 l.ph, .int .i64 l.hv, .int .i64 l.tr, .int .i64 l.wt] 60)).alloc (.cells #[.slice none 0 0, .slice none 0 0, .int .i64 0, .int .i64 0, .slice none 0 0, .int .i64 0, .slice none 0 0, .slice none 0 0, .int .i64 0, .int .i64 0, .int .i64 0] 36)).alloc (.cells #[.slice none 0 0, .int .i64 0, .int .i64 0, .int .i64 0, .int .i64 0] 60)) = w1 at *
  have h4 := HHY.out
  have h0 : ¬ l.ph = 0 := by omega
  have h14 : l.ph = 1 ∨ l.ph = 4 := .inr h4
  have hb0 : (l.ph == 0) = false := by simp [h0]
  obtain ⟨n, hn⟩ : ∃ n : Nat, l.hv = n + 1 := ⟨(l.hv - 1).toNat, by have := HK1.out h14; omega⟩
  have hlt : n < l.cs.length := by have := HK1.out h14; omega
  have hct : ctF l.cs (l.hv - 1) = ig l.cs n := by rw [show l.hv - 1 = (n : Int) by omega]; exact ctF_nat hlt
  obtain ⟨k, hk⟩ : ∃ k, k = ig l.cs n := ⟨_, rfl⟩
  have HE := Lib.hid (show E = owE a k t ∧ M = (if E = 0 then gbL l else zK) ∧ TA = ulA a k t from by
    have e1 : E = owE a k t := by rw [HR.out.1, hk, ← hct]; unfold stE13; rw [if_neg h0, if_pos h14]; rfl
    refine ⟨e1, ?_, by rw [HR.out.2.2, hk, ← hct]; unfold stA13; rw [if_neg h0, if_pos h14]⟩
    rw [e1, HR.out.2.1, hk, ← hct]
    unfold stL13
    rw [if_neg h0, if_pos h14]
    rfl)
  have HT := Lib.hid (fun W (h : Below w1.heap.size w1 W) => runlock_any a Y k t W (H0.out.ar.up h) HLE.out)
  rw [← HE.out.2.2, ← HE.out.1] at HT
  obtain ⟨b, o, rfl, hbb, hc7⟩ := H0.out.fl.atg hlt
  rw [← hk] at hc7
  have HSK := Lib.hid (show ∀ W, Below w1.heap.size w1 W → K11 p a Y W ∧ W.cell? ⟨q, 0, none⟩ = some (.slice (some ⟨b, o, none⟩) l.cs.length c) ∧ W.cell? ⟨q, 2, none⟩ = some (.int .i64 l.hv) ∧ W.cell? ⟨b, o + n, none⟩ = some (.int .i64 k) from fun W h => by
    have k5 := (H0.out.qb.up h).k
    exact ⟨(H0.out.pb.up h).k, k5.1, k5.2.2.1, (h.cell (p := ⟨b, o + n, none⟩) hbb).trans hc7⟩)
  have HB0 := Lib.hid (Below.refl w1.heap.size w1)
  have HN := Lib.hid (And.intro hn hlt)
  have hn0 : (0 : Int) ≤ (n : Int) := by omega
  have hnl : (n : Int) < (l.cs.length : Int) := by omega
  have hw0 : IntKind.i64.wrap (l.hv - 1) = (n : Int) := by rw [show l.hv - 1 = (n : Int) by omega]; exact IntWalk.i64_in _ (by have := HSM.out.1; omega)
  have HW0 := Lib.hid hw0
  have l1 := H0.out.qb.k.2.1
  have ll := H0.out.qb.lt
  clear h0 hct hk hbb hc7 hlt
  clear h14
  have hb1 : (l.ph == 1) = false := by simp [h4]
  have hb4 : (l.ph == 4) = true := by simp [h4]
  have HPH := Lib.hid h4
  clear h4 hn
  go_upto_region 15 with (fail)
  clear l1 ll hb0 hb1 hb4
  go_cut [12, 13] (fun s12 s13 wx => ∃ x Z, s12 = .pointer (some ⟨x, 0, none⟩) ∧ s13 = .int .i64 E ∧ Hid (Jr w p q r s x a Y l (some ⟨b, o, none⟩) c TA Z wx))
  case first =>
    go_region_held3 (fun W => K11 p a Y W ∧ W.cell? ⟨q, 0, none⟩ = some (.slice (some ⟨b, o, none⟩) l.cs.length c) ∧ W.cell? ⟨q, 2, none⟩ = some (.int .i64 l.hv) ∧ W.cell? ⟨b, o + n, none⟩ = some (.int .i64 k))
      ((refine HSK.out _ ?_; repeat' (first | with_reducible exact HB0.out | with_reducible exact HB4.out | with_reducible refine bal ?_ _ | with_reducible refine bdr ?_ | with_reducible refine bst ?_ ?_ _ | exact Nat.le_refl _ | (simp; done) | (simp; omega))))
      (first
    | (go_at_call 52; (with_reducible refine (HT.out _ ?hbel).mono ?_); (case hbel => (repeat' (first | with_reducible exact HB0.out | with_reducible refine bal ?_ _ | with_reducible refine bdr ?_))); rintro e w4 ⟨Z, rfl, hr, ho, hb⟩; have HX := Lib.hid (jr_before H0.out hr ho hb).1; have HP := Lib.hid (jr_before H0.out hr ho hb).2; have HB4 := Lib.hid ((bdr (bal HB0.out (.cells #[.slice none 0 0, .slice none 0 0, .int .i64 0, .int .i64 0, .slice none 0 0, .int .i64 0, .slice none 0 0, .slice none 0 0, .int .i64 0, .int .i64 0, .int .i64 0] 36))).trans (hb.mono (by simp <;> omega))); obtain ⟨z0, z1, z2, z3, z4, z5, z6, z7, z8, z9, z10⟩ := HX.out.k; have zl := HX.out.lt; obtain ⟨f0, f1, f2, f3, f4, f5, f6, f7, f8, f9, f10⟩ := HX.out.free; clear hr ho hb)
    | (go_at_call 52; (with_reducible refine (HT.out _ ?hbel).mono ?_); (case hbel => (repeat' (first | with_reducible exact HB0.out | with_reducible refine bal ?_ _ | with_reducible refine bdr ?_))); rintro e w4 ⟨Z, rfl, hr, ho, hb⟩; have HP := Lib.hid (jr_after H0.out (bdr HB0.out) hr ho hb); have HB4 := Lib.hid ((bdr HB0.out).trans (hb.mono (by simp <;> omega))); clear hr ho hb))
    all_goals
      go_wp2_with fail
      go_meet
      exact ⟨_, Z, rfl, rfl, HP⟩
  case rest =>
    obtain ⟨x, Z, rfl, rfl, HQ⟩ := hcut
    clear HT HSK HB0 hn0 hnl H0 hw0
    generalize wc = w4 at *
    have HMM := Lib.hid HE.out.2.1
    by_cases hE0 : E = 0
    · have HE0 := Lib.hid hE0
      have HM := Lib.hid (show M = gbL l from by rw [HMM.out, if_pos hE0])
      have hne : (E != 0) = false := by simp [hE0]
      have hw0 := HW0.out
      obtain ⟨y, hy⟩ : ∃ y, y = l.hv - 1 := ⟨_, rfl⟩
      have hw1 : IntKind.i64.wrap (l.hv - 1) = y := by rw [hw0, hy]; have := HN.out.1; omega
      have HM := Lib.hid (show M = if 0 < y then ⟨l.cs, l.ph, y, l.tr, l.wt⟩ else if l.ph = 4 then ⟨l.cs, 5, y, l.tr, l.wt⟩ else ⟨l.cs, 2, y, l.tr + 1, min (l.tr + 1) 3⟩ from by rw [HM.out, hy]; rfl)
      have HMC := Lib.hid (show M.cs = l.cs from by rw [HM.out]; split; rfl; split; rfl; rfl)
      clear hE0 hw0 hy
      obtain ⟨z0, z1, z2, z3, z4, z5, z6, z7, z8, z9, z10⟩ := HQ.out.xb.k
      have zl := HQ.out.xb.lt
      obtain ⟨l0, l1, l2, l3, l4⟩ := HQ.out.js.qb.k
      have ll := HQ.out.js.qb.lt
      obtain ⟨e0, e1, e2, e3, e4⟩ := HQ.out.js.qb.free
      obtain ⟨r0, r1, r2, r3, r4, r5, r6, r7, r8, r9, r10⟩ := HQ.out.js.rb.k
      have rl := HQ.out.js.rb.lt
      obtain ⟨g0, g1, g2, g3, g4, g5, g6, g7, g8, g9, g10⟩ := HQ.out.js.rb.free
      obtain ⟨s0, s1, s2, s3, s4⟩ := HQ.out.js.sb.k
      have sl := HQ.out.js.sb.lt
      obtain ⟨h0, h1, h2, h3, h4⟩ := HQ.out.js.sb.free
      have nxr : ¬ x = r := (by have := HQ.out.js.ne; have := HQ.out.lt; omega)
      have nrx : ¬ r = x := fun e => nxr e.symm
      have nxs : ¬ x = s := (by have := HQ.out.js.ne; have := HQ.out.lt; omega)
      have nsx : ¬ s = x := fun e => nxs e.symm
      have nxq : ¬ x = q := (by have := HQ.out.js.ne; have := HQ.out.lt; omega)
      have nqx : ¬ q = x := fun e => nxq e.symm
      have nqr : ¬ q = r := (by have := HQ.out.js.ne; omega)
      have nrq : ¬ r = q := fun e => nqr e.symm
      have nqs : ¬ q = s := (by have := HQ.out.js.ne; omega)
      have nsq : ¬ s = q := fun e => nqs e.symm
      have nrs : ¬ r = s := (by have := HQ.out.js.ne; omega)
      have nsr : ¬ s = r := fun e => nrs e.symm
      go_upto_region 22 with (fail)
      clear z0 z1 z2 z3 z4 z5 z6 z7 z8 z9 z10 zl l0 l1 l2 l3 l4 ll e0 e1 e2 e3 e4 r0 r1 r2 r3 r4 r5 r6 r7 r8 r9 r10 rl g0 g1 g2 g3 g4 g5 g6 g7 g8 g9 g10 s0 s1 s2 s3 s4 sl h0 h1 h2 h3 h4 nxr nrx nxs nsx nxq nqx nqr nrq nqs nsq nrs nsr
      have HQ1 := Lib.hid (HQ.out.setC (m := ⟨l.cs, l.ph, y, l.tr, l.wt⟩) rfl (HQ.out.js.qb.setH y))
      clear HQ hw1 hne
      generalize (w4.setCell ⟨q, 2, none⟩ (.int .i64 y)) = w5 at *
      obtain ⟨z0, z1, z2, z3, z4, z5, z6, z7, z8, z9, z10⟩ := HQ1.out.xb.k
      have zl := HQ1.out.xb.lt
      obtain ⟨l0, l1, l2, l3, l4⟩ := HQ1.out.js.qb.k
      have ll := HQ1.out.js.qb.lt
      obtain ⟨e0, e1, e2, e3, e4⟩ := HQ1.out.js.qb.free
      obtain ⟨r0, r1, r2, r3, r4, r5, r6, r7, r8, r9, r10⟩ := HQ1.out.js.rb.k
      have rl := HQ1.out.js.rb.lt
      obtain ⟨g0, g1, g2, g3, g4, g5, g6, g7, g8, g9, g10⟩ := HQ1.out.js.rb.free
      obtain ⟨s0, s1, s2, s3, s4⟩ := HQ1.out.js.sb.k
      have sl := HQ1.out.js.sb.lt
      obtain ⟨h0, h1, h2, h3, h4⟩ := HQ1.out.js.sb.free
      have nxr : ¬ x = r := (by have := HQ1.out.js.ne; have := HQ1.out.lt; omega)
      have nrx : ¬ r = x := fun e => nxr e.symm
      have nxs : ¬ x = s := (by have := HQ1.out.js.ne; have := HQ1.out.lt; omega)
      have nsx : ¬ s = x := fun e => nxs e.symm
      have nxq : ¬ x = q := (by have := HQ1.out.js.ne; have := HQ1.out.lt; omega)
      have nqx : ¬ q = x := fun e => nxq e.symm
      have nqr : ¬ q = r := (by have := HQ1.out.js.ne; omega)
      have nrq : ¬ r = q := fun e => nqr e.symm
      have nqs : ¬ q = s := (by have := HQ1.out.js.ne; omega)
      have nsq : ¬ s = q := fun e => nqs e.symm
      have nrs : ¬ r = s := (by have := HQ1.out.js.ne; omega)
      have nsr : ¬ s = r := fun e => nrs e.symm
      by_cases hl : 0 < y
      · have HM := Lib.hid (show M = ⟨l.cs, l.ph, y, l.tr, l.wt⟩ from by rw [HM.out, if_pos hl])
        go_upto_region 25 with (fail)
        clear z0 z1 z2 z3 z4 z5 z6 z7 z8 z9 z10 zl l0 l1 l2 l3 l4 ll e0 e1 e2 e3 e4 r0 r1 r2 r3 r4 r5 r6 r7 r8 r9 r10 rl g0 g1 g2 g3 g4 g5 g6 g7 g8 g9 g10 s0 s1 s2 s3 s4 sl h0 h1 h2 h3 h4 nxr nrx nxs nsx nxq nqx nqr nrq nqs nsq nrs nsr
        clear hl
        have HQ2 := Lib.hid HQ1.out
        rw [← HM.out] at HQ2
        clear HQ1
        have HF := Lib.hid (show RS13 w a Y l.cs.length (some ⟨b, o, none⟩) TA M E (.returned (.tuple #[av TA Z, lv M (some ⟨b, o, none⟩) c, .int .i64 0])) (set5 (set11 _ r TA Z) s M (some ⟨b, o, none⟩) c).drew from by rw [HE0.out]; exact (rs_out (by have := HQ2.out.js.ne; omega) (by have := HQ2.out.js.ne; omega) HQ2.out.js.bel HQ2.out.xr ⟨HQ2.out.xo.2.1, HQ2.out.xo.2.2⟩ HQ2.out.of HQ2.out.js.fl ⟨HQ2.out.js.fo.2.2.1, HQ2.out.js.fo.2.2.2⟩ (fun p0 h => by rw [HMC.out]; exact h)).drew)
        obtain ⟨z0, z1, z2, z3, z4, z5, z6, z7, z8, z9, z10⟩ := HQ2.out.xb.k
        have zl := HQ2.out.xb.lt
        obtain ⟨l0, l1, l2, l3, l4⟩ := HQ2.out.js.qb.k
        have ll := HQ2.out.js.qb.lt
        obtain ⟨e0, e1, e2, e3, e4⟩ := HQ2.out.js.qb.free
        obtain ⟨r0, r1, r2, r3, r4, r5, r6, r7, r8, r9, r10⟩ := HQ2.out.js.rb.k
        have rl := HQ2.out.js.rb.lt
        obtain ⟨g0, g1, g2, g3, g4, g5, g6, g7, g8, g9, g10⟩ := HQ2.out.js.rb.free
        obtain ⟨s0, s1, s2, s3, s4⟩ := HQ2.out.js.sb.k
        have sl := HQ2.out.js.sb.lt
        obtain ⟨h0, h1, h2, h3, h4⟩ := HQ2.out.js.sb.free
        have nxr : ¬ x = r := (by have := HQ2.out.js.ne; have := HQ2.out.lt; omega)
        have nrx : ¬ r = x := fun e => nxr e.symm
        have nxs : ¬ x = s := (by have := HQ2.out.js.ne; have := HQ2.out.lt; omega)
        have nsx : ¬ s = x := fun e => nxs e.symm
        have nxq : ¬ x = q := (by have := HQ2.out.js.ne; have := HQ2.out.lt; omega)
        have nqx : ¬ q = x := fun e => nxq e.symm
        have nqr : ¬ q = r := (by have := HQ2.out.js.ne; omega)
        have nrq : ¬ r = q := fun e => nqr e.symm
        have nqs : ¬ q = s := (by have := HQ2.out.js.ne; omega)
        have nsq : ¬ s = q := fun e => nqs e.symm
        have nrs : ¬ r = s := (by have := HQ2.out.js.ne; omega)
        have nsr : ¬ s = r := fun e => nrs e.symm
        clear HQ2
        go_region
        all_goals
          go_wp2
          exact bodyPost_ret (v := .tuple #[av TA Z, lv M (some ⟨b, o, none⟩) c, .int .i64 0]) (by simp only [results, Try.results25]; go_simp <;> rfl) rfl HF.out
      · have HM := Lib.hid (show M = if l.ph = 4 then ⟨l.cs, 5, y, l.tr, l.wt⟩ else ⟨l.cs, 2, y, l.tr + 1, min (l.tr + 1) 3⟩ from by rw [HM.out, if_neg hl])
        have HM := Lib.hid (show M = ⟨l.cs, 5, y, l.tr, l.wt⟩ from by rw [HM.out, if_pos HPH.out])
        have hb4 : (l.ph == 4) = true := by simp [HPH.out]
        go_upto_region 25 with (fail)
        clear z0 z1 z2 z3 z4 z5 z6 z7 z8 z9 z10 zl l0 l1 l2 l3 l4 ll e0 e1 e2 e3 e4 r0 r1 r2 r3 r4 r5 r6 r7 r8 r9 r10 rl g0 g1 g2 g3 g4 g5 g6 g7 g8 g9 g10 s0 s1 s2 s3 s4 sl h0 h1 h2 h3 h4 nxr nrx nxs nsx nxq nqx nqr nrq nqs nsq nrs nsr
        clear hl hb4
        have HQ2 := Lib.hid (HQ1.out.setC (m := ⟨l.cs, 5, y, l.tr, l.wt⟩) rfl (HQ1.out.js.qb.setP 5))
        rw [← HM.out] at HQ2
        clear HQ1
        generalize (w5.setCell ⟨q, 1, none⟩ (.int .i64 5)) = w6 at *
        have HF := Lib.hid (show RS13 w a Y l.cs.length (some ⟨b, o, none⟩) TA M E (.returned (.tuple #[av TA Z, lv M (some ⟨b, o, none⟩) c, .int .i64 0])) (set5 (set11 _ r TA Z) s M (some ⟨b, o, none⟩) c).drew from by rw [HE0.out]; exact (rs_out (by have := HQ2.out.js.ne; omega) (by have := HQ2.out.js.ne; omega) HQ2.out.js.bel HQ2.out.xr ⟨HQ2.out.xo.2.1, HQ2.out.xo.2.2⟩ HQ2.out.of HQ2.out.js.fl ⟨HQ2.out.js.fo.2.2.1, HQ2.out.js.fo.2.2.2⟩ (fun p0 h => by rw [HMC.out]; exact h)).drew)
        obtain ⟨z0, z1, z2, z3, z4, z5, z6, z7, z8, z9, z10⟩ := HQ2.out.xb.k
        have zl := HQ2.out.xb.lt
        obtain ⟨l0, l1, l2, l3, l4⟩ := HQ2.out.js.qb.k
        have ll := HQ2.out.js.qb.lt
        obtain ⟨e0, e1, e2, e3, e4⟩ := HQ2.out.js.qb.free
        obtain ⟨r0, r1, r2, r3, r4, r5, r6, r7, r8, r9, r10⟩ := HQ2.out.js.rb.k
        have rl := HQ2.out.js.rb.lt
        obtain ⟨g0, g1, g2, g3, g4, g5, g6, g7, g8, g9, g10⟩ := HQ2.out.js.rb.free
        obtain ⟨s0, s1, s2, s3, s4⟩ := HQ2.out.js.sb.k
        have sl := HQ2.out.js.sb.lt
        obtain ⟨h0, h1, h2, h3, h4⟩ := HQ2.out.js.sb.free
        have nxr : ¬ x = r := (by have := HQ2.out.js.ne; have := HQ2.out.lt; omega)
        have nrx : ¬ r = x := fun e => nxr e.symm
        have nxs : ¬ x = s := (by have := HQ2.out.js.ne; have := HQ2.out.lt; omega)
        have nsx : ¬ s = x := fun e => nxs e.symm
        have nxq : ¬ x = q := (by have := HQ2.out.js.ne; have := HQ2.out.lt; omega)
        have nqx : ¬ q = x := fun e => nxq e.symm
        have nqr : ¬ q = r := (by have := HQ2.out.js.ne; omega)
        have nrq : ¬ r = q := fun e => nqr e.symm
        have nqs : ¬ q = s := (by have := HQ2.out.js.ne; omega)
        have nsq : ¬ s = q := fun e => nqs e.symm
        have nrs : ¬ r = s := (by have := HQ2.out.js.ne; omega)
        have nsr : ¬ s = r := fun e => nrs e.symm
        clear HQ2
        go_region
        all_goals
          go_wp2
          exact bodyPost_ret (v := .tuple #[av TA Z, lv M (some ⟨b, o, none⟩) c, .int .i64 0]) (by simp only [results, Try.results25]; go_simp <;> rfl) rfl HF.out
    · have hne : (E != 0) = true := bne_iff_ne.2 hE0
      have HMZ := Lib.hid (show M = zK from by rw [HMM.out]; exact if_neg hE0)
      have HTZ := Lib.hid (show TA = zA from by rw [HE.out.2.2]; exact if_neg (by rw [← HE.out.1]; exact hE0))
      have HF := Lib.hid (show RS13 w a Y l.cs.length (some ⟨b, o, none⟩) TA M E (.returned (.tuple #[av zA zAx, lv zK none 0, .int .i64 E])) (set5 (set11 w4 r zA zAx) s zK none 0) from by rw [HTZ.out, HMZ.out]; exact rs_out (by have := HQ.out.js.ne; omega) (by have := HQ.out.js.ne; omega) HQ.out.js.bel AR.zero ⟨aoff_z _, aoff_z _⟩ (fun p0 _ _ => aoff_z _) Fl.nil ⟨offb_0 _ _, offb_0 _ _⟩ (fun p0 _ => offb_0 _ _))
      obtain ⟨z0, z1, z2, z3, z4, z5, z6, z7, z8, z9, z10⟩ := HQ.out.xb.k
      have zl := HQ.out.xb.lt
      obtain ⟨l0, l1, l2, l3, l4⟩ := HQ.out.js.qb.k
      have ll := HQ.out.js.qb.lt
      obtain ⟨e0, e1, e2, e3, e4⟩ := HQ.out.js.qb.free
      obtain ⟨r0, r1, r2, r3, r4, r5, r6, r7, r8, r9, r10⟩ := HQ.out.js.rb.k
      have rl := HQ.out.js.rb.lt
      obtain ⟨g0, g1, g2, g3, g4, g5, g6, g7, g8, g9, g10⟩ := HQ.out.js.rb.free
      obtain ⟨s0, s1, s2, s3, s4⟩ := HQ.out.js.sb.k
      have sl := HQ.out.js.sb.lt
      obtain ⟨h0, h1, h2, h3, h4⟩ := HQ.out.js.sb.free
      have nxr : ¬ x = r := (by have := HQ.out.js.ne; have := HQ.out.lt; omega)
      have nrx : ¬ r = x := fun e => nxr e.symm
      have nxs : ¬ x = s := (by have := HQ.out.js.ne; have := HQ.out.lt; omega)
      have nsx : ¬ s = x := fun e => nxs e.symm
      have nxq : ¬ x = q := (by have := HQ.out.js.ne; have := HQ.out.lt; omega)
      have nqx : ¬ q = x := fun e => nxq e.symm
      have nqr : ¬ q = r := (by have := HQ.out.js.ne; omega)
      have nrq : ¬ r = q := fun e => nqr e.symm
      have nqs : ¬ q = s := (by have := HQ.out.js.ne; omega)
      have nsq : ¬ s = q := fun e => nqs e.symm
      have nrs : ¬ r = s := (by have := HQ.out.js.ne; omega)
      have nsr : ¬ s = r := fun e => nrs e.symm
      clear HQ hE0
      go_wp2
      exact bodyPost_ret (v := .tuple #[.agg #[.slice none 0 0, .slice none 0 0, .int .i64 0, .int .i64 0, .slice none 0 0, .int .i64 0, .slice none 0 0, .slice none 0 0, .int .i64 0, .int .i64 0, .int .i64 0], .agg #[.slice none 0 0, .int .i64 0, .int .i64 0, .int .i64 0, .int .i64 0], .int .i64 E]) (by simp only [results, Try.results25]; go_simp <;> rfl) rfl HF.out
end Go.Proofs.Ytijpflljopckiaa
