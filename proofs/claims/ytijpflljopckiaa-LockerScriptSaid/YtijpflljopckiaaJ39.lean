/- What is proved here: ref12.TryLock, Unlock by contracts. -/
import Derived.Test.YtijpflljopckiaaJ38
import Derived.Test.YtijpflljopckiaaJ37
import Derived.Deep.DeepCutAuto
import Derived.Deep.RegionHeld3
namespace Go.Proofs.Ytijpflljopckiaa
open Go.RowKit
set_option linter.unusedVariables false

theorem setown_self (a : Ar) (n : Nat) (hn : n ≤ a.sl.length) : a.setOwn n (a.own n) = a := by
  unfold Ar.setOwn Ar.own
  by_cases h : n = a.sl.length
  · rw [if_pos h, if_pos h]
  · have hlt : n < a.sl.length := by omega
    rw [if_neg h, if_neg h, og_get hlt]
    have e : a.sl.set n ⟨a.sl[n].ow, a.sl[n].sh⟩ = a.sl := List.set_getElem_self hlt
    rw [e]
/-- An arena, a bool and an error (an arena and an error) as results, the lists lying where an arena's lay, or in new memory. -/
def RT12 (w : World) (a : Ar) (Y : Ax) (a' : Ar) (ok : Bool) (x : Int) (e : Ending) (w' : World) : Prop := ∃ Y', e = .returned (.tuple #[av a' Y', .bool ok, .int .i64 x]) ∧ AR w' w'.heap.size a' Y' ∧ (∀ p0, p0 < w.heap.size → AOff a Y p0 → AOff a' Y' p0) ∧ Below w.heap.size w w'
def RU12 (w : World) (a : Ar) (Y : Ax) (a' : Ar) (x : Int) (e : Ending) (w' : World) : Prop := ∃ Y', e = .returned (.tuple #[av a' Y', .int .i64 x]) ∧ AR w' w'.heap.size a' Y' ∧ (∀ p0, p0 < w.heap.size → AOff a Y p0 → AOff a' Y' p0) ∧ Below w.heap.size w w'
theorem rt_out {w W : World} {r : Nat} {a a' : Ar} {Y Y' : Ax} (hr : w.heap.size ≤ r) (hb : Below w.heap.size w W) (har : AR W W.heap.size a' Y') (ho : AOff a' Y' r) (hof : ∀ p0, p0 < w.heap.size → AOff a Y p0 → AOff a' Y' p0) (ok : Bool) (x : Int) : RT12 w a Y a' ok x (.returned (.tuple #[av a' Y', .bool ok, .int .i64 x])) (set11 W r a' Y') :=
  ⟨Y', rfl, (har.set11 ho a' Y').more (by rw [set11_size]; exact Nat.le_refl _), hof, set11_below hb hr a' Y'⟩
theorem ru_out {w W : World} {r : Nat} {a a' : Ar} {Y Y' : Ax} (hr : w.heap.size ≤ r) (hb : Below w.heap.size w W) (har : AR W W.heap.size a' Y') (ho : AOff a' Y' r) (hof : ∀ p0, p0 < w.heap.size → AOff a Y p0 → AOff a' Y' p0) (x : Int) : RU12 w a Y a' x (.returned (.tuple #[av a' Y', .int .i64 x])) (set11 W r a' Y') :=
  ⟨Y', rfl, (har.set11 ho a' Y').more (by rw [set11_size]; exact Nat.le_refl _), hof, set11_below hb hr a' Y'⟩
theorem lk_neg {n : Nat} {k t : Int} (h : k < 0 ∨ (n : Int) < k) : lkE n k t = 1 := by
  unfold lkE
  rw [if_neg]
  unfold wi
  simp
  omega
theorem lk_tno {n : Nat} {k t : Int} (h : wi t 1 200 = false) : lkE n k t = 1 := by
  unfold lkE
  split
  · unfold rgE; rw [if_neg (by rw [h]; decide)]
  · rfl
theorem lk_yes {n m : Nat} {t : Int} (hn : m ≤ n) (h : wi t 1 200 = true) : lkE n (m : Int) t = 0 := by
  unfold lkE rgE
  rw [if_pos (wi_true (by omega) (by omega)), if_pos h]
set_option maxHeartbeats 8000000 in
set_option maxRecDepth 20000 in
theorem rtrylock_any (a : Ar) (Y : Ax) (k t : Int) (w : World) (har : AR w w.heap.size a Y) (hf : a.sl.length ≤ 1000) : Calls Try.prog 51 #[av a Y, .int .i64 k, .int .i64 t] w (RT12 w a Y (tlA a k t) (tlB a k t) (lkE a.sl.length k t)) := by
  obtain ⟨p, hp⟩ : ∃ p, p = w.heap.size := ⟨_, rfl⟩
  obtain ⟨r, hr⟩ : ∃ r, r = w.heap.size + 1 := ⟨_, rfl⟩
  have H0 := Lib.hid (show Ci12 w p r a Y _ from by rw [hr, hp]; exact Ci12.start har)
  have HPP := Lib.hid (And.intro hp hr)
  have HLE := Lib.hid hf
  obtain ⟨TA, hTA⟩ : ∃ A, A = tlA a k t := ⟨_, rfl⟩
  obtain ⟨TB, hTB⟩ : ∃ A, A = tlB a k t := ⟨_, rfl⟩
  obtain ⟨E, hE⟩ : ∃ A, A = lkE a.sl.length k t := ⟨_, rfl⟩
  rw [← hTA, ← hTB, ← hE]
  by_cases h1 : k < 0
  · have hk := lk_neg (n := a.sl.length) (t := t) (.inl h1)
    have HX := Lib.hid (show TA = zA ∧ TB = false ∧ E = 1 from ⟨by rw [hTA]; exact if_neg (by rw [hk]; decide), by rw [hTB]; unfold tlB; simp [hk], by rw [hE, hk]⟩)
    clear hp hr har hf hTA hE hTB hk
    go_enter Try.func51, Try.ntmps51
    go_upto_region 1 with (fail)
    rw [← HPP.out.2, ← HPP.out.1]
    generalize ((w.alloc (.cells #[.slice Y.A a.sl.length Y.c, .slice Y.A2 a.st.length Y.c2, .int .i64 a.ow, .int .i64 a.cap, .slice Y.A3 a.dl.length Y.c3, .int .i64 a.dir.vn, .slice Y.D.A a.dir.l.length Y.D.c, .slice Y.D.A2 a.dir.F.length Y.D.c2, .int .i64 a.ep, .int .i64 a.ck, .int .i64 a.ni] 36)).alloc (.cells #[.slice none 0 0, .slice none 0 0, .int .i64 0, .int .i64 0, .slice none 0 0, .int .i64 0, .slice none 0 0, .slice none 0 0, .int .i64 0, .int .i64 0, .int .i64 0] 36)) = w1 at *
    have HF := Lib.hid (show RT12 w a Y TA TB E (.returned (.tuple #[av zA zAx, .bool false, .int .i64 1])) (set11 w1 r zA zAx) from by rw [HX.out.1, HX.out.2.1, HX.out.2.2]; exact rt_out (show w.heap.size ≤ r by have := H0.out.ne; omega) H0.out.bel AR.zero (aoff_z _) (fun p0 _ _ => aoff_z _) false 1)
    obtain ⟨y0, y1, y2, y3, y4, y5, y6, y7, y8, y9, y10⟩ := H0.out.pb.k
    have yl := H0.out.pb.lt
    obtain ⟨f0, f1, f2, f3, f4, f5, f6, f7, f8, f9, f10⟩ := H0.out.pb.free
    obtain ⟨r0, r1, r2, r3, r4, r5, r6, r7, r8, r9, r10⟩ := H0.out.rb.k
    have rl := H0.out.rb.lt
    obtain ⟨g0, g1, g2, g3, g4, g5, g6, g7, g8, g9, g10⟩ := H0.out.rb.free
    have npr : ¬ p = r := by have := H0.out.ne; omega
    have nrp : ¬ r = p := fun e => npr e.symm
    clear H0
    go_wp2
    exact bodyPost_ret (v := .tuple #[.agg #[.slice none 0 0, .slice none 0 0, .int .i64 0, .int .i64 0, .slice none 0 0, .int .i64 0, .slice none 0 0, .slice none 0 0, .int .i64 0, .int .i64 0, .int .i64 0], .bool false, .int .i64 1]) (by simp only [results, Try.results51]; go_simp <;> rfl) rfl HF.out
  · by_cases h2 : (a.sl.length : Int) < k
    · have hk := lk_neg (t := t) (.inr h2)
      have HX := Lib.hid (show TA = zA ∧ TB = false ∧ E = 1 from ⟨by rw [hTA]; exact if_neg (by rw [hk]; decide), by rw [hTB]; unfold tlB; simp [hk], by rw [hE, hk]⟩)
      clear hp hr har hf hTA hE hTB hk
      go_enter Try.func51, Try.ntmps51
      go_upto_region 1 with (fail)
      rw [← HPP.out.2, ← HPP.out.1]
      generalize ((w.alloc (.cells #[.slice Y.A a.sl.length Y.c, .slice Y.A2 a.st.length Y.c2, .int .i64 a.ow, .int .i64 a.cap, .slice Y.A3 a.dl.length Y.c3, .int .i64 a.dir.vn, .slice Y.D.A a.dir.l.length Y.D.c, .slice Y.D.A2 a.dir.F.length Y.D.c2, .int .i64 a.ep, .int .i64 a.ck, .int .i64 a.ni] 36)).alloc (.cells #[.slice none 0 0, .slice none 0 0, .int .i64 0, .int .i64 0, .slice none 0 0, .int .i64 0, .slice none 0 0, .slice none 0 0, .int .i64 0, .int .i64 0, .int .i64 0] 36)) = w1 at *
      have HF := Lib.hid (show RT12 w a Y TA TB E (.returned (.tuple #[av zA zAx, .bool false, .int .i64 1])) (set11 w1 r zA zAx) from by rw [HX.out.1, HX.out.2.1, HX.out.2.2]; exact rt_out (show w.heap.size ≤ r by have := H0.out.ne; omega) H0.out.bel AR.zero (aoff_z _) (fun p0 _ _ => aoff_z _) false 1)
      obtain ⟨y0, y1, y2, y3, y4, y5, y6, y7, y8, y9, y10⟩ := H0.out.pb.k
      have yl := H0.out.pb.lt
      obtain ⟨f0, f1, f2, f3, f4, f5, f6, f7, f8, f9, f10⟩ := H0.out.pb.free
      obtain ⟨r0, r1, r2, r3, r4, r5, r6, r7, r8, r9, r10⟩ := H0.out.rb.k
      have rl := H0.out.rb.lt
      obtain ⟨g0, g1, g2, g3, g4, g5, g6, g7, g8, g9, g10⟩ := H0.out.rb.free
      have npr : ¬ p = r := by have := H0.out.ne; omega
      have nrp : ¬ r = p := fun e => npr e.symm
      clear H0
      go_wp2
      exact bodyPost_ret (v := .tuple #[.agg #[.slice none 0 0, .slice none 0 0, .int .i64 0, .int .i64 0, .slice none 0 0, .int .i64 0, .slice none 0 0, .slice none 0 0, .int .i64 0, .int .i64 0, .int .i64 0], .bool false, .int .i64 1]) (by simp only [results, Try.results51]; go_simp <;> rfl) rfl HF.out
    · obtain ⟨n, rfl⟩ : ∃ n : Nat, k = n := ⟨k.toNat, by omega⟩
      have hn : n ≤ a.sl.length := by omega
      have HN := Lib.hid hn
      have HTK := Lib.hid (fun W => rtask_any t W)
      cases htk : wi t 1 200 with
      | false =>
        rw [htk] at HTK
        have hk := lk_tno (n := a.sl.length) (k := n) htk
        have HX := Lib.hid (show TA = zA ∧ TB = false ∧ E = 1 from ⟨by rw [hTA]; exact if_neg (by rw [hk]; decide), by rw [hTB]; unfold tlB; simp [hk], by rw [hE, hk]⟩)
        clear hp hr har hf hTA hE hTB hk htk
        go_enter Try.func51, Try.ntmps51
        go_upto_region 1 with (fail)
        rw [← HPP.out.2, ← HPP.out.1]
        generalize ((w.alloc (.cells #[.slice Y.A a.sl.length Y.c, .slice Y.A2 a.st.length Y.c2, .int .i64 a.ow, .int .i64 a.cap, .slice Y.A3 a.dl.length Y.c3, .int .i64 a.dir.vn, .slice Y.D.A a.dir.l.length Y.D.c, .slice Y.D.A2 a.dir.F.length Y.D.c2, .int .i64 a.ep, .int .i64 a.ck, .int .i64 a.ni] 36)).alloc (.cells #[.slice none 0 0, .slice none 0 0, .int .i64 0, .int .i64 0, .slice none 0 0, .int .i64 0, .slice none 0 0, .slice none 0 0, .int .i64 0, .int .i64 0, .int .i64 0] 36)) = w1 at *
        obtain ⟨y0, y1, y2, y3, y4, y5, y6, y7, y8, y9, y10⟩ := H0.out.pb.k
        have yl := H0.out.pb.lt
        obtain ⟨f0, f1, f2, f3, f4, f5, f6, f7, f8, f9, f10⟩ := H0.out.pb.free
        go_wp2_with fail
        clear y0 y1 y2 y3 y4 y5 y6 y7 y8 y9 y10 yl f0 f1 f2 f3 f4 f5 f6 f7 f8 f9 f10
        refine (HTK.out _).mono ?_
        rintro e w2 ⟨rfl, rfl⟩
        clear HTK
        have HF := Lib.hid (show RT12 w a Y TA TB E (.returned (.tuple #[av zA zAx, .bool false, .int .i64 1])) (set11 w1 r zA zAx) from by rw [HX.out.1, HX.out.2.1, HX.out.2.2]; exact rt_out (show w.heap.size ≤ r by have := H0.out.ne; omega) H0.out.bel AR.zero (aoff_z _) (fun p0 _ _ => aoff_z _) false 1)
        obtain ⟨y0, y1, y2, y3, y4, y5, y6, y7, y8, y9, y10⟩ := H0.out.pb.k
        have yl := H0.out.pb.lt
        obtain ⟨f0, f1, f2, f3, f4, f5, f6, f7, f8, f9, f10⟩ := H0.out.pb.free
        obtain ⟨r0, r1, r2, r3, r4, r5, r6, r7, r8, r9, r10⟩ := H0.out.rb.k
        have rl := H0.out.rb.lt
        obtain ⟨g0, g1, g2, g3, g4, g5, g6, g7, g8, g9, g10⟩ := H0.out.rb.free
        have npr : ¬ p = r := by have := H0.out.ne; omega
        have nrp : ¬ r = p := fun e => npr e.symm
        clear H0
        go_wp2
        exact bodyPost_ret (v := .tuple #[.agg #[.slice none 0 0, .slice none 0 0, .int .i64 0, .int .i64 0, .slice none 0 0, .int .i64 0, .slice none 0 0, .slice none 0 0, .int .i64 0, .int .i64 0, .int .i64 0], .bool false, .int .i64 1]) (by simp only [results, Try.results51]; go_simp <;> rfl) rfl HF.out
      | true =>
        rw [htk] at HTK
        have hk := lk_yes hn htk
        have HX := Lib.hid (show E = 0 ∧ TB = decide (a.own n = 0) ∧ TA = a.setOwn n (if a.own n = 0 then t else a.own n) from ⟨by rw [hE, hk], by rw [hTB]; unfold tlB; rw [hk]; simp, by rw [hTA]; unfold tlA; rw [hk, if_pos rfl]; rfl⟩)
        clear hp hr har hf hTA hE hTB hk htk
        go_enter Try.func51, Try.ntmps51
        go_upto_region 1 with (fail)
        rw [← HPP.out.2, ← HPP.out.1]
        generalize ((w.alloc (.cells #[.slice Y.A a.sl.length Y.c, .slice Y.A2 a.st.length Y.c2, .int .i64 a.ow, .int .i64 a.cap, .slice Y.A3 a.dl.length Y.c3, .int .i64 a.dir.vn, .slice Y.D.A a.dir.l.length Y.D.c, .slice Y.D.A2 a.dir.F.length Y.D.c2, .int .i64 a.ep, .int .i64 a.ck, .int .i64 a.ni] 36)).alloc (.cells #[.slice none 0 0, .slice none 0 0, .int .i64 0, .int .i64 0, .slice none 0 0, .int .i64 0, .slice none 0 0, .slice none 0 0, .int .i64 0, .int .i64 0, .int .i64 0] 36)) = w1 at *
        obtain ⟨y0, y1, y2, y3, y4, y5, y6, y7, y8, y9, y10⟩ := H0.out.pb.k
        have yl := H0.out.pb.lt
        obtain ⟨f0, f1, f2, f3, f4, f5, f6, f7, f8, f9, f10⟩ := H0.out.pb.free
        go_wp2_with fail
        clear y0 y1 y2 y3 y4 y5 y6 y7 y8 y9 y10 yl f0 f1 f2 f3 f4 f5 f6 f7 f8 f9 f10
        refine (HTK.out _).mono ?_
        rintro e w2 ⟨rfl, rfl⟩
        clear HTK
        obtain ⟨y0, y1, y2, y3, y4, y5, y6, y7, y8, y9, y10⟩ := H0.out.pb.k
        have yl := H0.out.pb.lt
        obtain ⟨f0, f1, f2, f3, f4, f5, f6, f7, f8, f9, f10⟩ := H0.out.pb.free
        have HOW := Lib.hid (rowner12_any a Y n w1 (H0.out.ar.more H0.out.bel.size) hn)
        go_wp2_with fail
        clear y0 y1 y2 y3 y4 y5 y6 y7 y8 y9 y10 yl f0 f1 f2 f3 f4 f5 f6 f7 f8 f9 f10
        refine HOW.out.mono ?_
        rintro e w3 ⟨rfl, hb⟩
        have H1 := Lib.hid (H0.out.below hb)
        clear hb H0 HOW
        by_cases h0 : a.own n = 0
        · have HX := Lib.hid (show E = 0 ∧ TB = true ∧ TA = a.setOwn n t from ⟨HX.out.1, by rw [HX.out.2.1]; simp [h0], by rw [HX.out.2.2, if_pos h0]⟩)
          have hb0 : (a.own n != 0) = false := by simp [h0]
          have HOW := Lib.hid (rown_any a Y n t w3 (H1.out.ar.more H1.out.bel.size) hn HLE.out)
          rw [← HX.out.2.2] at HOW
          clear h0
          obtain ⟨y0, y1, y2, y3, y4, y5, y6, y7, y8, y9, y10⟩ := H1.out.pb.k
          have yl := H1.out.pb.lt
          obtain ⟨f0, f1, f2, f3, f4, f5, f6, f7, f8, f9, f10⟩ := H1.out.pb.free
          go_wp2_with fail
          clear y0 y1 y2 y3 y4 y5 y6 y7 y8 y9 y10 yl f0 f1 f2 f3 f4 f5 f6 f7 f8 f9 f10
          refine HOW.out.mono ?_
          rintro e w4 ⟨Y', rfl, hr, ho, hb⟩
          have HAO := Lib.hid (And.intro (ho r H1.out.rb.lt (H1.out.ar.offs (show w.heap.size ≤ r by have := H1.out.ne; omega))) (fun (p0 : Nat) (hp0 : p0 < w.heap.size) hq => ho p0 (Nat.lt_of_lt_of_le hp0 H1.out.bel.size) hq))
          have H2 := Lib.hid (H1.out.below hb)
          have HF := Lib.hid (show RT12 w a Y TA TB E (.returned (.tuple #[av TA Y', .bool true, .int .i64 0])) (set11 w4 r TA Y') from by rw [HX.out.1, HX.out.2.1]; exact rt_out (show w.heap.size ≤ r by have := H2.out.ne; omega) H2.out.bel hr HAO.out.1 HAO.out.2 true 0)
          clear hr ho hb H1 HOW HAO hb0
          obtain ⟨y0, y1, y2, y3, y4, y5, y6, y7, y8, y9, y10⟩ := H2.out.pb.k
          have yl := H2.out.pb.lt
          obtain ⟨f0, f1, f2, f3, f4, f5, f6, f7, f8, f9, f10⟩ := H2.out.pb.free
          obtain ⟨r0, r1, r2, r3, r4, r5, r6, r7, r8, r9, r10⟩ := H2.out.rb.k
          have rl := H2.out.rb.lt
          obtain ⟨g0, g1, g2, g3, g4, g5, g6, g7, g8, g9, g10⟩ := H2.out.rb.free
          have npr : ¬ p = r := by have := H2.out.ne; omega
          have nrp : ¬ r = p := fun e => npr e.symm
          clear H2
          go_wp2
          exact bodyPost_ret (v := .tuple #[av TA Y', .bool true, .int .i64 0]) (by simp only [results, Try.results51]; go_simp <;> rfl) rfl HF.out
        · have HX := Lib.hid (show E = 0 ∧ TB = false ∧ TA = a from ⟨HX.out.1, by rw [HX.out.2.1]; simp [h0], by rw [HX.out.2.2, if_neg h0]; exact setown_self a n hn⟩)
          have hb0 : (a.own n != 0) = true := by simp [h0]
          clear h0
          have HF := Lib.hid (show RT12 w a Y TA TB E (.returned (.tuple #[av a Y, .bool false, .int .i64 0])) (set11 w3 r a Y) from by rw [HX.out.1, HX.out.2.1, HX.out.2.2]; exact rt_out (show w.heap.size ≤ r by have := H1.out.ne; omega) H1.out.bel (H1.out.ar.more H1.out.bel.size) (H1.out.ar.offs (show w.heap.size ≤ r by have := H1.out.ne; omega)) (fun p0 _ h => h) false 0)
          obtain ⟨y0, y1, y2, y3, y4, y5, y6, y7, y8, y9, y10⟩ := H1.out.pb.k
          have yl := H1.out.pb.lt
          obtain ⟨f0, f1, f2, f3, f4, f5, f6, f7, f8, f9, f10⟩ := H1.out.pb.free
          obtain ⟨r0, r1, r2, r3, r4, r5, r6, r7, r8, r9, r10⟩ := H1.out.rb.k
          have rl := H1.out.rb.lt
          obtain ⟨g0, g1, g2, g3, g4, g5, g6, g7, g8, g9, g10⟩ := H1.out.rb.free
          have npr : ¬ p = r := by have := H1.out.ne; omega
          have nrp : ¬ r = p := fun e => npr e.symm
          clear H1
          go_wp2
          exact bodyPost_ret (v := .tuple #[av a Y, .bool false, .int .i64 0]) (by simp only [results, Try.results51]; go_simp <;> rfl) rfl HF.out
set_option maxHeartbeats 8000000 in
set_option maxRecDepth 20000 in
theorem runlock_any (a : Ar) (Y : Ax) (k t : Int) (w : World) (har : AR w w.heap.size a Y) (hf : a.sl.length ≤ 1000) : Calls Try.prog 52 #[av a Y, .int .i64 k, .int .i64 t] w (RU12 w a Y (ulA a k t) (owE a k t)) := by
  obtain ⟨p, hp⟩ : ∃ p, p = w.heap.size := ⟨_, rfl⟩
  obtain ⟨r, hr⟩ : ∃ r, r = w.heap.size + 1 := ⟨_, rfl⟩
  have H0 := Lib.hid (show Ci12 w p r a Y _ from by rw [hr, hp]; exact Ci12.start har)
  have HPP := Lib.hid (And.intro hp hr)
  have HLE := Lib.hid hf
  obtain ⟨TA, hTA⟩ : ∃ A, A = ulA a k t := ⟨_, rfl⟩
  obtain ⟨E, hE⟩ : ∃ A, A = owE a k t := ⟨_, rfl⟩
  rw [← hTA, ← hE]
  by_cases h1 : k < 0
  · have hk := lk_neg (n := a.sl.length) (t := t) (.inl h1)
    have HX := Lib.hid (show TA = zA ∧ E = 1 from ⟨by rw [hTA]; exact if_neg (by unfold owE; rw [hk]; simp), by rw [hE]; unfold owE; rw [hk]; rfl⟩)
    clear hp hr har hf hTA hE hk
    go_enter Try.func52, Try.ntmps52
    go_upto_region 1 with (fail)
    rw [← HPP.out.2, ← HPP.out.1]
    generalize ((w.alloc (.cells #[.slice Y.A a.sl.length Y.c, .slice Y.A2 a.st.length Y.c2, .int .i64 a.ow, .int .i64 a.cap, .slice Y.A3 a.dl.length Y.c3, .int .i64 a.dir.vn, .slice Y.D.A a.dir.l.length Y.D.c, .slice Y.D.A2 a.dir.F.length Y.D.c2, .int .i64 a.ep, .int .i64 a.ck, .int .i64 a.ni] 36)).alloc (.cells #[.slice none 0 0, .slice none 0 0, .int .i64 0, .int .i64 0, .slice none 0 0, .int .i64 0, .slice none 0 0, .slice none 0 0, .int .i64 0, .int .i64 0, .int .i64 0] 36)) = w1 at *
    have HF := Lib.hid (show RU12 w a Y TA E (.returned (.tuple #[av zA zAx, .int .i64 1])) (set11 w1 r zA zAx) from by rw [HX.out.1, HX.out.2]; exact ru_out (show w.heap.size ≤ r by have := H0.out.ne; omega) H0.out.bel AR.zero (aoff_z _) (fun p0 _ _ => aoff_z _) 1)
    obtain ⟨y0, y1, y2, y3, y4, y5, y6, y7, y8, y9, y10⟩ := H0.out.pb.k
    have yl := H0.out.pb.lt
    obtain ⟨f0, f1, f2, f3, f4, f5, f6, f7, f8, f9, f10⟩ := H0.out.pb.free
    obtain ⟨r0, r1, r2, r3, r4, r5, r6, r7, r8, r9, r10⟩ := H0.out.rb.k
    have rl := H0.out.rb.lt
    obtain ⟨g0, g1, g2, g3, g4, g5, g6, g7, g8, g9, g10⟩ := H0.out.rb.free
    have npr : ¬ p = r := by have := H0.out.ne; omega
    have nrp : ¬ r = p := fun e => npr e.symm
    clear H0
    go_wp2
    exact bodyPost_ret (v := .tuple #[.agg #[.slice none 0 0, .slice none 0 0, .int .i64 0, .int .i64 0, .slice none 0 0, .int .i64 0, .slice none 0 0, .slice none 0 0, .int .i64 0, .int .i64 0, .int .i64 0], .int .i64 1]) (by simp only [results, Try.results52]; go_simp <;> rfl) rfl HF.out
  · by_cases h2 : (a.sl.length : Int) < k
    · have hk := lk_neg (t := t) (.inr h2)
      have HX := Lib.hid (show TA = zA ∧ E = 1 from ⟨by rw [hTA]; exact if_neg (by unfold owE; rw [hk]; simp), by rw [hE]; unfold owE; rw [hk]; rfl⟩)
      clear hp hr har hf hTA hE hk
      go_enter Try.func52, Try.ntmps52
      go_upto_region 1 with (fail)
      rw [← HPP.out.2, ← HPP.out.1]
      generalize ((w.alloc (.cells #[.slice Y.A a.sl.length Y.c, .slice Y.A2 a.st.length Y.c2, .int .i64 a.ow, .int .i64 a.cap, .slice Y.A3 a.dl.length Y.c3, .int .i64 a.dir.vn, .slice Y.D.A a.dir.l.length Y.D.c, .slice Y.D.A2 a.dir.F.length Y.D.c2, .int .i64 a.ep, .int .i64 a.ck, .int .i64 a.ni] 36)).alloc (.cells #[.slice none 0 0, .slice none 0 0, .int .i64 0, .int .i64 0, .slice none 0 0, .int .i64 0, .slice none 0 0, .slice none 0 0, .int .i64 0, .int .i64 0, .int .i64 0] 36)) = w1 at *
      have HF := Lib.hid (show RU12 w a Y TA E (.returned (.tuple #[av zA zAx, .int .i64 1])) (set11 w1 r zA zAx) from by rw [HX.out.1, HX.out.2]; exact ru_out (show w.heap.size ≤ r by have := H0.out.ne; omega) H0.out.bel AR.zero (aoff_z _) (fun p0 _ _ => aoff_z _) 1)
      obtain ⟨y0, y1, y2, y3, y4, y5, y6, y7, y8, y9, y10⟩ := H0.out.pb.k
      have yl := H0.out.pb.lt
      obtain ⟨f0, f1, f2, f3, f4, f5, f6, f7, f8, f9, f10⟩ := H0.out.pb.free
      obtain ⟨r0, r1, r2, r3, r4, r5, r6, r7, r8, r9, r10⟩ := H0.out.rb.k
      have rl := H0.out.rb.lt
      obtain ⟨g0, g1, g2, g3, g4, g5, g6, g7, g8, g9, g10⟩ := H0.out.rb.free
      have npr : ¬ p = r := by have := H0.out.ne; omega
      have nrp : ¬ r = p := fun e => npr e.symm
      clear H0
      go_wp2
      exact bodyPost_ret (v := .tuple #[.agg #[.slice none 0 0, .slice none 0 0, .int .i64 0, .int .i64 0, .slice none 0 0, .int .i64 0, .slice none 0 0, .slice none 0 0, .int .i64 0, .int .i64 0, .int .i64 0], .int .i64 1]) (by simp only [results, Try.results52]; go_simp <;> rfl) rfl HF.out
    · obtain ⟨n, rfl⟩ : ∃ n : Nat, k = n := ⟨k.toNat, by omega⟩
      have hn : n ≤ a.sl.length := by omega
      have HN := Lib.hid hn
      have HTK := Lib.hid (fun W => rtask_any t W)
      cases htk : wi t 1 200 with
      | false =>
        rw [htk] at HTK
        have hk := lk_tno (n := a.sl.length) (k := n) htk
        have HX := Lib.hid (show TA = zA ∧ E = 1 from ⟨by rw [hTA]; exact if_neg (by unfold owE; rw [hk]; simp), by rw [hE]; unfold owE; rw [hk]; rfl⟩)
        clear hp hr har hf hTA hE hk htk
        go_enter Try.func52, Try.ntmps52
        go_upto_region 1 with (fail)
        rw [← HPP.out.2, ← HPP.out.1]
        generalize ((w.alloc (.cells #[.slice Y.A a.sl.length Y.c, .slice Y.A2 a.st.length Y.c2, .int .i64 a.ow, .int .i64 a.cap, .slice Y.A3 a.dl.length Y.c3, .int .i64 a.dir.vn, .slice Y.D.A a.dir.l.length Y.D.c, .slice Y.D.A2 a.dir.F.length Y.D.c2, .int .i64 a.ep, .int .i64 a.ck, .int .i64 a.ni] 36)).alloc (.cells #[.slice none 0 0, .slice none 0 0, .int .i64 0, .int .i64 0, .slice none 0 0, .int .i64 0, .slice none 0 0, .slice none 0 0, .int .i64 0, .int .i64 0, .int .i64 0] 36)) = w1 at *
        obtain ⟨y0, y1, y2, y3, y4, y5, y6, y7, y8, y9, y10⟩ := H0.out.pb.k
        have yl := H0.out.pb.lt
        obtain ⟨f0, f1, f2, f3, f4, f5, f6, f7, f8, f9, f10⟩ := H0.out.pb.free
        go_wp2_with fail
        clear y0 y1 y2 y3 y4 y5 y6 y7 y8 y9 y10 yl f0 f1 f2 f3 f4 f5 f6 f7 f8 f9 f10
        refine (HTK.out _).mono ?_
        rintro e w2 ⟨rfl, rfl⟩
        clear HTK
        have HF := Lib.hid (show RU12 w a Y TA E (.returned (.tuple #[av zA zAx, .int .i64 1])) (set11 w1 r zA zAx) from by rw [HX.out.1, HX.out.2]; exact ru_out (show w.heap.size ≤ r by have := H0.out.ne; omega) H0.out.bel AR.zero (aoff_z _) (fun p0 _ _ => aoff_z _) 1)
        obtain ⟨y0, y1, y2, y3, y4, y5, y6, y7, y8, y9, y10⟩ := H0.out.pb.k
        have yl := H0.out.pb.lt
        obtain ⟨f0, f1, f2, f3, f4, f5, f6, f7, f8, f9, f10⟩ := H0.out.pb.free
        obtain ⟨r0, r1, r2, r3, r4, r5, r6, r7, r8, r9, r10⟩ := H0.out.rb.k
        have rl := H0.out.rb.lt
        obtain ⟨g0, g1, g2, g3, g4, g5, g6, g7, g8, g9, g10⟩ := H0.out.rb.free
        have npr : ¬ p = r := by have := H0.out.ne; omega
        have nrp : ¬ r = p := fun e => npr e.symm
        clear H0
        go_wp2
        exact bodyPost_ret (v := .tuple #[.agg #[.slice none 0 0, .slice none 0 0, .int .i64 0, .int .i64 0, .slice none 0 0, .int .i64 0, .slice none 0 0, .slice none 0 0, .int .i64 0, .int .i64 0, .int .i64 0], .int .i64 1]) (by simp only [results, Try.results52]; go_simp <;> rfl) rfl HF.out
      | true =>
        rw [htk] at HTK
        have hk := lk_yes hn htk
        have HX := Lib.hid (show E = (if a.own n = t then 0 else 13) ∧ TA = if (if a.own n = t then (0 : Int) else 13) = 0 then a.setOwn n 0 else zA from ⟨by rw [hE]; unfold owE; rw [hk, if_pos rfl]; rfl, by rw [hTA]; unfold ulA owE; rw [hk, if_pos rfl]; rfl⟩)
        clear hp hr har hf hTA hE hk htk
        go_enter Try.func52, Try.ntmps52
        go_upto_region 1 with (fail)
        rw [← HPP.out.2, ← HPP.out.1]
        generalize ((w.alloc (.cells #[.slice Y.A a.sl.length Y.c, .slice Y.A2 a.st.length Y.c2, .int .i64 a.ow, .int .i64 a.cap, .slice Y.A3 a.dl.length Y.c3, .int .i64 a.dir.vn, .slice Y.D.A a.dir.l.length Y.D.c, .slice Y.D.A2 a.dir.F.length Y.D.c2, .int .i64 a.ep, .int .i64 a.ck, .int .i64 a.ni] 36)).alloc (.cells #[.slice none 0 0, .slice none 0 0, .int .i64 0, .int .i64 0, .slice none 0 0, .int .i64 0, .slice none 0 0, .slice none 0 0, .int .i64 0, .int .i64 0, .int .i64 0] 36)) = w1 at *
        obtain ⟨y0, y1, y2, y3, y4, y5, y6, y7, y8, y9, y10⟩ := H0.out.pb.k
        have yl := H0.out.pb.lt
        obtain ⟨f0, f1, f2, f3, f4, f5, f6, f7, f8, f9, f10⟩ := H0.out.pb.free
        go_wp2_with fail
        clear y0 y1 y2 y3 y4 y5 y6 y7 y8 y9 y10 yl f0 f1 f2 f3 f4 f5 f6 f7 f8 f9 f10
        refine (HTK.out _).mono ?_
        rintro e w2 ⟨rfl, rfl⟩
        clear HTK
        obtain ⟨y0, y1, y2, y3, y4, y5, y6, y7, y8, y9, y10⟩ := H0.out.pb.k
        have yl := H0.out.pb.lt
        obtain ⟨f0, f1, f2, f3, f4, f5, f6, f7, f8, f9, f10⟩ := H0.out.pb.free
        have HOW := Lib.hid (rowner12_any a Y n w1 (H0.out.ar.more H0.out.bel.size) hn)
        go_wp2_with fail
        clear y0 y1 y2 y3 y4 y5 y6 y7 y8 y9 y10 yl f0 f1 f2 f3 f4 f5 f6 f7 f8 f9 f10
        refine HOW.out.mono ?_
        rintro e w3 ⟨rfl, hb⟩
        have H1 := Lib.hid (H0.out.below hb)
        clear hb H0 HOW
        by_cases h0 : a.own n = t
        · have HX := Lib.hid (show E = 0 ∧ TA = a.setOwn n 0 from ⟨by rw [HX.out.1, if_pos h0], by rw [HX.out.2, if_pos h0, if_pos rfl]⟩)
          have hb0 : (a.own n != t) = false := by simp [h0]
          have HOW := Lib.hid (rown_any a Y n 0 w3 (H1.out.ar.more H1.out.bel.size) hn HLE.out)
          rw [← HX.out.2] at HOW
          clear h0
          obtain ⟨y0, y1, y2, y3, y4, y5, y6, y7, y8, y9, y10⟩ := H1.out.pb.k
          have yl := H1.out.pb.lt
          obtain ⟨f0, f1, f2, f3, f4, f5, f6, f7, f8, f9, f10⟩ := H1.out.pb.free
          go_wp2_with fail
          clear y0 y1 y2 y3 y4 y5 y6 y7 y8 y9 y10 yl f0 f1 f2 f3 f4 f5 f6 f7 f8 f9 f10
          refine HOW.out.mono ?_
          rintro e w4 ⟨Y', rfl, hr, ho, hb⟩
          have HAO := Lib.hid (And.intro (ho r H1.out.rb.lt (H1.out.ar.offs (show w.heap.size ≤ r by have := H1.out.ne; omega))) (fun (p0 : Nat) (hp0 : p0 < w.heap.size) hq => ho p0 (Nat.lt_of_lt_of_le hp0 H1.out.bel.size) hq))
          have H2 := Lib.hid (H1.out.below hb)
          have HF := Lib.hid (show RU12 w a Y TA E (.returned (.tuple #[av TA Y', .int .i64 0])) (set11 w4 r TA Y') from by rw [HX.out.1]; exact ru_out (show w.heap.size ≤ r by have := H2.out.ne; omega) H2.out.bel hr HAO.out.1 HAO.out.2 0)
          clear hr ho hb H1 HOW HAO hb0
          obtain ⟨y0, y1, y2, y3, y4, y5, y6, y7, y8, y9, y10⟩ := H2.out.pb.k
          have yl := H2.out.pb.lt
          obtain ⟨f0, f1, f2, f3, f4, f5, f6, f7, f8, f9, f10⟩ := H2.out.pb.free
          obtain ⟨r0, r1, r2, r3, r4, r5, r6, r7, r8, r9, r10⟩ := H2.out.rb.k
          have rl := H2.out.rb.lt
          obtain ⟨g0, g1, g2, g3, g4, g5, g6, g7, g8, g9, g10⟩ := H2.out.rb.free
          have npr : ¬ p = r := by have := H2.out.ne; omega
          have nrp : ¬ r = p := fun e => npr e.symm
          clear H2
          go_wp2
          exact bodyPost_ret (v := .tuple #[av TA Y', .int .i64 0]) (by simp only [results, Try.results52]; go_simp <;> rfl) rfl HF.out
        · have HX := Lib.hid (show E = 13 ∧ TA = zA from ⟨by rw [HX.out.1, if_neg h0], by rw [HX.out.2, if_neg h0]; exact if_neg (by decide)⟩)
          have hb0 : (a.own n != t) = true := by simp [h0]
          clear h0
          have HF := Lib.hid (show RU12 w a Y TA E (.returned (.tuple #[av zA zAx, .int .i64 13])) (set11 w3 r zA zAx) from by rw [HX.out.1, HX.out.2]; exact ru_out (show w.heap.size ≤ r by have := H1.out.ne; omega) H1.out.bel AR.zero (aoff_z _) (fun p0 _ _ => aoff_z _) 13)
          obtain ⟨y0, y1, y2, y3, y4, y5, y6, y7, y8, y9, y10⟩ := H1.out.pb.k
          have yl := H1.out.pb.lt
          obtain ⟨f0, f1, f2, f3, f4, f5, f6, f7, f8, f9, f10⟩ := H1.out.pb.free
          obtain ⟨r0, r1, r2, r3, r4, r5, r6, r7, r8, r9, r10⟩ := H1.out.rb.k
          have rl := H1.out.rb.lt
          obtain ⟨g0, g1, g2, g3, g4, g5, g6, g7, g8, g9, g10⟩ := H1.out.rb.free
          have npr : ¬ p = r := by have := H1.out.ne; omega
          have nrp : ¬ r = p := fun e => npr e.symm
          clear H1
          go_wp2
          exact bodyPost_ret (v := .tuple #[.agg #[.slice none 0 0, .slice none 0 0, .int .i64 0, .int .i64 0, .slice none 0 0, .int .i64 0, .slice none 0 0, .slice none 0 0, .int .i64 0, .int .i64 0, .int .i64 0], .int .i64 13]) (by simp only [results, Try.results52]; go_simp <;> rfl) rfl HF.out
end Go.Proofs.Ytijpflljopckiaa
