/- What is proved here: ref12.task, Owner, own by contracts. -/
import Derived.Test.YtijpflljopckiaaJ37
import Derived.Test.YtijpflljopckiaaJ02
import Derived.Deep.AppendLies
import Derived.Test.YtijpflljopckiaaJ32
import Derived.Deep.DeepCutAuto
import Derived.Deep.RegionHeld3
namespace Go.Proofs.Ytijpflljopckiaa
open Go.RowKit
set_option linter.unusedVariables false

theorem rtask_any (i : Int) (w : World) : Calls Try.prog 83 #[.int .i64 i] w fun e w' => e = .returned (.bool (wi i 1 200)) ∧ w = w' := by
  obtain ⟨B, hB⟩ : ∃ B, B = wi i 1 200 := ⟨_, rfl⟩
  rw [← hB]
  have HB := Lib.hid hB
  by_cases h1 : 1 ≤ i
  · by_cases h2 : i ≤ 200
    · have HX := Lib.hid (show B = true from by rw [hB]; exact wi_true h1 h2)
      clear hB
      go_enter Try.func83, Try.ntmps83
      go_wp2
      go_ret
      exact ⟨by rw [HX.out]; rfl, rfl⟩
    · have HX := Lib.hid (show B = false from by rw [hB]; unfold wi; simp; omega)
      clear hB
      go_enter Try.func83, Try.ntmps83
      go_wp2
      go_ret
      exact ⟨by rw [HX.out]; rfl, rfl⟩
  · have HX := Lib.hid (show B = false from by rw [hB]; unfold wi; simp; omega)
    clear hB
    go_enter Try.func83, Try.ntmps83
    go_wp2
    go_ret
    exact ⟨by rw [HX.out]; rfl, rfl⟩
set_option maxHeartbeats 2000000 in
set_option maxRecDepth 20000 in
theorem rowner12_any (a : Ar) (Y : Ax) (n : Nat) (w : World) (har : AR w w.heap.size a Y) (hn : n ≤ a.sl.length) : Calls Try.prog 15 #[av a Y, .int .i64 (n : Int)] w fun e w' => e = .returned (.int .i64 (a.own n)) ∧ Below w.heap.size w w' := by
  have HB := Lib.hid (QB.start w a Y 36)
  have HW := Lib.hid ((Below.refl w.heap.size w).alloc (Nat.le_refl _) (.cells #[.slice Y.A a.sl.length Y.c, .slice Y.A2 a.st.length Y.c2, .int .i64 a.ow, .int .i64 a.cap, .slice Y.A3 a.dl.length Y.c3, .int .i64 a.dir.vn, .slice Y.D.A a.dir.l.length Y.D.c, .slice Y.D.A2 a.dir.F.length Y.D.c2, .int .i64 a.ep, .int .i64 a.ck, .int .i64 a.ni] 36))
  have HR := Lib.hid (har.alloc (.cells #[.slice Y.A a.sl.length Y.c, .slice Y.A2 a.st.length Y.c2, .int .i64 a.ow, .int .i64 a.cap, .slice Y.A3 a.dl.length Y.c3, .int .i64 a.dir.vn, .slice Y.D.A a.dir.l.length Y.D.c, .slice Y.D.A2 a.dir.F.length Y.D.c2, .int .i64 a.ep, .int .i64 a.ck, .int .i64 a.ni] 36))
  by_cases hl : n = a.sl.length
  · have HX := Lib.hid (show a.own n = a.ow from if_pos hl)
    have hb : ((n : Int) == (a.sl.length : Int)) = true := by simp [hl]
    clear hl hn har
    go_enter Try.func15, Try.ntmps15
    obtain ⟨y0, y1, y2, y3, y4, y5, y6, y7, y8, y9, y10⟩ := HB.out.k
    have yl := HB.out.lt
    go_wp2
    go_ret
    exact ⟨by rw [HX.out]; rfl, HW.out⟩
  · have hlt : n < a.sl.length := by omega
    have HX := Lib.hid (show a.own n = (og a.sl n).ow from if_neg hl)
    have hb : ((n : Int) == (a.sl.length : Int)) = false := beq_eq_false_iff_ne.2 (by omega)
    have HLT := Lib.hid hlt
    clear hl hn har
    go_enter Try.func15, Try.ntmps15
    obtain ⟨y0, y1, y2, y3, y4, y5, y6, y7, y8, y9, y10⟩ := HB.out.k
    have yl := HB.out.lt
    go_upto_region 1 with (fail)
    generalize (w.alloc (.cells #[.slice Y.A a.sl.length Y.c, .slice Y.A2 a.st.length Y.c2, .int .i64 a.ow, .int .i64 a.cap, .slice Y.A3 a.dl.length Y.c3, .int .i64 a.dir.vn, .slice Y.D.A a.dir.l.length Y.D.c, .slice Y.D.A2 a.dir.F.length Y.D.c2, .int .i64 a.ep, .int .i64 a.ck, .int .i64 a.ni] 36)) = w1 at *
    obtain ⟨D, b, o, hA, hbb, h9, -, -⟩ := HR.out.at2 HLT.out
    have h0 := h9.1
    generalize og a.sl n = TT at *
    simp only at h0
    rw [hA] at y0
    clear hA HR h9
    go_wp2
    go_ret
    exact ⟨by rw [HX.out]; rfl, HW.out⟩
section
variable {w W W' : World} {p r b : Nat} {a : Ar} {Y : Ax}
theorem Cb12.own2 (h : Cb12 w p r b a Y W) {k : Nat} (hk : k ≤ a.sl.length) (v : Int) : ∃ Y' : Ax, Cb12 w p r b (a.setOwn k v) Y' (W.setCell (ownP p b a.sl.length k) (.int .i64 v)) ∧ ∀ p0, AOff a Y p0 → AOff (a.setOwn k v) Y' p0 := by
  have hne := h.ne
  unfold ownP Ar.setOwn
  by_cases e : k = a.sl.length
  · rw [if_pos e, if_pos e]
    obtain ⟨k1, k2, k3, k4, k5, k6, k7⟩ := h.keep 2 (.int .i64 v)
    obtain ⟨⟨y0, y1, y2, y3, y4, y5, y6, y7, y8, y9, y10⟩, fr, lt⟩ := h.pb
    exact ⟨Y, ⟨⟨⟨by simp [go_sem, y0], by simp [go_sem, y1], by simp [go_sem, y2], by simp [go_sem, y3], by simp [go_sem, y4], by simp [go_sem, y5], by simp [go_sem, y6], by simp [go_sem, y7], by simp [go_sem, y8], by simp [go_sem, y9], by simp [go_sem, y10]⟩, fun o => by simp [go_sem, fr o], by simp [lt]⟩, k5, k6, h.ea, h.ec, h.so, fun t ht => ⟨k1 t ht, (h.sr t ht).2⟩, ⟨k2, h.tl.2⟩, ⟨k3, h.ls.2⟩, ⟨k4, h.dr.2⟩, h.ne, k7⟩, fun p0 hn => ⟨hn.o1, hn.os, hn.o2, hn.o3, hn.o4⟩⟩
  · rw [if_neg e, if_neg e]
    have hl : k < Y.q.length := by rw [h.len]; omega
    obtain ⟨t, ht⟩ : ∃ t, Y.q[k]? = some t := ⟨_, List.getElem?_eq_getElem hl⟩
    have e2 : t.sh = (og a.sl k).sh := by
      rw [og_get (show k < a.sl.length by omega)]
      have h1 : (Y.q.map Sl.so)[k]? = some t.so := by rw [List.getElem?_map, ht]; rfl
      rw [h.so] at h1
      obtain ⟨_, h2⟩ := List.getElem?_eq_some_iff.1 h1
      rw [h2]; rfl
    obtain ⟨x, S, D⟩ := t
    simp only at e2
    rw [← e2]
    have hm := h.sr _ (List.mem_of_getElem? ht)
    have h2 := h.ro.set (j := k * 9) (by rw [qcs_len]; omega) (.int .i64 v)
    rw [qcs_setow Y.q k x v S D ht] at h2
    have hpb := h.pb.other (x := ⟨b, k * 9, none⟩) (show b ≠ p by omega) (.int .i64 v)
    have hmem : ∀ s ∈ Y.q.set k ⟨v, S, D⟩, s ∈ Y.q ∨ s = ⟨v, S, D⟩ := fun s hs => by
      rcases List.mem_or_eq_of_mem_set hs with h1 | h1
      · exact .inl h1
      · exact .inr h1
    refine ⟨⟨Y.A, Y.c, Y.q.set k ⟨v, S, D⟩, Y.A2, Y.c2, Y.A3, Y.c3, Y.D⟩, ⟨⟨?_, hpb.fr, hpb.lt⟩, h.rb.other (x := ⟨b, k * 9, none⟩) (show b ≠ r by omega) _, h2, h.ea, by simpa using h.ec, ?_, fun s hs => ?_, ⟨(h.tl.1.offb (p := ⟨b, k * 9, none⟩) h.tl.2.1 _).more (by simp), h.tl.2⟩, ⟨(h.ls.1.offp (p := ⟨b, k * 9, none⟩) h.ls.2.1 _).more (by simp), h.ls.2⟩, ⟨(h.dr.1.offp (q := ⟨b, k * 9, none⟩) h.dr.2.1 _).more (by simp), h.dr.2⟩, h.ne, h.bel.setCell (p := ⟨b, k * 9, none⟩) (show w.heap.size ≤ b by omega) _⟩, fun p0 hn => ⟨by simpa using hn.o1, fun s hs => ?_, hn.o2, hn.o3, hn.o4⟩⟩
    · obtain ⟨y0, y1, y2, y3, y4, y5, y6, y7, y8, y9, y10⟩ := hpb.k
      exact ⟨by simpa using y0, y1, y2, y3, y4, y5, y6, y7, y8, y9, y10⟩
    · show (Y.q.set k ⟨v, S, D⟩).map Sl.so = a.sl.set k ⟨v, S⟩
      rw [List.map_set, h.so]
      rfl
    · rcases hmem s hs with h1 | rfl
      · exact ⟨((h.sr s h1).1.offp (p := ⟨b, k * 9, none⟩) (h.sr s h1).2.1 _).more (by simp), (h.sr s h1).2⟩
      · exact ⟨(hm.1.offp (p := ⟨b, k * 9, none⟩) hm.2.1 _).more (by simp), hm.2⟩
    · rcases hmem s hs with h1 | rfl
      · exact hn.os s h1
      · exact (show SOff S D p0 from hn.os ⟨x, S, D⟩ (List.mem_of_getElem? ht))
theorem Cb12.aoff (h : Cb12 w p r b a Y W) : AOff a Y r ∧ AOff a Y p := by
  have hne := h.ne
  have g : ∀ q, q < b → OffB q a.sl.length Y.A := fun q hq _ x hx => by rw [h.ea] at hx; cases hx; show b ≠ q; omega
  exact ⟨⟨g _ (by omega), fun s hs => (h.sr s hs).2.2.2, h.tl.2.2.2, h.ls.2.2.2, h.dr.2.2.2⟩, ⟨g _ (by omega), fun s hs => (h.sr s hs).2.2.1, h.tl.2.2.1, h.ls.2.2.1, h.dr.2.2.1⟩⟩
end
/-- An arena as a result, its lists lying where an arena's lay, or in new memory. -/
def RA12 (w : World) (a : Ar) (Y : Ax) (a' : Ar) (e : Ending) (w' : World) : Prop := ∃ Y', e = .returned (av a' Y') ∧ AR w' w'.heap.size a' Y' ∧ (∀ p0, p0 < w.heap.size → AOff a Y p0 → AOff a' Y' p0) ∧ Below w.heap.size w w'
theorem ra_out {w W : World} {r : Nat} {a a' : Ar} {Y Y' : Ax} (hr : w.heap.size ≤ r) (hb : Below w.heap.size w W) (har : AR W W.heap.size a' Y') (ho : AOff a' Y' r) (hof : ∀ p0, p0 < w.heap.size → AOff a Y p0 → AOff a' Y' p0) : RA12 w a Y a' (.returned (av a' Y')) (set11 W r a' Y') :=
  ⟨Y', rfl, (har.set11 ho a' Y').more (by rw [set11_size]; exact Nat.le_refl _), hof, set11_below hb hr a' Y'⟩
theorem QB.setOw {W : World} {p : Nat} {a : Ar} {Y : Ax} (h : QB W p a Y) (v : Int) : QB (W.setCell ⟨p, 2, none⟩ (.int .i64 v)) p ⟨a.sl, a.st, v, a.cap, a.dl, a.dir, a.ep, a.ck, a.ni⟩ Y := by
  obtain ⟨⟨y0, y1, y2, y3, y4, y5, y6, y7, y8, y9, y10⟩, fr, lt⟩ := h
  exact ⟨⟨by simp [go_sem, y0], by simp [go_sem, y1], by simp [go_sem, y2], by simp [go_sem, y3], by simp [go_sem, y4], by simp [go_sem, y5], by simp [go_sem, y6], by simp [go_sem, y7], by simp [go_sem, y8], by simp [go_sem, y9], by simp [go_sem, y10]⟩, fun o => by simp [go_sem, fr o], by simp [lt]⟩
theorem ar_ow {W : World} {B : Nat} {a : Ar} {Y : Ax} (h : AR W B a Y) (v : Int) : AR W B ⟨a.sl, a.st, v, a.cap, a.dl, a.dir, a.ep, a.ck, a.ni⟩ Y := ⟨h.ql, h.so, h.sr, h.tl, h.ls, h.dr⟩
theorem aoff_ow {a : Ar} {Y : Ax} {p : Nat} (h : AOff a Y p) (v : Int) : AOff ⟨a.sl, a.st, v, a.cap, a.dl, a.dir, a.ep, a.ck, a.ni⟩ Y p := ⟨h.o1, h.os, h.o2, h.o3, h.o4⟩
theorem rowncopy {w w1 w4 : World} {p r : Nat} {a : Ar} {Y : Ax} {v' : Value} (H0 : Ci12 w p r a Y w1) (h0 : 0 < a.sl.length) (hown : w4.ownsRow w1.heap.size 88 9 v' (0 + a.sl.length) ([] ++ qcs Y.q)) (hg : w1.grownBy w4 none) :
    ∃ Y1 b, v' = .slice Y1.A a.sl.length Y1.c ∧ Cb12 w p r b a Y1 (w4.setCell ⟨p, 0, none⟩ (.slice Y1.A a.sl.length Y1.c)) ∧ (∀ p0, p0 < w.heap.size → AOff a Y p0 → AOff a Y1 p0) ∧ Ci12 w p r a Y w4 := by
  rw [Nat.zero_add, List.nil_append] at hown
  have hb := (Below.refl w1.heap.size w1).grown hg (Nat.le_refl _) (fun k hk => by cases hk)
  obtain ⟨b, cap, rfl, h1, h2, h3, h4⟩ := own_rb hown h0
  have hs := H0.bel.size
  exact ⟨⟨some ⟨b, 0, none⟩, cap, Y.q, Y.A2, Y.c2, Y.A3, Y.c3, Y.D⟩, b, rfl, H0.cb hb h4 h1 ⟨h2, h3⟩, fun p0 hp ho => ⟨fun _ x hx => by cases hx; show b ≠ p0; omega, ho.os, ho.o2, ho.o3, ho.o4⟩, H0.below hb⟩
set_option maxHeartbeats 8000000 in
set_option maxRecDepth 20000 in
theorem rown_any (a : Ar) (Y : Ax) (n : Nat) (v : Int) (w : World) (har : AR w w.heap.size a Y) (hn : n ≤ a.sl.length) (hf : a.sl.length ≤ 1000) : Calls Try.prog 84 #[av a Y, .int .i64 (n : Int), .int .i64 v] w (RA12 w a Y (a.setOwn n v)) := by
  obtain ⟨p, hp⟩ : ∃ p, p = w.heap.size := ⟨_, rfl⟩
  obtain ⟨r, hr⟩ : ∃ r, r = w.heap.size + 1 := ⟨_, rfl⟩
  have H0 := Lib.hid (show Ci12 w p r a Y _ from by rw [hr, hp]; exact Ci12.start har)
  have HPP := Lib.hid (And.intro hp hr)
  obtain ⟨TA, hTA⟩ : ∃ A, A = a.setOwn n v := ⟨_, rfl⟩
  rw [← hTA]
  by_cases hl : n = a.sl.length
  · have HTA := Lib.hid (show TA = ⟨a.sl, a.st, v, a.cap, a.dl, a.dir, a.ep, a.ck, a.ni⟩ from by rw [hTA]; exact if_pos hl)
    have hb : ((n : Int) == (a.sl.length : Int)) = true := by simp [hl]
    clear hp hr har hn hf hTA hl
    go_enter Try.func84, Try.ntmps84
    go_upto_region 1 with (fail)
    rw [← HPP.out.2, ← HPP.out.1]
    generalize ((w.alloc (.cells #[.slice Y.A a.sl.length Y.c, .slice Y.A2 a.st.length Y.c2, .int .i64 a.ow, .int .i64 a.cap, .slice Y.A3 a.dl.length Y.c3, .int .i64 a.dir.vn, .slice Y.D.A a.dir.l.length Y.D.c, .slice Y.D.A2 a.dir.F.length Y.D.c2, .int .i64 a.ep, .int .i64 a.ck, .int .i64 a.ni] 36)).alloc (.cells #[.slice none 0 0, .slice none 0 0, .int .i64 0, .int .i64 0, .slice none 0 0, .int .i64 0, .slice none 0 0, .slice none 0 0, .int .i64 0, .int .i64 0, .int .i64 0] 36)) = w1 at *
    obtain ⟨y0, y1, y2, y3, y4, y5, y6, y7, y8, y9, y10⟩ := H0.out.pb.k
    have yl := H0.out.pb.lt
    obtain ⟨f0, f1, f2, f3, f4, f5, f6, f7, f8, f9, f10⟩ := H0.out.pb.free
    go_upto_region 3 with (fail)
    clear y0 y1 y2 y3 y4 y5 y6 y7 y8 y9 y10 yl f0 f1 f2 f3 f4 f5 f6 f7 f8 f9 f10
    have HO := Lib.hid (H0.out.ar.offs H0.out.ne.1)
    have HR := Lib.hid (H0.out.ar.offs (show w.heap.size ≤ r by have := H0.out.ne; omega))
    have HAR := Lib.hid (show AR (w1.setCell ⟨p, 2, none⟩ (.int .i64 v)) (w1.setCell ⟨p, 2, none⟩ (.int .i64 v)).heap.size TA Y from by rw [HTA.out]; exact (ar_ow ((H0.out.ar.more H0.out.bel.size).offp (q := ⟨p, 2, none⟩) HO.out (.int .i64 v)) v).more (by simp))
    have HQ := Lib.hid (show QB (w1.setCell ⟨p, 2, none⟩ (.int .i64 v)) p TA Y from by rw [HTA.out]; exact H0.out.pb.setOw v)
    have HRB := Lib.hid (H0.out.rb.other (x := ⟨p, 2, none⟩) (show p ≠ r by have := H0.out.ne; omega) (.int .i64 v))
    have HB := Lib.hid (H0.out.bel.setCell (p := ⟨p, 2, none⟩) H0.out.ne.1 (.int .i64 v))
    have HNE := Lib.hid H0.out.ne
    clear H0
    generalize (w1.setCell ⟨p, 2, none⟩ (.int .i64 v)) = w2 at *
    have HF := Lib.hid (ra_out (a := a) (Y := Y) (show w.heap.size ≤ r by have := HNE.out; omega) HB.out HAR.out (by rw [HTA.out]; exact aoff_ow HR.out v) (fun p0 hp ho => by rw [HTA.out]; exact aoff_ow ho v))
    obtain ⟨y0, y1, y2, y3, y4, y5, y6, y7, y8, y9, y10⟩ := HQ.out.k
    have yl := HQ.out.lt
    obtain ⟨r0, r1, r2, r3, r4, r5, r6, r7, r8, r9, r10⟩ := HRB.out.k
    have rl := HRB.out.lt
    obtain ⟨g0, g1, g2, g3, g4, g5, g6, g7, g8, g9, g10⟩ := HRB.out.free
    have npr : ¬ p = r := by have := HNE.out; omega
    have nrp : ¬ r = p := fun e => npr e.symm
    clear HO HR HAR HQ HRB HB
    go_wp2
    exact bodyPost_ret (v := av TA Y) (by simp only [results, Try.results84]; go_simp <;> rfl) rfl HF.out
  · have hlt : n < a.sl.length := by omega
    have HTA := Lib.hid hTA
    have hb : ((n : Int) == (a.sl.length : Int)) = false := beq_eq_false_iff_ne.2 (by omega)
    obtain ⟨i0, hi0, hz0⟩ := Option.map_eq_some_iff.1 info_slc
    simp only [Prod.mk.injEq] at hz0
    have HI := Lib.hid hi0
    have HZ := Lib.hid hz0
    have HN := Lib.hid (And.intro hlt hf)
    clear hp hr har hn hf hTA hi0 hz0 hlt
    go_enter Try.func84, Try.ntmps84
    go_upto_region 1 with (fail)
    rw [← HPP.out.2, ← HPP.out.1]
    generalize ((w.alloc (.cells #[.slice Y.A a.sl.length Y.c, .slice Y.A2 a.st.length Y.c2, .int .i64 a.ow, .int .i64 a.cap, .slice Y.A3 a.dl.length Y.c3, .int .i64 a.dir.vn, .slice Y.D.A a.dir.l.length Y.D.c, .slice Y.D.A2 a.dir.F.length Y.D.c2, .int .i64 a.ep, .int .i64 a.ck, .int .i64 a.ni] 36)).alloc (.cells #[.slice none 0 0, .slice none 0 0, .int .i64 0, .int .i64 0, .slice none 0 0, .int .i64 0, .slice none 0 0, .slice none 0 0, .int .i64 0, .int .i64 0, .int .i64 0] 36)) = w1 at *
    obtain ⟨y0, y1, y2, y3, y4, y5, y6, y7, y8, y9, y10⟩ := H0.out.pb.k
    have yl := H0.out.pb.lt
    obtain ⟨f0, f1, f2, f3, f4, f5, f6, f7, f8, f9, f10⟩ := H0.out.pb.free
    go_upto_region 5 with (at_builtin; refine wpList_append_rd _ rfl _ _ 25 rfl w1.heap.size 88 i0 _ 9 120 Try.underlying25 HI.out HZ.out.1 HZ.out.2.1 HZ.out.2.2 rfl (by omega) (.slice none 0 0) 0 [] rfl (World.ownsRow_nil _ _ _ _) w.heap.size Y.A a.sl.length Y.c (qcs Y.q) rfl H0.out.ar.ql.rd (qcs_one _) (by have := HN.out; unfold maxLen; omega) (by have := HN.out; omega) (Nat.le_refl _) ?_; intro v1 w4 hown hg _; obtain ⟨Y1, b, rfl, hcb, hao, hci⟩ := rowncopy H0.out (by have := HN.out; omega) hown hg; have HCB := Lib.hid hcb; have HAO := Lib.hid hao; have HCI := Lib.hid hci; clear hown hg hcb hao hci; obtain ⟨y0, y1, y2, y3, y4, y5, y6, y7, y8, y9, y10⟩ := HCI.out.pb.k; have yl := HCI.out.pb.lt; obtain ⟨f0, f1, f2, f3, f4, f5, f6, f7, f8, f9, f10⟩ := HCI.out.pb.free)
    clear y0 y1 y2 y3 y4 y5 y6 y7 y8 y9 y10 yl f0 f1 f2 f3 f4 f5 f6 f7 f8 f9 f10
    clear H0 HCI
    generalize (w4.setCell ⟨p, 0, none⟩ (.slice Y1.A a.sl.length Y1.c)) = w5 at *
    obtain ⟨c1, c2, c3⟩ := HCB.out.at_ (show n ≤ a.sl.length by have := HN.out; omega)
    obtain ⟨Y2, hcb, hao⟩ := HCB.out.own2 (show n ≤ a.sl.length by have := HN.out; omega) v
    rw [show ownP p b a.sl.length n = ⟨b, n * 9, none⟩ from if_neg hl] at c1 c2 c3 hcb
    rw [← HTA.out] at hcb hao
    have HCB2 := Lib.hid hcb
    have HAO2 := Lib.hid hao
    have hlt : n < a.sl.length := HN.out.1
    obtain ⟨y0, y1, y2, y3, y4, y5, y6, y7, y8, y9, y10⟩ := HCB.out.pb.k
    have yl := HCB.out.pb.lt
    rw [HCB.out.ea] at y0
    clear hcb hao hl
    go_upto_region 6 with (fail)
    clear y0 y1 y2 y3 y4 y5 y6 y7 y8 y9 y10 yl c1 c2 c3 HCB hlt
    generalize (w5.setCell ⟨b, n * 9, none⟩ (.int .i64 v)) = w6 at *
    have HF := Lib.hid (ra_out (a := a) (Y := Y) (show w.heap.size ≤ r by have := HCB2.out.ne; omega) HCB2.out.bel HCB2.out.ar HCB2.out.aoff.1 (fun p0 hp ho => HAO2.out p0 (HAO.out p0 hp ho)))
    obtain ⟨y0, y1, y2, y3, y4, y5, y6, y7, y8, y9, y10⟩ := HCB2.out.pb.k
    have yl := HCB2.out.pb.lt
    obtain ⟨f0, f1, f2, f3, f4, f5, f6, f7, f8, f9, f10⟩ := HCB2.out.pb.free
    obtain ⟨r0, r1, r2, r3, r4, r5, r6, r7, r8, r9, r10⟩ := HCB2.out.rb.k
    have rl := HCB2.out.rb.lt
    obtain ⟨g0, g1, g2, g3, g4, g5, g6, g7, g8, g9, g10⟩ := HCB2.out.rb.free
    have npr : ¬ p = r := by have := HCB2.out.ne; omega
    have nrp : ¬ r = p := fun e => npr e.symm
    clear HCB2
    go_wp2
    exact bodyPost_ret (v := av TA Y2) (by simp only [results, Try.results84]; go_simp <;> rfl) rfl HF.out
end Go.Proofs.Ytijpflljopckiaa
