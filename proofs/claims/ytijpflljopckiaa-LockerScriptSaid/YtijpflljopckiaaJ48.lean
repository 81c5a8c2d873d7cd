/- What is proved here: in the statements of layer 13, awake is true. -/
import Derived.Test.YtijpflljopckiaaJ42
import Derived.Test.YtijpflljopckiaaJ45
import Derived.Test.YtijpflljopckiaaJ40
import Derived.Test.YtijpflljopckiaaJ36
import Derived.Deep.DeepCutAuto
import Derived.Deep.RegionHeld3
namespace Go.Proofs.Ytijpflljopckiaa
open Go.RowKit
set_option linter.unusedVariables false

abbrev su3 : Su := ⟨3, 1, 1, 1, 1, 0, 1, 0⟩
theorem aw13_0 : suB su3 = true ∧ nwAE su3 = 0 ∧ nwE13 [0, 2] = 0 := by decide
/-- What awake's calls give. -/
structure Cw13 (A0 A1 A2 : Ar) : Prop where
  nw : ∀ W, Calls Try.prog 8 #[.agg #[.int .i64 3, .int .i64 1, .int .i64 1, .int .i64 1, .int .i64 1, .int .i64 0, .int .i64 1, .int .i64 0]] W (AE W A0 0)
  ln : ∀ A c W, Fl W W.heap.size (.slice A 2 c) [0, 2] → Calls Try.prog 18 #[.slice A 2 c] W (LE W ⟨[0, 2], 0, 0, 0, 0⟩ 0)
  s1 : ∀ Y A c W, AR W W.heap.size A0 Y → Fl W W.heap.size (.slice A 2 c) [0, 2] → Calls Try.prog 24 #[av A0 Y, .agg #[.slice A 2 c, .int .i64 0, .int .i64 0, .int .i64 0, .int .i64 0], .int .i64 1] W (SE13 W A1 ⟨[0, 2], 0, 1, 0, 0⟩ 0)
  s2 : ∀ Y A c W, AR W W.heap.size A1 Y → Fl W W.heap.size (.slice A 2 c) [0, 2] → Calls Try.prog 24 #[av A1 Y, .agg #[.slice A 2 c, .int .i64 0, .int .i64 1, .int .i64 0, .int .i64 0], .int .i64 1] W (SE13 W A2 ⟨[0, 2], 3, 2, 0, 0⟩ 0)
  fr : ∀ A c W, Fl W W.heap.size (.slice A 2 c) [0, 2] → Calls Try.prog 22 #[.agg #[.slice A 2 c, .int .i64 3, .int .i64 2, .int .i64 0, .int .i64 0]] W (LE W ⟨[0, 2], 4, 2, 0, 0⟩ 0)
  e : A2.sl.length = 3 ∧ (og A2.sl 2).ow = 1 ∧ (og A2.sl 1).ow = 0
theorem cw13 : ∃ A0 A1 A2, Cw13 A0 A1 A2 := by
  obtain ⟨hE, n, h0, h6, hca⟩ := ca_nw (suB_iff.1 aw13_0.1)
  have hn : n = 3 := by
    have e : nwA su3 = grA su3 3 3 1 := if_pos aw13_0.1
    have h1 := hca.sl
    rw [e, grA_sl] at h1
    exact h1.symm
  subst hn
  have hNW := fun W => anew_any su3 W
  generalize hA0 : nwA su3 = A0 at *
  rw [hE] at hNW
  have l1 := hca.sl
  have o0 := hca.ow 0 (by omega)
  have o1 := hca.ow 1 (by omega)
  have o2 := hca.ow 2 (by omega)
  have p1 := fun x hx => own_set13 (a := A0) (n := 0) (x := x) (v := 1) (by omega) hx
  have f1 := hca.fw.own 0 1
  generalize hA1 : A0.setOwn 0 1 = A1 at *
  have l2 : A1.sl.length = 3 := by rw [(p1 0 (by omega)).2, l1]
  have p2 := fun x hx => own_set13 (a := A1) (n := 2) (x := x) (v := 1) (by omega) hx
  generalize hA2 : A1.setOwn 2 1 = A2 at *
  have l3 : A2.sl.length = 3 := by rw [(p2 0 (by omega)).2, l2]
  have q2 : A1.own 2 = 0 := by rw [(p1 2 (by omega)).1, if_neg (by omega), o2]
  have hsm : ∀ ph hv : Int, 0 ≤ hv → hv ≤ 3 → (⟨[0, 2], ph, hv, 0, 0⟩ : Lk).sm := fun ph hv h1 h2 => ⟨⟨by show -9 ≤ hv; omega, by show hv ≤ 9; omega⟩, ⟨by show -9 ≤ (0 : Int); omega, by show (0 : Int) ≤ 1000000; omega⟩, ⟨by show -9 ≤ (0 : Int); omega, by show (0 : Int) ≤ 9; omega⟩, by show 2 ≤ 9; omega⟩
  refine ⟨A0, A1, A2, hNW, fun A c W h => ?_, fun Y A c W hr h => ?_, fun Y A c W hr h => ?_, fun A c W h => ?_, l3, ?_, ?_⟩
  · have g := jnew_any A c [0, 2] W h
    rw [show nwL13 [0, 2] = ⟨[0, 2], 0, 0, 0, 0⟩ from if_pos aw13_0.2.2, aw13_0.2.2] at g
    exact g
  · have g := jstep_any A0 Y ⟨[0, 2], 0, 0, 0, 0⟩ A c 1 W hr h hca.fw (hsm 0 0 (by omega) (by omega))
    obtain ⟨e1, e2, e3⟩ := st_acq (a := A0) (l := ⟨[0, 2], 0, 0, 0, 0⟩) (t := 1) (c := 0) rfl rfl (by decide) (by decide) (by omega) (by omega) (by omega)
    rw [e1, e2, e3, if_pos o0, hA1, decide_eq_true o0] at g
    exact g
  · have g := jstep_any A1 Y ⟨[0, 2], 0, 1, 0, 0⟩ A c 1 W hr h f1 (hsm 0 1 (by omega) (by omega))
    obtain ⟨e1, e2, e3⟩ := st_acq (a := A1) (l := ⟨[0, 2], 0, 1, 0, 0⟩) (t := 1) (c := 2) rfl rfl (by decide) (by decide) (by omega) (by omega) (by omega)
    rw [e1, e2, e3, if_pos q2, hA2, decide_eq_true q2] at g
    exact g
  · exact jfree_any ⟨[0, 2], 3, 2, 0, 0⟩ A c W h (by decide)
  · have h := (p2 2 (by omega)).1
    rw [if_pos rfl] at h
    unfold Ar.own at h
    rwa [if_neg (by omega)] at h
  · have h := (p2 1 (by omega)).1
    rw [if_neg (by omega), (p1 1 (by omega)).1, if_neg (by omega), o1] at h
    unfold Ar.own at h
    rwa [if_neg (by omega)] at h
/-- An arena and a locker in boxes of the call's own. -/
structure Aw13 (w : World) (p q : Nat) (a : Ar) (Y : Ax) (l : Lk) (A : Option Addr) (c : Nat) (W : World) : Prop where
  qb : QB W p a Y
  lb : LB W q l A c
  ar : AR W W.heap.size a Y
  ao : AOff a Y p ∧ AOff a Y q
  fl : Fl W W.heap.size (.slice A l.cs.length c) l.cs
  fo : OffB p l.cs.length A ∧ OffB q l.cs.length A
  ne : w.heap.size ≤ p ∧ p < q
  bel : Below w.heap.size w W
section
variable {w W W' : World} {p q : Nat} {a b : Ar} {Y Z : Ax} {l m : Lk} {A A' : Option Addr} {c c' : Nat}
theorem Aw13.below (h : Aw13 w p q a Y l A c W) (hb : Below W.heap.size W W') : Aw13 w p q a Y l A c W' := ⟨h.qb.up hb, h.lb.up hb, h.ar.up hb, h.ao, h.fl.up hb, h.fo, h.ne, h.bel.trans (hb.mono h.bel.size)⟩
theorem Aw13.start (h : Aw12 w p a Y W) (ho : AOff a Y p) (hf : Fl W' W'.heap.size (.slice A l.cs.length c) l.cs) (hn : Nw W.heap.size A) (hb : Below W.heap.size W W') : Aw13 w p W'.heap.size a Y l A c (W'.alloc (.cells #[.slice A l.cs.length c, .int .i64 l.ph, .int .i64 l.hv, .int .i64 l.tr, .int .i64 l.wt] 60)) := by
  have h' := h.below hb
  have hlt := h.qb.lt
  have hs := hb.size
  exact ⟨h'.qb.alloc _, LB.start W' l A c _, h'.ar.alloc _, ⟨ho, h'.ar.offs (Nat.le_refl _)⟩, hf.alloc2 _, ⟨offb_nw hn hlt, rd_off hf.rd (Nat.le_refl _)⟩, ⟨h.old, by omega⟩, h'.bel.alloc h'.bel.size _⟩
theorem Aw13.put (h : Aw13 w p q a Y l A c W) (hb : Below W.heap.size W W') (hn : Z.nw W.heap.size) (hr : AR W' W'.heap.size b Z) (hm : Nw W.heap.size A') (hf : Fl W' W'.heap.size (.slice A' m.cs.length c') m.cs) : Aw13 w p q b Z m A' c' (set5 (set11 W' p b Z) q m A' c') := by
  have h' := h.below hb
  have hq := h.lb.lt
  have hp := h.qb.lt
  have hne := h.ne
  exact ⟨(h'.qb.set b Z).set5 (by omega) m A' c', (h'.lb.set11 (by omega) b Z).set m A' c', ((hr.set11 (hn.off hp) b Z).set5 (hn.off hq) m A' c').more (by rw [set5_size, set11_size]; exact Nat.le_refl _), ⟨hn.off hp, hn.off hq⟩, ((hf.set11 (offb_nw hm hp) b Z).set5 (offb_nw hm hq) m A' c').more (by rw [set5_size, set11_size]; exact Nat.le_refl _), ⟨offb_nw hm hp, offb_nw hm hq⟩, h.ne, set5_below (set11_below h'.bel hne.1 b Z) (by omega) m A' c'⟩
theorem Aw13.putL (h : Aw13 w p q a Y l A c W) (hb : Below W.heap.size W W') (hm : Nw W.heap.size A') (hf : Fl W' W'.heap.size (.slice A' m.cs.length c') m.cs) : Aw13 w p q a Y m A' c' (set5 W' q m A' c') := by
  have h' := h.below hb
  have hq := h.lb.lt
  have hp := h.qb.lt
  have hne := h.ne
  exact ⟨h'.qb.set5 (by omega) m A' c', h'.lb.set m A' c', (h'.ar.set5 h.ao.2 m A' c').more (by rw [set5_size]; exact Nat.le_refl _), h.ao, (hf.set5 (offb_nw hm hq) m A' c').more (by rw [set5_size]; exact Nat.le_refl _), ⟨offb_nw hm hp, offb_nw hm hq⟩, h.ne, set5_below h'.bel (by omega) m A' c'⟩
end
theorem row02 (w : World) : Fl (w.alloc (.cells #[.int .i64 0, .int .i64 2] 3)) (w.alloc (.cells #[.int .i64 0, .int .i64 2] 3)).heap.size (.slice (some ⟨w.heap.size, 0, none⟩) 2 2) [0, 2] :=
  ⟨_, 2, rfl, Nat.le_refl _, by unfold maxLen; omega, (Rd.fresh w #[.int .i64 0, .int .i64 2] 3).more (by simp)⟩
set_option maxHeartbeats 8000000 in
set_option maxRecDepth 20000 in
theorem awake13_any (w : World) : Calls Try.prog 27 #[] w fun e w' => e = .returned (.bool true) ∧ Below w.heap.size w w' := by
  obtain ⟨A0, A1, A2, hc⟩ := cw13
  have HC := Lib.hid hc
  clear hc
  go_enter Try.func27, Try.ntmps27
  go_wp2_with fail
  refine (HC.out.nw _).mono ?_
  rintro e w1 ⟨Y, rfl, hn, hr, hb⟩
  have H1 := Lib.hid (Aw12.start (w := w) hb hr)
  have HO := Lib.hid (hr.offs (Nat.le_refl w1.heap.size))
  clear hn hr hb
  go_upto_region 2 with (fail)
  obtain ⟨p, hp⟩ : ∃ p, p = w1.heap.size := ⟨_, rfl⟩
  rw [← hp] at H1 HO ⊢
  clear hp
  generalize (w1.alloc (.cells #[.slice Y.A A0.sl.length Y.c, .slice Y.A2 A0.st.length Y.c2, .int .i64 A0.ow, .int .i64 A0.cap, .slice Y.A3 A0.dl.length Y.c3, .int .i64 A0.dir.vn, .slice Y.D.A A0.dir.l.length Y.D.c, .slice Y.D.A2 A0.dir.F.length Y.D.c2, .int .i64 A0.ep, .int .i64 A0.ck, .int .i64 A0.ni] 36)) = w2 at *
  have HRW := Lib.hid (row02 w2)
  have H1 := Lib.hid (H1.out.below ((Below.refl w2.heap.size w2).alloc (Nat.le_refl _) (.cells #[.int .i64 0, .int .i64 2] 3)))
  have HSZ := Lib.hid (show w2.heap.size ≤ (w2.alloc (.cells #[.int .i64 0, .int .i64 2] 3)).heap.size by simp)
  go_wp2_with fail
  generalize (w2.alloc (.cells #[.int .i64 0, .int .i64 2] 3)) = w3 at *
  refine (HC.out.ln _ _ _ HRW.out).mono ?_
  rintro e w4 ⟨A, c, rfl, hn, hl, hb⟩
  have H2 := Lib.hid (Aw13.start (l := ⟨[0, 2], 0, 0, 0, 0⟩) H1.out HO.out hl hn hb)
  clear hn hl hb H1 HO HRW
  go_upto_region 3 with (fail)
  obtain ⟨q, hq⟩ : ∃ p, p = w4.heap.size := ⟨_, rfl⟩
  rw [← hq] at H2 ⊢
  clear hq
  have H2 := Lib.hid (show Aw13 w p q A0 Y ⟨[0, 2], 0, 0, 0, 0⟩ A c (w4.alloc (.cells #[.slice A 2 c, .int .i64 0, .int .i64 0, .int .i64 0, .int .i64 0] 60)) from H2.out)
  generalize (w4.alloc (.cells #[.slice A 2 c, .int .i64 0, .int .i64 0, .int .i64 0, .int .i64 0] 60)) = w5 at *
  obtain ⟨y0, y1, y2, y3, y4, y5, y6, y7, y8, y9, y10⟩ := H2.out.qb.k
  have yl := H2.out.qb.lt
  obtain ⟨f0, f1, f2, f3, f4, f5, f6, f7, f8, f9, f10⟩ := H2.out.qb.free
  obtain ⟨l0, l1, l2, l3, l4⟩ := H2.out.lb.k
  have ll := H2.out.lb.lt
  obtain ⟨e0, e1, e2, e3, e4⟩ := H2.out.lb.free
  have npq : ¬ p = q := by have := H2.out.ne; omega
  have nqp : ¬ q = p := fun e => npq e.symm
  go_wp2_with fail
  clear y0 y1 y2 y3 y4 y5 y6 y7 y8 y9 y10 yl f0 f1 f2 f3 f4 f5 f6 f7 f8 f9 f10 l0 l1 l2 l3 l4 ll e0 e1 e2 e3 e4 npq nqp
  refine (HC.out.s1 _ _ _ _ H2.out.ar H2.out.fl).mono ?_
  rintro e w6 ⟨Z, A2', c2, rfl, hn, hm, hr, hf, hb⟩
  have H3 := Lib.hid (show Aw13 w p q A1 Z ⟨[0, 2], 0, 1, 0, 0⟩ A2' c2 ((((((((((((((((w6.setCell ⟨p, 0, none⟩ (.slice Z.A A1.sl.length Z.c)).setCell ⟨p, 1, none⟩ (.slice Z.A2 A1.st.length Z.c2)).setCell ⟨p, 2, none⟩ (.int .i64 A1.ow)).setCell ⟨p, 3, none⟩ (.int .i64 A1.cap)).setCell ⟨p, 4, none⟩ (.slice Z.A3 A1.dl.length Z.c3)).setCell ⟨p, 5, none⟩ (.int .i64 A1.dir.vn)).setCell ⟨p, 6, none⟩ (.slice Z.D.A A1.dir.l.length Z.D.c)).setCell ⟨p, 7, none⟩ (.slice Z.D.A2 A1.dir.F.length Z.D.c2)).setCell ⟨p, 8, none⟩ (.int .i64 A1.ep)).setCell ⟨p, 9, none⟩ (.int .i64 A1.ck)).setCell ⟨p, 10, none⟩ (.int .i64 A1.ni)).setCell ⟨q, 0, none⟩ (.slice A2' 2 c2)).setCell ⟨q, 1, none⟩ (.int .i64 0)).setCell ⟨q, 2, none⟩ (.int .i64 1)).setCell ⟨q, 3, none⟩ (.int .i64 0)).setCell ⟨q, 4, none⟩ (.int .i64 0)) from H2.out.put hb hn hr hm hf)
  have H2' := Lib.hid (H2.out.below hb)
  clear hn hm hr hf hb H2
  obtain ⟨y0, y1, y2, y3, y4, y5, y6, y7, y8, y9, y10⟩ := H2'.out.qb.k
  have yl := H2'.out.qb.lt
  obtain ⟨f0, f1, f2, f3, f4, f5, f6, f7, f8, f9, f10⟩ := H2'.out.qb.free
  obtain ⟨l0, l1, l2, l3, l4⟩ := H2'.out.lb.k
  have ll := H2'.out.lb.lt
  obtain ⟨e0, e1, e2, e3, e4⟩ := H2'.out.lb.free
  have npq : ¬ p = q := by have := H2'.out.ne; omega
  have nqp : ¬ q = p := fun e => npq e.symm
  go_upto_region 4 with (fail)
  clear y0 y1 y2 y3 y4 y5 y6 y7 y8 y9 y10 yl f0 f1 f2 f3 f4 f5 f6 f7 f8 f9 f10 l0 l1 l2 l3 l4 ll e0 e1 e2 e3 e4 npq nqp
  clear H2'
  generalize ((((((((((((((((w6.setCell ⟨p, 0, none⟩ (.slice Z.A A1.sl.length Z.c)).setCell ⟨p, 1, none⟩ (.slice Z.A2 A1.st.length Z.c2)).setCell ⟨p, 2, none⟩ (.int .i64 A1.ow)).setCell ⟨p, 3, none⟩ (.int .i64 A1.cap)).setCell ⟨p, 4, none⟩ (.slice Z.A3 A1.dl.length Z.c3)).setCell ⟨p, 5, none⟩ (.int .i64 A1.dir.vn)).setCell ⟨p, 6, none⟩ (.slice Z.D.A A1.dir.l.length Z.D.c)).setCell ⟨p, 7, none⟩ (.slice Z.D.A2 A1.dir.F.length Z.D.c2)).setCell ⟨p, 8, none⟩ (.int .i64 A1.ep)).setCell ⟨p, 9, none⟩ (.int .i64 A1.ck)).setCell ⟨p, 10, none⟩ (.int .i64 A1.ni)).setCell ⟨q, 0, none⟩ (.slice A2' 2 c2)).setCell ⟨q, 1, none⟩ (.int .i64 0)).setCell ⟨q, 2, none⟩ (.int .i64 1)).setCell ⟨q, 3, none⟩ (.int .i64 0)).setCell ⟨q, 4, none⟩ (.int .i64 0)) = w7 at *
  obtain ⟨y0, y1, y2, y3, y4, y5, y6, y7, y8, y9, y10⟩ := H3.out.qb.k
  have yl := H3.out.qb.lt
  obtain ⟨f0, f1, f2, f3, f4, f5, f6, f7, f8, f9, f10⟩ := H3.out.qb.free
  obtain ⟨l0, l1, l2, l3, l4⟩ := H3.out.lb.k
  have ll := H3.out.lb.lt
  obtain ⟨e0, e1, e2, e3, e4⟩ := H3.out.lb.free
  have npq : ¬ p = q := by have := H3.out.ne; omega
  have nqp : ¬ q = p := fun e => npq e.symm
  go_wp2_with fail
  clear y0 y1 y2 y3 y4 y5 y6 y7 y8 y9 y10 yl f0 f1 f2 f3 f4 f5 f6 f7 f8 f9 f10 l0 l1 l2 l3 l4 ll e0 e1 e2 e3 e4 npq nqp
  refine (HC.out.s2 _ _ _ _ H3.out.ar H3.out.fl).mono ?_
  rintro e w8 ⟨V, A3', c3, rfl, hn, hm, hr, hf, hb⟩
  have H4 := Lib.hid (show Aw13 w p q A2 V ⟨[0, 2], 3, 2, 0, 0⟩ A3' c3 ((((((((((((((((w8.setCell ⟨p, 0, none⟩ (.slice V.A A2.sl.length V.c)).setCell ⟨p, 1, none⟩ (.slice V.A2 A2.st.length V.c2)).setCell ⟨p, 2, none⟩ (.int .i64 A2.ow)).setCell ⟨p, 3, none⟩ (.int .i64 A2.cap)).setCell ⟨p, 4, none⟩ (.slice V.A3 A2.dl.length V.c3)).setCell ⟨p, 5, none⟩ (.int .i64 A2.dir.vn)).setCell ⟨p, 6, none⟩ (.slice V.D.A A2.dir.l.length V.D.c)).setCell ⟨p, 7, none⟩ (.slice V.D.A2 A2.dir.F.length V.D.c2)).setCell ⟨p, 8, none⟩ (.int .i64 A2.ep)).setCell ⟨p, 9, none⟩ (.int .i64 A2.ck)).setCell ⟨p, 10, none⟩ (.int .i64 A2.ni)).setCell ⟨q, 0, none⟩ (.slice A3' 2 c3)).setCell ⟨q, 1, none⟩ (.int .i64 3)).setCell ⟨q, 2, none⟩ (.int .i64 2)).setCell ⟨q, 3, none⟩ (.int .i64 0)).setCell ⟨q, 4, none⟩ (.int .i64 0)) from H3.out.put hb hn hr hm hf)
  have H3' := Lib.hid (H3.out.below hb)
  clear hn hm hr hf hb H3
  obtain ⟨y0, y1, y2, y3, y4, y5, y6, y7, y8, y9, y10⟩ := H3'.out.qb.k
  have yl := H3'.out.qb.lt
  obtain ⟨f0, f1, f2, f3, f4, f5, f6, f7, f8, f9, f10⟩ := H3'.out.qb.free
  obtain ⟨l0, l1, l2, l3, l4⟩ := H3'.out.lb.k
  have ll := H3'.out.lb.lt
  obtain ⟨e0, e1, e2, e3, e4⟩ := H3'.out.lb.free
  have npq : ¬ p = q := by have := H3'.out.ne; omega
  have nqp : ¬ q = p := fun e => npq e.symm
  go_upto_region 5 with (fail)
  clear y0 y1 y2 y3 y4 y5 y6 y7 y8 y9 y10 yl f0 f1 f2 f3 f4 f5 f6 f7 f8 f9 f10 l0 l1 l2 l3 l4 ll e0 e1 e2 e3 e4 npq nqp
  clear H3'
  generalize ((((((((((((((((w8.setCell ⟨p, 0, none⟩ (.slice V.A A2.sl.length V.c)).setCell ⟨p, 1, none⟩ (.slice V.A2 A2.st.length V.c2)).setCell ⟨p, 2, none⟩ (.int .i64 A2.ow)).setCell ⟨p, 3, none⟩ (.int .i64 A2.cap)).setCell ⟨p, 4, none⟩ (.slice V.A3 A2.dl.length V.c3)).setCell ⟨p, 5, none⟩ (.int .i64 A2.dir.vn)).setCell ⟨p, 6, none⟩ (.slice V.D.A A2.dir.l.length V.D.c)).setCell ⟨p, 7, none⟩ (.slice V.D.A2 A2.dir.F.length V.D.c2)).setCell ⟨p, 8, none⟩ (.int .i64 A2.ep)).setCell ⟨p, 9, none⟩ (.int .i64 A2.ck)).setCell ⟨p, 10, none⟩ (.int .i64 A2.ni)).setCell ⟨q, 0, none⟩ (.slice A3' 2 c3)).setCell ⟨q, 1, none⟩ (.int .i64 3)).setCell ⟨q, 2, none⟩ (.int .i64 2)).setCell ⟨q, 3, none⟩ (.int .i64 0)).setCell ⟨q, 4, none⟩ (.int .i64 0)) = w9 at *
  obtain ⟨y0, y1, y2, y3, y4, y5, y6, y7, y8, y9, y10⟩ := H4.out.qb.k
  have yl := H4.out.qb.lt
  obtain ⟨f0, f1, f2, f3, f4, f5, f6, f7, f8, f9, f10⟩ := H4.out.qb.free
  obtain ⟨l0, l1, l2, l3, l4⟩ := H4.out.lb.k
  have ll := H4.out.lb.lt
  obtain ⟨e0, e1, e2, e3, e4⟩ := H4.out.lb.free
  have npq : ¬ p = q := by have := H4.out.ne; omega
  have nqp : ¬ q = p := fun e => npq e.symm
  go_wp2_with fail
  clear y0 y1 y2 y3 y4 y5 y6 y7 y8 y9 y10 yl f0 f1 f2 f3 f4 f5 f6 f7 f8 f9 f10 l0 l1 l2 l3 l4 ll e0 e1 e2 e3 e4 npq nqp
  refine (HC.out.fr _ _ _ H4.out.fl).mono ?_
  rintro e w10 ⟨A4', c4, rfl, hm, hf, hb⟩
  have H5 := Lib.hid (show Aw13 w p q A2 V ⟨[0, 2], 4, 2, 0, 0⟩ A4' c4 (((((w10.setCell ⟨q, 0, none⟩ (.slice A4' 2 c4)).setCell ⟨q, 1, none⟩ (.int .i64 4)).setCell ⟨q, 2, none⟩ (.int .i64 2)).setCell ⟨q, 3, none⟩ (.int .i64 0)).setCell ⟨q, 4, none⟩ (.int .i64 0)) from H4.out.putL hb hm hf)
  have H4' := Lib.hid (H4.out.below hb)
  clear hm hf hb H4
  obtain ⟨y0, y1, y2, y3, y4, y5, y6, y7, y8, y9, y10⟩ := H4'.out.qb.k
  have yl := H4'.out.qb.lt
  obtain ⟨f0, f1, f2, f3, f4, f5, f6, f7, f8, f9, f10⟩ := H4'.out.qb.free
  obtain ⟨l0, l1, l2, l3, l4⟩ := H4'.out.lb.k
  have ll := H4'.out.lb.lt
  obtain ⟨e0, e1, e2, e3, e4⟩ := H4'.out.lb.free
  have npq : ¬ p = q := by have := H4'.out.ne; omega
  have nqp : ¬ q = p := fun e => npq e.symm
  go_upto_region 6 with (fail)
  clear y0 y1 y2 y3 y4 y5 y6 y7 y8 y9 y10 yl f0 f1 f2 f3 f4 f5 f6 f7 f8 f9 f10 l0 l1 l2 l3 l4 ll e0 e1 e2 e3 e4 npq nqp
  clear H4'
  generalize (((((w10.setCell ⟨q, 0, none⟩ (.slice A4' 2 c4)).setCell ⟨q, 1, none⟩ (.int .i64 4)).setCell ⟨q, 2, none⟩ (.int .i64 2)).setCell ⟨q, 3, none⟩ (.int .i64 0)).setCell ⟨q, 4, none⟩ (.int .i64 0)) = w11 at *
  have hle := HC.out.e
  obtain ⟨D2, b2, o2, hA2, hb2, h92, -, -⟩ := H5.out.ar.at2 (k := 2) (by rw [hle.1]; omega)
  obtain ⟨D1, b1, o1, hA1, hb1, h91, -, -⟩ := H5.out.ar.at2 (k := 1) (by rw [hle.1]; omega)
  rw [hA2] at hA1
  cases hA1
  have k2 : w11.cell? ⟨b2, o2 + 18, none⟩ = some (.int .i64 1) := by have := h92.1; rw [hle.2.1] at this; exact this
  have k1 : w11.cell? ⟨b2, o2 + 9, none⟩ = some (.int .i64 0) := by have := h91.1; rw [hle.2.2] at this; exact this
  obtain ⟨y0, y1, y2, y3, y4, y5, y6, y7, y8, y9, y10⟩ := H5.out.qb.k
  have yl := H5.out.qb.lt
  obtain ⟨f0, f1, f2, f3, f4, f5, f6, f7, f8, f9, f10⟩ := H5.out.qb.free
  obtain ⟨l0, l1, l2, l3, l4⟩ := H5.out.lb.k
  have ll := H5.out.lb.lt
  obtain ⟨e0, e1, e2, e3, e4⟩ := H5.out.lb.free
  have npq : ¬ p = q := by have := H5.out.ne; omega
  have nqp : ¬ q = p := fun e => npq e.symm
  rw [hle.1, hA2] at y0
  have HFIN := Lib.hid H5.out.bel
  clear hA2 hb2 hb1 h92 h91 hle H5 HC
  go_wp2
  go_ret
  exact ⟨rfl, HFIN.out⟩
end Go.Proofs.Ytijpflljopckiaa
