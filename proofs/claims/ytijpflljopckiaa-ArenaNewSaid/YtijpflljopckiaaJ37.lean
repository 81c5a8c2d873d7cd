/- What is proved here: in the statements of layer 12, awake is true; a setup among the arguments opened to its numbers, and shut again. -/
import Derived.Test.YtijpflljopckiaaJ36
import Derived.Deep.DeepCutAuto
import Derived.Deep.RegionHeld3
import Derived.Test.YtijpflljopckiaaJ27
import Derived.Lib.SmallJoins
import Derived.ChangeSame
namespace Go.Proofs.Ytijpflljopckiaa
open Go.RowKit
set_option linter.unusedVariables false

theorem ffS_len {d : Dd} {j : Int} {k : Nat} (h1 : 1 ≤ k) (h2 : k ≤ 12) : (ffS d j k).cs.length ≤ 1000 ∧ (ffS d j k).l.length ≤ 1000 ∧ (ffS d j k).h.length ≤ 1000 := by
  have hn : (nwC (k : Int)).length = k := by rw [(nwC_fil h1 h2 0 (by omega)).1, fil_len]
  unfold ffS
  split
  · unfold neS
    split
    · exact ⟨by show (nwC (k : Int)).length ≤ 1000; omega, Nat.zero_le _, Nat.zero_le _⟩
    · exact ⟨Nat.zero_le _, Nat.zero_le _, Nat.zero_le _⟩
  · exact ⟨by show (nwC (k : Int)).length ≤ 1000; omega, Nat.zero_le _, Nat.zero_le _⟩
theorem few_nw {s : Su} (hs : suB s = true) : (nwA s).Few := by
  have hok := suB_iff.1 hs
  unfold Su.Ok at hok
  have e : nwA s = grA s s.sl.toNat s.sl.toNat s.dd := if_pos hs
  rw [e]
  obtain ⟨n, hn⟩ : ∃ n : Nat, s.sl = n := ⟨s.sl.toNat, by omega⟩
  obtain ⟨m, hm⟩ : ∃ m : Nat, s.lv = m := ⟨s.lv.toNat, by omega⟩
  have hd : nwD s.sl s.lv = ⟨1, nwL m m, List.replicate n (-1)⟩ := by rw [hn, hm]; exact nwD_ok (by omega) (by omega) (by omega)
  refine ⟨by rw [grA_sl]; omega, by rw [grA_st]; omega, Nat.zero_le _, ?_, fun t ht => ?_⟩
  · show (nwD s.sl s.lv).l.length ≤ 1000 ∧ (nwD s.sl s.lv).F.length ≤ 1000
    rw [hd]
    exact ⟨by show (nwL m m).length ≤ 1000; rw [nwL_len]; omega, by show (List.replicate n (-1 : Int)).length ≤ 1000; rw [List.length_replicate]; omega⟩
  · have ht2 : t ∈ (List.range s.sl.toNat).map (nwSl s) := ht
    obtain ⟨i, -, rfl⟩ := List.mem_map.1 ht2
    exact ffS_len (by omega) (by omega)
theorem Ar.Few.own {a : Ar} (h : a.Few) (k : Nat) (v : Int) : (a.setOwn k v).Few := by
  unfold Ar.setOwn
  split
  · exact ⟨h.sl, h.st, h.dl, h.dr, h.sh⟩
  · refine ⟨by simpa using h.sl, h.st, h.dl, h.dr, fun s hs => ?_⟩
    rcases List.mem_or_eq_of_mem_set hs with h1 | rfl
    · exact h.sh s h1
    · by_cases hk : k < a.sl.length
      · have h1 := h.sh a.sl[k] (List.getElem_mem hk); rw [og_get hk]; exact h1
      · have e : og a.sl k = ⟨0, zS⟩ := by simp [og, List.getD, List.getElem?_eq_none (Nat.not_lt.1 hk)]
        rw [e]
        exact ⟨Nat.zero_le 1000, Nat.zero_le 1000, Nat.zero_le 1000⟩
abbrev su0 : Su := ⟨2, 1, 3, 1, 1, 0, 1, 0⟩
theorem aw_0 : suB su0 = true ∧ nwAE su0 = 0 := by decide
theorem aw_1 : (nwA su0).sl.length = 2 ∧ (nwA su0).own 0 = 0 := by
  have e : nwA su0 = grA su0 2 2 1 := if_pos aw_0.1
  rw [e]
  refine ⟨by rw [grA_sl], ?_⟩
  unfold Ar.own
  rw [grA_sl, if_neg (by decide)]
  rfl
theorem aw_2 : lkE 2 0 1 = 0 ∧ lkE 2 0 2 = 0 := by decide
theorem aw_3 : tlB (nwA su0) 0 1 = true ∧ tlA (nwA su0) 0 1 = (nwA su0).setOwn 0 1 ∧ ((nwA su0).setOwn 0 1).sl.length = 2 ∧ (og ((nwA su0).setOwn 0 1).sl 0).ow = 1 ∧ tlB ((nwA su0).setOwn 0 1) 0 2 = false := by
  have h1 := aw_1
  have h2 := aw_2
  have e : (nwA su0).setOwn 0 1 = ⟨(nwA su0).sl.set 0 ⟨1, (og (nwA su0).sl 0).sh⟩, (nwA su0).st, (nwA su0).ow, (nwA su0).cap, (nwA su0).dl, (nwA su0).dir, (nwA su0).ep, (nwA su0).ck, (nwA su0).ni⟩ := if_neg (by rw [h1.1]; decide)
  have hl : ((nwA su0).setOwn 0 1).sl.length = 2 := by rw [e]; simp [h1.1]
  have ho : (og ((nwA su0).setOwn 0 1).sl 0).ow = 1 := by
    rw [og_get (by rw [hl]; decide)]
    simp only [e]
    rw [List.getElem_set_self]
  refine ⟨?_, ?_, hl, ho, ?_⟩
  · unfold tlB
    rw [h1.1]
    exact decide_eq_true ⟨h2.1, h1.2⟩
  · unfold tlA
    rw [h1.1, if_pos h2.1]
    show (nwA su0).setOwn 0 (if (nwA su0).own 0 = 0 then 1 else (nwA su0).own 0) = _
    rw [if_pos h1.2]
  · unfold tlB
    rw [hl]
    refine decide_eq_false (fun h => ?_)
    have h3 : ((nwA su0).setOwn 0 1).own 0 = 0 := h.2
    unfold Ar.own at h3
    rw [hl, if_neg (by decide), ho] at h3
    exact absurd h3 (by decide)
/-- An arena in a box of the call's own. -/
structure Aw12 (w : World) (p : Nat) (a : Ar) (Y : Ax) (W : World) : Prop where
  qb : QB W p a Y
  ar : AR W W.heap.size a Y
  bel : Below w.heap.size w W
  old : w.heap.size ≤ p
section
variable {w W W' : World} {p : Nat} {a a' : Ar} {Y Z : Ax}
theorem Aw12.below (h : Aw12 w p a Y W) (hb : Below W.heap.size W W') : Aw12 w p a Y W' := ⟨h.qb.up hb, h.ar.up hb, h.bel.trans (hb.mono h.bel.size), h.old⟩
theorem Aw12.start (hb : Below w.heap.size w W) (h : AR W W.heap.size a Y) : Aw12 w W.heap.size a Y (W.alloc (.cells #[.slice Y.A a.sl.length Y.c, .slice Y.A2 a.st.length Y.c2, .int .i64 a.ow, .int .i64 a.cap, .slice Y.A3 a.dl.length Y.c3, .int .i64 a.dir.vn, .slice Y.D.A a.dir.l.length Y.D.c, .slice Y.D.A2 a.dir.F.length Y.D.c2, .int .i64 a.ep, .int .i64 a.ck, .int .i64 a.ni] 36)) :=
  ⟨QB.start W a Y _, h.alloc _, hb.alloc hb.size _, hb.size⟩
theorem Aw12.put (h : Aw12 w p a Y W) (hb : Below W.heap.size W W') (hn : Z.nw W.heap.size) (hr : AR W' W'.heap.size a' Z) : Aw12 w p a' Z (set11 W' p a' Z) :=
  have h' := h.below hb
  ⟨h'.qb.set a' Z, (hr.set11 (hn.off h.qb.lt) a' Z).more (by rw [set11_size]; exact Nat.le_refl _), set11_below h'.bel h.old a' Z, h.old⟩
end
set_option maxHeartbeats 8000000 in
set_option maxRecDepth 20000 in
theorem awake12_any (w : World) : Calls Try.prog 31 #[] w fun e w' => e = .returned (.bool true) ∧ Below w.heap.size w w' := by
  obtain ⟨A0, hA0⟩ : ∃ A, A = nwA su0 := ⟨_, rfl⟩
  obtain ⟨A1, hA1⟩ : ∃ A, A = (nwA su0).setOwn 0 1 := ⟨_, rfl⟩
  obtain ⟨A2, hA2⟩ : ∃ A, A = tlA A1 0 2 := ⟨_, rfl⟩
  have HF0 := Lib.hid (show A0.Few from by rw [hA0]; exact few_nw aw_0.1)
  have HF1 := Lib.hid (show A1.Few from by rw [hA1]; exact (few_nw aw_0.1).own 0 1)
  have HN := Lib.hid (fun W => show Calls Try.prog 8 #[.agg #[.int .i64 2, .int .i64 1, .int .i64 3, .int .i64 1, .int .i64 1, .int .i64 0, .int .i64 1, .int .i64 0]] W (AE W A0 0) from by
    have h := anew_any su0 W
    rw [aw_0.2, ← hA0] at h
    exact h)
  have HT1 := Lib.hid (fun Y W (h : AR W W.heap.size A0 Y) => show Calls Try.prog 62 #[av A0 Y, .int .i64 0, .int .i64 1] W (A3P W A1 true 0) from by
    have h1 := atrylock_any A0 Y 0 1 W h HF0.out
    rw [hA0, aw_3.1, aw_3.2.1, aw_1.1, aw_2.1, ← hA1, ← hA0] at h1
    exact h1)
  have HT2 := Lib.hid (fun Y W (h : AR W W.heap.size A1 Y) => show Calls Try.prog 62 #[av A1 Y, .int .i64 0, .int .i64 2] W (A3P W A2 false 0) from by
    have h1 := atrylock_any A1 Y 0 2 W h HF1.out
    rw [← hA2, hA1, aw_3.2.2.2.2, aw_3.2.2.1, aw_2.2, ← hA1] at h1
    exact h1)
  have HLN := Lib.hid (show A1.sl.length = 2 ∧ (og A1.sl 0).ow = 1 from by rw [hA1]; exact ⟨aw_3.2.2.1, aw_3.2.2.2.1⟩)
  clear hA0 hA1 hA2
  go_enter Try.func31, Try.ntmps31
  go_wp2_with fail
  refine (HN.out _).mono ?_
  rintro e w1 ⟨Y, rfl, hn, hr, hb⟩
  have H1 := Lib.hid (Aw12.start (w := w) hb hr)
  clear hn hr hb HN
  go_upto_region 2 with (fail)
  obtain ⟨p, hp⟩ : ∃ p, p = w1.heap.size := ⟨_, rfl⟩
  rw [← hp] at H1 ⊢
  clear hp
  generalize w1.alloc (.cells #[.slice Y.A A0.sl.length Y.c, .slice Y.A2 A0.st.length Y.c2, .int .i64 A0.ow, .int .i64 A0.cap, .slice Y.A3 A0.dl.length Y.c3, .int .i64 A0.dir.vn, .slice Y.D.A A0.dir.l.length Y.D.c, .slice Y.D.A2 A0.dir.F.length Y.D.c2, .int .i64 A0.ep, .int .i64 A0.ck, .int .i64 A0.ni] 36) = w2 at *
  obtain ⟨y0, y1, y2, y3, y4, y5, y6, y7, y8, y9, y10⟩ := H1.out.qb.k
  have yl := H1.out.qb.lt
  go_wp2_with fail
  clear y0 y1 y2 y3 y4 y5 y6 y7 y8 y9 y10 yl
  refine (HT1.out _ _ H1.out.ar).mono ?_
  rintro e w3 ⟨Z, rfl, hn, hr, hb⟩
  have H2 := Lib.hid (show Aw12 w p A1 Z (((((((((((w3.setCell ⟨p, 0, none⟩ (.slice Z.A A1.sl.length Z.c)).setCell ⟨p, 1, none⟩ (.slice Z.A2 A1.st.length Z.c2)).setCell ⟨p, 2, none⟩ (.int .i64 A1.ow)).setCell ⟨p, 3, none⟩ (.int .i64 A1.cap)).setCell ⟨p, 4, none⟩ (.slice Z.A3 A1.dl.length Z.c3)).setCell ⟨p, 5, none⟩ (.int .i64 A1.dir.vn)).setCell ⟨p, 6, none⟩ (.slice Z.D.A A1.dir.l.length Z.D.c)).setCell ⟨p, 7, none⟩ (.slice Z.D.A2 A1.dir.F.length Z.D.c2)).setCell ⟨p, 8, none⟩ (.int .i64 A1.ep)).setCell ⟨p, 9, none⟩ (.int .i64 A1.ck)).setCell ⟨p, 10, none⟩ (.int .i64 A1.ni)) from H1.out.put hb hn hr)
  have H2' := Lib.hid (H1.out.below hb)
  clear hn hr hb HT1 H1
  obtain ⟨y0, y1, y2, y3, y4, y5, y6, y7, y8, y9, y10⟩ := H2'.out.qb.k
  have yl := H2'.out.qb.lt
  obtain ⟨f0, f1, f2, f3, f4, f5, f6, f7, f8, f9, f10⟩ := H2'.out.qb.free
  go_upto_region 3 with (fail)
  clear y0 y1 y2 y3 y4 y5 y6 y7 y8 y9 y10 yl f0 f1 f2 f3 f4 f5 f6 f7 f8 f9 f10 H2'
  generalize ((((((((((w3.setCell ⟨p, 0, none⟩ (.slice Z.A A1.sl.length Z.c)).setCell ⟨p, 1, none⟩ (.slice Z.A2 A1.st.length Z.c2)).setCell ⟨p, 2, none⟩ (.int .i64 A1.ow)).setCell ⟨p, 3, none⟩ (.int .i64 A1.cap)).setCell ⟨p, 4, none⟩ (.slice Z.A3 A1.dl.length Z.c3)).setCell ⟨p, 5, none⟩ (.int .i64 A1.dir.vn)).setCell ⟨p, 6, none⟩ (.slice Z.D.A A1.dir.l.length Z.D.c)).setCell ⟨p, 7, none⟩ (.slice Z.D.A2 A1.dir.F.length Z.D.c2)).setCell ⟨p, 8, none⟩ (.int .i64 A1.ep)).setCell ⟨p, 9, none⟩ (.int .i64 A1.ck)).setCell ⟨p, 10, none⟩ (.int .i64 A1.ni) = w4 at *
  obtain ⟨y0, y1, y2, y3, y4, y5, y6, y7, y8, y9, y10⟩ := H2.out.qb.k
  have yl := H2.out.qb.lt
  go_wp2_with fail
  clear y0 y1 y2 y3 y4 y5 y6 y7 y8 y9 y10 yl
  refine (HT2.out _ _ H2.out.ar).mono ?_
  rintro e w5 ⟨V, rfl, hn, hr, hb⟩
  have H3 := Lib.hid ((H2.out.below hb).below ((Below.refl w5.heap.size w5).alloc (Nat.le_refl _) (.cells #[.slice V.A A2.sl.length V.c, .slice V.A2 A2.st.length V.c2, .int .i64 A2.ow, .int .i64 A2.cap, .slice V.A3 A2.dl.length V.c3, .int .i64 A2.dir.vn, .slice V.D.A A2.dir.l.length V.D.c, .slice V.D.A2 A2.dir.F.length V.D.c2, .int .i64 A2.ep, .int .i64 A2.ck, .int .i64 A2.ni] 36)))
  clear hn hr hb HT2 H2
  go_upto_region 4 with (fail)
  generalize w5.heap.size = q at *
  generalize w5.alloc (.cells #[.slice V.A A2.sl.length V.c, .slice V.A2 A2.st.length V.c2, .int .i64 A2.ow, .int .i64 A2.cap, .slice V.A3 A2.dl.length V.c3, .int .i64 A2.dir.vn, .slice V.D.A A2.dir.l.length V.D.c, .slice V.D.A2 A2.dir.F.length V.D.c2, .int .i64 A2.ep, .int .i64 A2.ck, .int .i64 A2.ni] 36) = w6 at *
  obtain ⟨D, b, o, hA, hb, h9, -, -⟩ := H3.out.ar.at2 (k := 0) (by rw [HLN.out.1]; decide)
  have h0 : w6.cell? ⟨b, o, none⟩ = some (.int .i64 1) := by
    have := h9.1
    rw [HLN.out.2] at this
    simpa using this
  obtain ⟨y0, -⟩ := H3.out.qb.k
  rw [HLN.out.1, hA] at y0
  have yl := H3.out.qb.lt
  have HFIN := Lib.hid H3.out.bel
  clear hA hb h9 H3 HLN HF0 HF1
  go_wp2
  go_ret
  exact ⟨rfl, HFIN.out⟩
end Go.Proofs.Ytijpflljopckiaa
namespace Go.Proofs.Ytijpflljopckiaa
open Go.Joins Go.ChangeShapes Go.WideShapes Go.RowKit Go.Deep
set_option linter.unusedVariables false

section
variable {H : Type} {enc : TypeId × Value → H} {P : Program} {w : World} {base : Nat} {spare : Nat → Bool} {held : Bool}
theorem open_agg8 {r : Reach} {b0 : Nat} {t : TypeId} {f0 f1 f2 f3 f4 f5 f6 f7 : Field} {v : Value} {d : DataW H} {p : List MemPlace} (hs : P.underlying t = some (.struct #[f0, f1, f2, f3, f4, f5, f6, f7])) (hone : oneCellFields P #[f0, f1, f2, f3, f4, f5, f6, f7] = true) (hC : P.cellsOf t = 8)
    (hv : Value.okWide P w r b0 t v) (h : DataW.Trod enc P w base spare held t v d p) :
    ∃ (v0 v1 v2 v3 v4 v5 v6 v7 : Value) (y0 y1 y2 y3 y4 y5 y6 y7 : DataW H × List MemPlace) (n : Nat), v = .agg #[v0, v1, v2, v3, v4, v5, v6, v7] ∧ d = .agg [y0.1, y1.1, y2.1, y3.1, y4.1, y5.1, y6.1, y7.1] ∧ p = y0.2 ++ (y1.2 ++ (y2.2 ++ (y3.2 ++ (y4.2 ++ (y5.2 ++ (y6.2 ++ (y7.2))))))) ∧
      DataW.trod enc P w base spare held n f0.type [v0] = some y0 ∧ DataW.trod enc P w base spare held n f1.type [v1] = some y1 ∧ DataW.trod enc P w base spare held n f2.type [v2] = some y2 ∧ DataW.trod enc P w base spare held n f3.type [v3] = some y3 ∧ DataW.trod enc P w base spare held n f4.type [v4] = some y4 ∧ DataW.trod enc P w base spare held n f5.type [v5] = some y5 ∧ DataW.trod enc P w base spare held n f6.type [v6] = some y6 ∧ DataW.trod enc P w base spare held n f7.type [v7] = some y7 := by
  obtain ⟨cs, rfl, hsz⟩ := okWide_struct hs hv
  obtain ⟨l⟩ := cs
  match l, hsz.trans hC with
  | [c0, c1, c2, c3, c4, c5, c6, c7], _ =>
    obtain ⟨fuel, hf⟩ := h
    obtain ⟨xs, n, _, hx, _, hlen, hg⟩ := DataW.trod_struct hs hf
    obtain ⟨o0, k0⟩ := hone_of hone 0 f0 rfl
    obtain ⟨o1, k1⟩ := hone_of hone 1 f1 rfl
    obtain ⟨o2, k2⟩ := hone_of hone 2 f2 rfl
    obtain ⟨o3, k3⟩ := hone_of hone 3 f3 rfl
    obtain ⟨o4, k4⟩ := hone_of hone 4 f4 rfl
    obtain ⟨o5, k5⟩ := hone_of hone 5 f5 rfl
    obtain ⟨o6, k6⟩ := hone_of hone 6 f6 rfl
    obtain ⟨o7, k7⟩ := hone_of hone 7 f7 rfl
    match xs, hlen with
    | [y0, y1, y2, y3, y4, y5, y6, y7], _ =>
      simp only [Prod.mk.injEq] at hx
      exact ⟨c0, c1, c2, c3, c4, c5, c6, c7, y0, y1, y2, y3, y4, y5, y6, y7, n, rfl, by simpa using hx.1, by simpa using hx.2, by simpa [Value.cells, o0, k0] using hg 0 f0 rfl, by simpa [Value.cells, o1, k1] using hg 1 f1 rfl, by simpa [Value.cells, o2, k2] using hg 2 f2 rfl, by simpa [Value.cells, o3, k3] using hg 3 f3 rfl, by simpa [Value.cells, o4, k4] using hg 4 f4 rfl, by simpa [Value.cells, o5, k5] using hg 5 f5 rfl, by simpa [Value.cells, o6, k6] using hg 6 f6 rfl, by simpa [Value.cells, o7, k7] using hg 7 f7 rfl⟩

theorem shut_agg8 {t : TypeId} {f0 f1 f2 f3 f4 f5 f6 f7 : Field} {v0 v1 v2 v3 v4 v5 v6 v7 : Value} {y0 y1 y2 y3 y4 y5 y6 y7 : DataW H × List MemPlace} (hs : P.underlying t = some (.struct #[f0, f1, f2, f3, f4, f5, f6, f7])) (hone : oneCellFields P #[f0, f1, f2, f3, f4, f5, f6, f7] = true) (hC : P.cellsOf t = 8)
    (t0 : ∃ n, DataW.trod enc P w base spare held n f0.type [v0] = some y0) (t1 : ∃ n, DataW.trod enc P w base spare held n f1.type [v1] = some y1) (t2 : ∃ n, DataW.trod enc P w base spare held n f2.type [v2] = some y2) (t3 : ∃ n, DataW.trod enc P w base spare held n f3.type [v3] = some y3) (t4 : ∃ n, DataW.trod enc P w base spare held n f4.type [v4] = some y4) (t5 : ∃ n, DataW.trod enc P w base spare held n f5.type [v5] = some y5) (t6 : ∃ n, DataW.trod enc P w base spare held n f6.type [v6] = some y6) (t7 : ∃ n, DataW.trod enc P w base spare held n f7.type [v7] = some y7) :
    DataW.Trod enc P w base spare held t (.agg #[v0, v1, v2, v3, v4, v5, v6, v7]) (.agg [y0.1, y1.1, y2.1, y3.1, y4.1, y5.1, y6.1, y7.1]) (y0.2 ++ (y1.2 ++ (y2.2 ++ (y3.2 ++ (y4.2 ++ (y5.2 ++ (y6.2 ++ (y7.2)))))))) := by
  obtain ⟨n0, t0⟩ := t0
  obtain ⟨n1, t1⟩ := t1
  obtain ⟨n2, t2⟩ := t2
  obtain ⟨n3, t3⟩ := t3
  obtain ⟨n4, t4⟩ := t4
  obtain ⟨n5, t5⟩ := t5
  obtain ⟨n6, t6⟩ := t6
  obtain ⟨n7, t7⟩ := t7
  obtain ⟨o0, k0⟩ := hone_of hone 0 f0 rfl
  obtain ⟨o1, k1⟩ := hone_of hone 1 f1 rfl
  obtain ⟨o2, k2⟩ := hone_of hone 2 f2 rfl
  obtain ⟨o3, k3⟩ := hone_of hone 3 f3 rfl
  obtain ⟨o4, k4⟩ := hone_of hone 4 f4 rfl
  obtain ⟨o5, k5⟩ := hone_of hone 5 f5 rfl
  obtain ⟨o6, k6⟩ := hone_of hone 6 f6 rfl
  obtain ⟨o7, k7⟩ := hone_of hone 7 f7 rfl
  have s0 : DataW.trod enc P w base spare held (n0 + n1 + n2 + n3 + n4 + n5 + n6 + n7) f0.type ((([v0, v1, v2, v3, v4, v5, v6, v7] : List Value).drop f0.offset).take (P.cellsOf f0.type)) = some y0 := by simpa [o0, k0] using DataW.trod_le (show n0 ≤ n0 + n1 + n2 + n3 + n4 + n5 + n6 + n7 by omega) t0
  have s1 : DataW.trod enc P w base spare held (n0 + n1 + n2 + n3 + n4 + n5 + n6 + n7) f1.type ((([v0, v1, v2, v3, v4, v5, v6, v7] : List Value).drop f1.offset).take (P.cellsOf f1.type)) = some y1 := by simpa [o1, k1] using DataW.trod_le (show n1 ≤ n0 + n1 + n2 + n3 + n4 + n5 + n6 + n7 by omega) t1
  have s2 : DataW.trod enc P w base spare held (n0 + n1 + n2 + n3 + n4 + n5 + n6 + n7) f2.type ((([v0, v1, v2, v3, v4, v5, v6, v7] : List Value).drop f2.offset).take (P.cellsOf f2.type)) = some y2 := by simpa [o2, k2] using DataW.trod_le (show n2 ≤ n0 + n1 + n2 + n3 + n4 + n5 + n6 + n7 by omega) t2
  have s3 : DataW.trod enc P w base spare held (n0 + n1 + n2 + n3 + n4 + n5 + n6 + n7) f3.type ((([v0, v1, v2, v3, v4, v5, v6, v7] : List Value).drop f3.offset).take (P.cellsOf f3.type)) = some y3 := by simpa [o3, k3] using DataW.trod_le (show n3 ≤ n0 + n1 + n2 + n3 + n4 + n5 + n6 + n7 by omega) t3
  have s4 : DataW.trod enc P w base spare held (n0 + n1 + n2 + n3 + n4 + n5 + n6 + n7) f4.type ((([v0, v1, v2, v3, v4, v5, v6, v7] : List Value).drop f4.offset).take (P.cellsOf f4.type)) = some y4 := by simpa [o4, k4] using DataW.trod_le (show n4 ≤ n0 + n1 + n2 + n3 + n4 + n5 + n6 + n7 by omega) t4
  have s5 : DataW.trod enc P w base spare held (n0 + n1 + n2 + n3 + n4 + n5 + n6 + n7) f5.type ((([v0, v1, v2, v3, v4, v5, v6, v7] : List Value).drop f5.offset).take (P.cellsOf f5.type)) = some y5 := by simpa [o5, k5] using DataW.trod_le (show n5 ≤ n0 + n1 + n2 + n3 + n4 + n5 + n6 + n7 by omega) t5
  have s6 : DataW.trod enc P w base spare held (n0 + n1 + n2 + n3 + n4 + n5 + n6 + n7) f6.type ((([v0, v1, v2, v3, v4, v5, v6, v7] : List Value).drop f6.offset).take (P.cellsOf f6.type)) = some y6 := by simpa [o6, k6] using DataW.trod_le (show n6 ≤ n0 + n1 + n2 + n3 + n4 + n5 + n6 + n7 by omega) t6
  have s7 : DataW.trod enc P w base spare held (n0 + n1 + n2 + n3 + n4 + n5 + n6 + n7) f7.type ((([v0, v1, v2, v3, v4, v5, v6, v7] : List Value).drop f7.offset).take (P.cellsOf f7.type)) = some y7 := by simpa [o7, k7] using DataW.trod_le (show n7 ≤ n0 + n1 + n2 + n3 + n4 + n5 + n6 + n7 by omega) t7
  have := trod_struct_mk (enc := enc) (w := w) (base := base) (spare := spare) (held := held) (n := n0 + n1 + n2 + n3 + n4 + n5 + n6 + n7) (cs := [v0, v1, v2, v3, v4, v5, v6, v7]) (xs := [y0, y1, y2, y3, y4, y5, y6, y7]) hs (by simp [hC]) (by simp only [List.mapM_cons, List.mapM_nil, s0, s1, s2, s3, s4, s5, s6, s7]; rfl)
  exact ⟨_, by simpa [Value.cells] using this⟩
end
/-- The setup as data. -/
def Su.d {H : Type} (x : Su) : DataW H := .agg [.lit (.int .i64 x.sl), .lit (.int .i64 x.lv), .lit (.int .i64 x.cp), .lit (.int .i64 x.dd), .lit (.int .i64 x.lm), .lit (.int .i64 x.ck), .lit (.int .i64 x.ni), .lit (.int .i64 x.ep)]
/-- Its numbers are numbers of 64 bits. -/
def Su.wf (x : Su) : Prop := (Lit.int .i64 x.sl).wf = true ∧ (Lit.int .i64 x.lv).wf = true ∧ (Lit.int .i64 x.cp).wf = true ∧ (Lit.int .i64 x.dd).wf = true ∧ (Lit.int .i64 x.lm).wf = true ∧ (Lit.int .i64 x.ck).wf = true ∧ (Lit.int .i64 x.ni).wf = true ∧ (Lit.int .i64 x.ep).wf = true
theorem setup_cells : Try.prog.cellsOf 41 = 8 := by kernel_rfl

section
variable {H : Type} {enc : TypeId × Value → H} {w : World} {base : Nat} {spare : Nat → Bool} {held : Bool}
set_option maxRecDepth 20000 in
theorem open_setup {r : Reach} {b0 : Nat} {v : Value} {d : DataW H} {p : List MemPlace} (hv : Value.okWide Try.prog w r b0 41 v) (h : DataW.Trod enc Try.prog w base spare held 41 v d p) :
    ∃ x : Su, v = x.v ∧ d = x.d ∧ p = [] ∧ x.wf := by
  obtain ⟨c0, c1, c2, c3, c4, c5, c6, c7, y0, y1, y2, y3, y4, y5, y6, y7, n, rfl, rfl, rfl, hy0, hy1, hy2, hy3, hy4, hy5, hy6, hy7⟩ := open_agg8 Try.underlying41 (by kernel_rfl) setup_cells hv h
  obtain ⟨a0, e0, rfl, w0⟩ := DataW.trod_int Try.underlying3 hy0
  obtain ⟨a1, e1, rfl, w1⟩ := DataW.trod_int Try.underlying3 hy1
  obtain ⟨a2, e2, rfl, w2⟩ := DataW.trod_int Try.underlying3 hy2
  obtain ⟨a3, e3, rfl, w3⟩ := DataW.trod_int Try.underlying3 hy3
  obtain ⟨a4, e4, rfl, w4⟩ := DataW.trod_int Try.underlying3 hy4
  obtain ⟨a5, e5, rfl, w5⟩ := DataW.trod_int Try.underlying3 hy5
  obtain ⟨a6, e6, rfl, w6⟩ := DataW.trod_int Try.underlying3 hy6
  obtain ⟨a7, e7, rfl, w7⟩ := DataW.trod_int Try.underlying3 hy7
  simp at e0 e1 e2 e3 e4 e5 e6 e7
  subst e0 e1 e2 e3 e4 e5 e6 e7
  exact ⟨⟨a0, a1, a2, a3, a4, a5, a6, a7⟩, rfl, rfl, rfl, w0, w1, w2, w3, w4, w5, w6, w7⟩
set_option maxRecDepth 20000 in
theorem shut_setup (x : Su) (h : x.wf) : DataW.Trod enc Try.prog w base spare held 41 x.v x.d [] := by
  obtain ⟨w0, w1, w2, w3, w4, w5, w6, w7⟩ := h
  exact shut_agg8 (y0 := (.lit (.int .i64 x.sl), [])) (y1 := (.lit (.int .i64 x.lv), [])) (y2 := (.lit (.int .i64 x.cp), [])) (y3 := (.lit (.int .i64 x.dd), [])) (y4 := (.lit (.int .i64 x.lm), [])) (y5 := (.lit (.int .i64 x.ck), [])) (y6 := (.lit (.int .i64 x.ni), [])) (y7 := (.lit (.int .i64 x.ep), [])) Try.underlying41 (by kernel_rfl) setup_cells
    ⟨1, by simp [DataW.trod, Try.underlying3, w0]⟩ ⟨1, by simp [DataW.trod, Try.underlying3, w1]⟩ ⟨1, by simp [DataW.trod, Try.underlying3, w2]⟩ ⟨1, by simp [DataW.trod, Try.underlying3, w3]⟩ ⟨1, by simp [DataW.trod, Try.underlying3, w4]⟩ ⟨1, by simp [DataW.trod, Try.underlying3, w5]⟩ ⟨1, by simp [DataW.trod, Try.underlying3, w6]⟩ ⟨1, by simp [DataW.trod, Try.underlying3, w7]⟩
end
end Go.Proofs.Ytijpflljopckiaa
