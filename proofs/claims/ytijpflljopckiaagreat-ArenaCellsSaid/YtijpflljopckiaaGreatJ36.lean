/- What is proved here: in the statements of layer 12, awake is true; arena.isSlot, ownerOf, ownerError, slotError, isNumber by contracts; arena.StoreSlot by a task that has not locked the slot, arena.StoreStripe, by contracts; arena.StoreSlot (by a task that has not locked the slot) by a contract; arena.StoreStripe by a contract. -/
import Derived.Test.YtijpflljopckiaaGreatJ35
import Derived.Deep.DeepCutAuto
import Derived.Deep.RegionHeld3
import Derived.Test.YtijpflljopckiaaGreatJ28
namespace Go.Proofs.YtijpflljopckiaaGreat
open Go.RowKit
set_option linter.unusedVariables false

theorem ffS_len {d : Dd} {j : Int} {k : Nat} (h1 : 1 ≤ k) (h2 : k ≤ 12) : (ffS d j k).cs.length ≤ 1000 ∧ (ffS d j k).l.length ≤ 1000 ∧ (ffS d j k).h.length ≤ 1000 := by
  have hn : (nwC (k : Int)).length = k := by rw [(nwC_fil h1 h2 0 (by omega)).1, fil_len]
  unfold ffS
  split
  · unfold neS
    split
    · exact ⟨by show (nwC (k : Int)).length ≤ 1000; omega, Nat.zero_le _, Nat.zero_le _⟩
    · exact ⟨Nat.zero_le _, Nat.zero_le _, Nat.zero_le _⟩
  · exact ⟨by show (nwC (k : Int)).length ≤ 1000; omega, Nat.zero_le _, Nat.zero_le _⟩
theorem few_nw {s : Su} (hs : suB s = true) : (nwA s).Few := by
  have hok := suB_iff.1 hs
  unfold Su.Ok at hok
  have e : nwA s = grA s s.sl.toNat s.sl.toNat s.dd := if_pos hs
  rw [e]
  obtain ⟨n, hn⟩ : ∃ n : Nat, s.sl = n := ⟨s.sl.toNat, by omega⟩
  obtain ⟨m, hm⟩ : ∃ m : Nat, s.lv = m := ⟨s.lv.toNat, by omega⟩
  have hd : nwD s.sl s.lv = ⟨1, nwL m m, List.replicate n (-1)⟩ := by rw [hn, hm]; exact nwD_ok (by omega) (by omega) (by omega)
  refine ⟨by rw [grA_sl]; omega, by rw [grA_st]; omega, Nat.zero_le _, ?_, fun t ht => ?_⟩
  · show (nwD s.sl s.lv).l.length ≤ 1000 ∧ (nwD s.sl s.lv).F.length ≤ 1000
    rw [hd]
    exact ⟨by show (nwL m m).length ≤ 1000; rw [nwL_len]; omega, by show (List.replicate n (-1 : Int)).length ≤ 1000; rw [List.length_replicate]; omega⟩
  · have ht2 : t ∈ (List.range s.sl.toNat).map (nwSl s) := ht
    obtain ⟨i, -, rfl⟩ := List.mem_map.1 ht2
    exact ffS_len (by omega) (by omega)
theorem Ar.Few.own {a : Ar} (h : a.Few) (k : Nat) (v : Int) : (a.setOwn k v).Few := by
  unfold Ar.setOwn
  split
  · exact ⟨h.sl, h.st, h.dl, h.dr, h.sh⟩
  · refine ⟨by simpa using h.sl, h.st, h.dl, h.dr, fun s hs => ?_⟩
    rcases List.mem_or_eq_of_mem_set hs with h1 | rfl
    · exact h.sh s h1
    · by_cases hk : k < a.sl.length
      · have h1 := h.sh a.sl[k] (List.getElem_mem hk); rw [og_get hk]; exact h1
      · have e : og a.sl k = ⟨0, zS⟩ := by simp [og, List.getD, List.getElem?_eq_none (Nat.not_lt.1 hk)]
        rw [e]
        exact ⟨Nat.zero_le 1000, Nat.zero_le 1000, Nat.zero_le 1000⟩
abbrev su0 : Su := ⟨2, 1, 3, 1, 1, 0, 1, 0⟩
theorem aw_0 : suB su0 = true ∧ nwAE su0 = 0 := by decide
theorem aw_1 : (nwA su0).sl.length = 2 ∧ (nwA su0).own 0 = 0 := by
  have e : nwA su0 = grA su0 2 2 1 := if_pos aw_0.1
  rw [e]
  refine ⟨by rw [grA_sl], ?_⟩
  unfold Ar.own
  rw [grA_sl, if_neg (by decide)]
  rfl
theorem aw_2 : lkE 2 0 1 = 0 ∧ lkE 2 0 2 = 0 := by decide
theorem aw_3 : tlB (nwA su0) 0 1 = true ∧ tlA (nwA su0) 0 1 = (nwA su0).setOwn 0 1 ∧ ((nwA su0).setOwn 0 1).sl.length = 2 ∧ (og ((nwA su0).setOwn 0 1).sl 0).ow = 1 ∧ tlB ((nwA su0).setOwn 0 1) 0 2 = false := by
  have h1 := aw_1
  have h2 := aw_2
  have e : (nwA su0).setOwn 0 1 = ⟨(nwA su0).sl.set 0 ⟨1, (og (nwA su0).sl 0).sh⟩, (nwA su0).st, (nwA su0).ow, (nwA su0).cap, (nwA su0).dl, (nwA su0).dir, (nwA su0).ep, (nwA su0).ck, (nwA su0).ni⟩ := if_neg (by rw [h1.1]; decide)
  have hl : ((nwA su0).setOwn 0 1).sl.length = 2 := by rw [e]; simp [h1.1]
  have ho : (og ((nwA su0).setOwn 0 1).sl 0).ow = 1 := by
    rw [og_get (by rw [hl]; decide)]
    simp only [e]
    rw [List.getElem_set_self]
  refine ⟨?_, ?_, hl, ho, ?_⟩
  · unfold tlB
    rw [h1.1]
    exact decide_eq_true ⟨h2.1, h1.2⟩
  · unfold tlA
    rw [h1.1, if_pos h2.1]
    show (nwA su0).setOwn 0 (if (nwA su0).own 0 = 0 then 1 else (nwA su0).own 0) = _
    rw [if_pos h1.2]
  · unfold tlB
    rw [hl]
    refine decide_eq_false (fun h => ?_)
    have h3 : ((nwA su0).setOwn 0 1).own 0 = 0 := h.2
    unfold Ar.own at h3
    rw [hl, if_neg (by decide), ho] at h3
    exact absurd h3 (by decide)
/-- An arena in a box of the call's own. -/
structure Aw12 (w : World) (p : Nat) (a : Ar) (Y : Ax) (W : World) : Prop where
  qb : QB W p a Y
  ar : AR W W.heap.size a Y
  bel : Below w.heap.size w W
  old : w.heap.size ≤ p
section
variable {w W W' : World} {p : Nat} {a a' : Ar} {Y Z : Ax}
theorem Aw12.below (h : Aw12 w p a Y W) (hb : Below W.heap.size W W') : Aw12 w p a Y W' := ⟨h.qb.up hb, h.ar.up hb, h.bel.trans (hb.mono h.bel.size), h.old⟩
theorem Aw12.start (hb : Below w.heap.size w W) (h : AR W W.heap.size a Y) : Aw12 w W.heap.size a Y (W.alloc (.cells #[.slice Y.A a.sl.length Y.c, .slice Y.A2 a.st.length Y.c2, .int .i64 a.ow, .int .i64 a.cap, .slice Y.A3 a.dl.length Y.c3, .int .i64 a.dir.vn, .slice Y.D.A a.dir.l.length Y.D.c, .slice Y.D.A2 a.dir.F.length Y.D.c2, .int .i64 a.ep, .int .i64 a.ck, .int .i64 a.ni] 36)) :=
  ⟨QB.start W a Y _, h.alloc _, hb.alloc hb.size _, hb.size⟩
theorem Aw12.put (h : Aw12 w p a Y W) (hb : Below W.heap.size W W') (hn : Z.nw W.heap.size) (hr : AR W' W'.heap.size a' Z) : Aw12 w p a' Z (set11 W' p a' Z) :=
  have h' := h.below hb
  ⟨h'.qb.set a' Z, (hr.set11 (hn.off h.qb.lt) a' Z).more (by rw [set11_size]; exact Nat.le_refl _), set11_below h'.bel h.old a' Z, h.old⟩
end
set_option maxHeartbeats 8000000 in
set_option maxRecDepth 20000 in
theorem awake12_any (w : World) : Calls Tryz.prog 15 #[] w fun e w' => e = .returned (.bool true) ∧ Below w.heap.size w w' := by
  obtain ⟨A0, hA0⟩ : ∃ A, A = nwA su0 := ⟨_, rfl⟩
  obtain ⟨A1, hA1⟩ : ∃ A, A = (nwA su0).setOwn 0 1 := ⟨_, rfl⟩
  obtain ⟨A2, hA2⟩ : ∃ A, A = tlA A1 0 2 := ⟨_, rfl⟩
  have HF0 := Lib.hid (show A0.Few from by rw [hA0]; exact few_nw aw_0.1)
  have HF1 := Lib.hid (show A1.Few from by rw [hA1]; exact (few_nw aw_0.1).own 0 1)
  have HN := Lib.hid (fun W => show Calls Tryz.prog 5 #[.agg #[.int .i64 2, .int .i64 1, .int .i64 3, .int .i64 1, .int .i64 1, .int .i64 0, .int .i64 1, .int .i64 0]] W (AE W A0 0) from by
    have h := anew_any su0 W
    rw [aw_0.2, ← hA0] at h
    exact h)
  have HT1 := Lib.hid (fun Y W (h : AR W W.heap.size A0 Y) => show Calls Tryz.prog 9 #[av A0 Y, .int .i64 0, .int .i64 1] W (A3P W A1 true 0) from by
    have h1 := atrylock_any A0 Y 0 1 W h HF0.out
    rw [hA0, aw_3.1, aw_3.2.1, aw_1.1, aw_2.1, ← hA1, ← hA0] at h1
    exact h1)
  have HT2 := Lib.hid (fun Y W (h : AR W W.heap.size A1 Y) => show Calls Tryz.prog 9 #[av A1 Y, .int .i64 0, .int .i64 2] W (A3P W A2 false 0) from by
    have h1 := atrylock_any A1 Y 0 2 W h HF1.out
    rw [← hA2, hA1, aw_3.2.2.2.2, aw_3.2.2.1, aw_2.2, ← hA1] at h1
    exact h1)
  have HLN := Lib.hid (show A1.sl.length = 2 ∧ (og A1.sl 0).ow = 1 from by rw [hA1]; exact ⟨aw_3.2.2.1, aw_3.2.2.2.1⟩)
  clear hA0 hA1 hA2
  go_enter Tryz.func15, Tryz.ntmps15
  go_wp2_with fail
  refine (HN.out _).mono ?_
  rintro e w1 ⟨Y, rfl, hn, hr, hb⟩
  have H1 := Lib.hid (Aw12.start (w := w) hb hr)
  clear hn hr hb HN
  go_upto_region 2 with (fail)
  obtain ⟨p, hp⟩ : ∃ p, p = w1.heap.size := ⟨_, rfl⟩
  rw [← hp] at H1 ⊢
  clear hp
  generalize w1.alloc (.cells #[.slice Y.A A0.sl.length Y.c, .slice Y.A2 A0.st.length Y.c2, .int .i64 A0.ow, .int .i64 A0.cap, .slice Y.A3 A0.dl.length Y.c3, .int .i64 A0.dir.vn, .slice Y.D.A A0.dir.l.length Y.D.c, .slice Y.D.A2 A0.dir.F.length Y.D.c2, .int .i64 A0.ep, .int .i64 A0.ck, .int .i64 A0.ni] 36) = w2 at *
  obtain ⟨y0, y1, y2, y3, y4, y5, y6, y7, y8, y9, y10⟩ := H1.out.qb.k
  have yl := H1.out.qb.lt
  go_wp2_with fail
  clear y0 y1 y2 y3 y4 y5 y6 y7 y8 y9 y10 yl
  refine (HT1.out _ _ H1.out.ar).mono ?_
  rintro e w3 ⟨Z, rfl, hn, hr, hb⟩
  have H2 := Lib.hid (show Aw12 w p A1 Z (((((((((((w3.setCell ⟨p, 0, none⟩ (.slice Z.A A1.sl.length Z.c)).setCell ⟨p, 1, none⟩ (.slice Z.A2 A1.st.length Z.c2)).setCell ⟨p, 2, none⟩ (.int .i64 A1.ow)).setCell ⟨p, 3, none⟩ (.int .i64 A1.cap)).setCell ⟨p, 4, none⟩ (.slice Z.A3 A1.dl.length Z.c3)).setCell ⟨p, 5, none⟩ (.int .i64 A1.dir.vn)).setCell ⟨p, 6, none⟩ (.slice Z.D.A A1.dir.l.length Z.D.c)).setCell ⟨p, 7, none⟩ (.slice Z.D.A2 A1.dir.F.length Z.D.c2)).setCell ⟨p, 8, none⟩ (.int .i64 A1.ep)).setCell ⟨p, 9, none⟩ (.int .i64 A1.ck)).setCell ⟨p, 10, none⟩ (.int .i64 A1.ni)) from H1.out.put hb hn hr)
  have H2' := Lib.hid (H1.out.below hb)
  clear hn hr hb HT1 H1
  obtain ⟨y0, y1, y2, y3, y4, y5, y6, y7, y8, y9, y10⟩ := H2'.out.qb.k
  have yl := H2'.out.qb.lt
  obtain ⟨f0, f1, f2, f3, f4, f5, f6, f7, f8, f9, f10⟩ := H2'.out.qb.free
  go_upto_region 3 with (fail)
  clear y0 y1 y2 y3 y4 y5 y6 y7 y8 y9 y10 yl f0 f1 f2 f3 f4 f5 f6 f7 f8 f9 f10 H2'
  generalize ((((((((((w3.setCell ⟨p, 0, none⟩ (.slice Z.A A1.sl.length Z.c)).setCell ⟨p, 1, none⟩ (.slice Z.A2 A1.st.length Z.c2)).setCell ⟨p, 2, none⟩ (.int .i64 A1.ow)).setCell ⟨p, 3, none⟩ (.int .i64 A1.cap)).setCell ⟨p, 4, none⟩ (.slice Z.A3 A1.dl.length Z.c3)).setCell ⟨p, 5, none⟩ (.int .i64 A1.dir.vn)).setCell ⟨p, 6, none⟩ (.slice Z.D.A A1.dir.l.length Z.D.c)).setCell ⟨p, 7, none⟩ (.slice Z.D.A2 A1.dir.F.length Z.D.c2)).setCell ⟨p, 8, none⟩ (.int .i64 A1.ep)).setCell ⟨p, 9, none⟩ (.int .i64 A1.ck)).setCell ⟨p, 10, none⟩ (.int .i64 A1.ni) = w4 at *
  obtain ⟨y0, y1, y2, y3, y4, y5, y6, y7, y8, y9, y10⟩ := H2.out.qb.k
  have yl := H2.out.qb.lt
  go_wp2_with fail
  clear y0 y1 y2 y3 y4 y5 y6 y7 y8 y9 y10 yl
  refine (HT2.out _ _ H2.out.ar).mono ?_
  rintro e w5 ⟨V, rfl, hn, hr, hb⟩
  have H3 := Lib.hid ((H2.out.below hb).below ((Below.refl w5.heap.size w5).alloc (Nat.le_refl _) (.cells #[.slice V.A A2.sl.length V.c, .slice V.A2 A2.st.length V.c2, .int .i64 A2.ow, .int .i64 A2.cap, .slice V.A3 A2.dl.length V.c3, .int .i64 A2.dir.vn, .slice V.D.A A2.dir.l.length V.D.c, .slice V.D.A2 A2.dir.F.length V.D.c2, .int .i64 A2.ep, .int .i64 A2.ck, .int .i64 A2.ni] 36)))
  clear hn hr hb HT2 H2
  go_upto_region 4 with (fail)
  generalize w5.heap.size = q at *
  generalize w5.alloc (.cells #[.slice V.A A2.sl.length V.c, .slice V.A2 A2.st.length V.c2, .int .i64 A2.ow, .int .i64 A2.cap, .slice V.A3 A2.dl.length V.c3, .int .i64 A2.dir.vn, .slice V.D.A A2.dir.l.length V.D.c, .slice V.D.A2 A2.dir.F.length V.D.c2, .int .i64 A2.ep, .int .i64 A2.ck, .int .i64 A2.ni] 36) = w6 at *
  obtain ⟨D, b, o, hA, hb, h9, -, -⟩ := H3.out.ar.at2 (k := 0) (by rw [HLN.out.1]; decide)
  have h0 : w6.cell? ⟨b, o, none⟩ = some (.int .i64 1) := by
    have := h9.1
    rw [HLN.out.2] at this
    simpa using this
  obtain ⟨y0, -⟩ := H3.out.qb.k
  rw [HLN.out.1, hA] at y0
  have yl := H3.out.qb.lt
  have HFIN := Lib.hid H3.out.bel
  clear hA hb h9 H3 HLN HF0 HF1
  go_wp2
  go_ret
  exact ⟨rfl, HFIN.out⟩
end Go.Proofs.YtijpflljopckiaaGreat
namespace Go.Proofs.YtijpflljopckiaaGreat
open Go.RowKit
set_option linter.unusedVariables false

theorem anumber_any (n : Int) (w : World) : Calls Tryz.prog 29 #[.int .i64 n] w fun e w' => e = .returned (.bool (wi n 0 1099511627776)) ∧ w = w' := by
  have HW := Lib.hid (fun W => awithin_any n 0 1099511627776 W)
  go_enter Tryz.func29, Tryz.ntmps29
  go_wp2_with fail
  refine (HW.out _).mono ?_
  rintro e w1 ⟨rfl, rfl⟩
  go_wp2
  go_ret
  exact ⟨rfl, rfl⟩
/-- Whether a number is a slot with a stripe. -/
def islB (a : Ar) (n : Int) : Bool := wi n 0 (min (a.sl.length : Int) (a.st.length : Int) - 1)
set_option maxHeartbeats 4000000 in
set_option maxRecDepth 20000 in
theorem aisslot_any (a : Ar) (Y : Ax) (n : Int) (w : World) (hf : a.Few) : Calls Tryz.prog 25 #[av a Y, .int .i64 n] w fun e w' => e = .returned (.bool (islB a n)) ∧ Below w.heap.size w w' := by
  have HB := Lib.hid (QB.start w a Y 36)
  have HW := Lib.hid ((Below.refl w.heap.size w).alloc (Nat.le_refl _) (.cells #[.slice Y.A a.sl.length Y.c, .slice Y.A2 a.st.length Y.c2, .int .i64 a.ow, .int .i64 a.cap, .slice Y.A3 a.dl.length Y.c3, .int .i64 a.dir.vn, .slice Y.D.A a.dir.l.length Y.D.c, .slice Y.D.A2 a.dir.F.length Y.D.c2, .int .i64 a.ep, .int .i64 a.ck, .int .i64 a.ni] 36))
  have hw : IntKind.i64.wrap (min (a.sl.length : Int) (a.st.length : Int) - 1) = min (a.sl.length : Int) (a.st.length : Int) - 1 := IntWalk.i64_in _ (by have := hf.sl; have := hf.st; omega)
  have HI := Lib.hid (fun W => show Calls Tryz.prog 33 #[.int .i64 n, .int .i64 0, .int .i64 (min (a.sl.length : Int) (a.st.length : Int) - 1)] W fun e w' => e = .returned (.bool (islB a n)) ∧ W = w' from awithin_any n 0 _ W)
  go_enter Tryz.func25, Tryz.ntmps25
  obtain ⟨y0, y1, -⟩ := HB.out.k
  have yl := HB.out.lt
  go_wp2_with fail
  refine (HI.out _).mono ?_
  rintro e w1 ⟨rfl, rfl⟩
  go_wp2
  go_ret
  exact ⟨rfl, HW.out⟩
/-- The place of an owner, the slots' row from o on. -/
def ownQ (p b o n k : Nat) : Addr := if k = n then ⟨p, 2, none⟩ else ⟨b, o + k * 9, none⟩
set_option maxHeartbeats 4000000 in
set_option maxRecDepth 20000 in
theorem aownerof2_any (a : Ar) (Y : Ax) (p b o k : Nat) (w : World) (hq : QB w p a Y) (hA : Y.A = some ⟨b, o, none⟩) (hc : a.sl.length ≤ Y.c) (hk : k ≤ a.sl.length) (h1 : a.sl.length ≤ 1000) :
    Calls Tryz.prog 24 #[.pointer (some ⟨p, 0, none⟩), .int .i64 (k : Int)] w fun e w' => e = .returned (.pointer (some (ownQ p b o a.sl.length k))) ∧ Below w.heap.size w w' := by
  have HQ := Lib.hid hq
  have HD := Lib.hid (fun W => adeadcell_any a Y W)
  have HA := Lib.hid hA
  by_cases hkn : k = a.sl.length
  · have HP := Lib.hid (show ownQ p b o a.sl.length k = ⟨p, 2, none⟩ from if_pos hkn)
    have hk1 : ((k : Int) == (a.sl.length : Int)) = true := by simpa using (show (k : Int) = (a.sl.length : Int) by omega)
    clear hq hA hkn hk h1 hc
    go_enter Tryz.func24, Tryz.ntmps24
    obtain ⟨y0, y1, y2, y3, y4, y5, y6, y7, y8, y9, y10⟩ := HQ.out.k
    have yl := HQ.out.lt
    go_wp2_with fail
    refine (HD.out _).mono ?_
    rintro e w2 ⟨rfl, hb⟩
    have HB := Lib.hid hb
    clear hb y0 y1 y2 y3 y4 y5 y6 y7 y8 y9 y10
    go_wp2
    go_ret
    exact ⟨by rw [HP.out]; rfl, HB.out⟩
  · have HP := Lib.hid (show ownQ p b o a.sl.length k = ⟨b, o + k * 9, none⟩ from if_neg hkn)
    have hk1 : ((k : Int) == (a.sl.length : Int)) = false := by simpa using (show ¬ (k : Int) = (a.sl.length : Int) by omega)
    have hlt : k < a.sl.length := by omega
    have hlt' : (k : Int) < (a.sl.length : Int) := by omega
    clear hq hkn hk hA
    go_enter Tryz.func24, Tryz.ntmps24
    obtain ⟨y0, y1, y2, y3, y4, y5, y6, y7, y8, y9, y10⟩ := HQ.out.k
    have yl := HQ.out.lt
    go_wp2_with fail
    refine (HD.out _).mono ?_
    rintro e w2 ⟨rfl, hb⟩
    have HB := Lib.hid hb
    clear y0 y1 y2 y3 y4 y5 y6 y7 y8 y9 y10 yl
    obtain ⟨y0, -⟩ := (HQ.out.up hb).k
    have yl := (HQ.out.up hb).lt
    rw [HA.out] at y0
    clear hb
    go_wp2
    go_ret
    exact ⟨by rw [HP.out]; rfl, HB.out⟩
/-- The owner's cell of an arena in a box. -/
theorem Aw12.at_ {w W : World} {p : Nat} {a : Ar} {Y : Ax} (h : Aw12 w p a Y W) {k : Nat} (hk : k ≤ a.sl.length) (h0 : 0 < a.sl.length) : ∃ b o, Y.A = some ⟨b, o, none⟩ ∧ ∀ W', Below W.heap.size W W' → W'.cell? (ownQ p b o a.sl.length k) = some (.int .i64 (a.own k)) := by
  obtain ⟨D0, b, o, hA, hb, -, -, -⟩ := h.ar.at2 h0
  refine ⟨b, o, hA, fun W' hW => ?_⟩
  unfold ownQ Ar.own
  by_cases e : k = a.sl.length
  · rw [if_pos e, if_pos e]
    exact (hW.cell (p := ⟨p, 2, none⟩) h.qb.lt).trans h.qb.k.2.2.1
  · rw [if_neg e, if_neg e]
    obtain ⟨D, b', o', hA', hb', h9, -, -⟩ := h.ar.at2 (k := k) (by omega)
    rw [hA] at hA'
    injection hA' with hA'
    injection hA' with e1 e2 e3
    subst e1 e2
    exact (hW.cell (p := ⟨b, o + k * 9, none⟩) hb).trans h9.1
/-- The error of a cell and a task. -/
def owE (a : Ar) (k t : Int) : Int := if lkE a.sl.length k t = 0 then (if a.own k.toNat = t then 0 else 13) else lkE a.sl.length k t
theorem lk_nat {n : Nat} {k t : Int} (h : lkE n k t = 0) : k = (k.toNat : Int) ∧ k.toNat ≤ n := by
  unfold lkE at h
  by_cases hw : wi k 0 (n : Int) = true
  · have := wi_of hw; omega
  · rw [if_neg hw] at h; exact absurd h (by decide)
set_option maxHeartbeats 4000000 in
set_option maxRecDepth 20000 in
theorem aownererr_any (a : Ar) (Y : Ax) (k t : Int) (w : World) (har : AR w w.heap.size a Y) (hf : a.Few) : Calls Tryz.prog 30 #[av a Y, .int .i64 k, .int .i64 t] w fun e w' => e = .returned (.int .i64 (owE a k t)) ∧ Below w.heap.size w w' := by
  have H0 := Lib.hid (Aw12.start (Below.refl w.heap.size w) har)
  have HLK := Lib.hid (fun W => alockerr_any a Y k t W)
  have HFW := Lib.hid hf
  obtain ⟨L, hL⟩ : ∃ L, L = lkE a.sl.length k t := ⟨_, rfl⟩
  obtain ⟨OE, hOE⟩ : ∃ L, L = owE a k t := ⟨_, rfl⟩
  have HOE := Lib.hid (show OE = if L = 0 then (if a.own k.toNat = t then 0 else 13) else L from by rw [hOE, hL]; rfl)
  have HLL := Lib.hid hL
  rw [← hL] at HLK
  rw [← hOE]
  obtain ⟨p, hp⟩ : ∃ p, p = w.heap.size := ⟨_, rfl⟩
  have HPP := Lib.hid hp
  clear har hf hL hOE hp
  go_enter Tryz.func30, Tryz.ntmps30
  go_upto_region 1 with (fail)
  have H0 := Lib.hid (show Aw12 w p a Y (w.alloc (.cells #[.slice Y.A a.sl.length Y.c, .slice Y.A2 a.st.length Y.c2, .int .i64 a.ow, .int .i64 a.cap, .slice Y.A3 a.dl.length Y.c3, .int .i64 a.dir.vn, .slice Y.D.A a.dir.l.length Y.D.c, .slice Y.D.A2 a.dir.F.length Y.D.c2, .int .i64 a.ep, .int .i64 a.ck, .int .i64 a.ni] 36)) from by rw [HPP.out]; exact H0.out)
  rw [← HPP.out]
  generalize w.alloc (.cells #[.slice Y.A a.sl.length Y.c, .slice Y.A2 a.st.length Y.c2, .int .i64 a.ow, .int .i64 a.cap, .slice Y.A3 a.dl.length Y.c3, .int .i64 a.dir.vn, .slice Y.D.A a.dir.l.length Y.D.c, .slice Y.D.A2 a.dir.F.length Y.D.c2, .int .i64 a.ep, .int .i64 a.ck, .int .i64 a.ni] 36) = w1 at *
  obtain ⟨y0, y1, y2, y3, y4, y5, y6, y7, y8, y9, y10⟩ := H0.out.qb.k
  have yl := H0.out.qb.lt
  go_wp2_with fail
  clear y0 y1 y2 y3 y4 y5 y6 y7 y8 y9 y10 yl
  refine (HLK.out _).mono ?_
  rintro e w2 ⟨rfl, hb⟩
  have H1 := Lib.hid (H0.out.below hb)
  clear hb H0 HLK
  by_cases hL0 : L = 0
  · have HN := Lib.hid (lk_nat (HLL.out.symm.trans hL0))
    have HO2 := Lib.hid (HOE.out.trans (if_pos hL0))
    obtain ⟨n, hn⟩ : ∃ n : Nat, n = k.toNat := ⟨_, rfl⟩
    rw [← hn] at HN HO2
    obtain ⟨b, o, hA, hcell⟩ := H1.out.at_ HN.out.2 HFW.out.sl.1
    have HCE := Lib.hid hcell
    have HOW := Lib.hid (aownerof2_any a Y p b o n w2 H1.out.qb hA (by have := H1.out.ar.ql.len; omega) HN.out.2 HFW.out.sl.2)
    have hkn := HN.out.1
    rw [← hkn] at HOW
    obtain ⟨P, hP⟩ : ∃ P, P = ownQ p b o a.sl.length n := ⟨_, rfl⟩
    rw [← hP] at HOW HCE
    obtain ⟨x, hx⟩ : ∃ x, x = a.own n := ⟨_, rfl⟩
    rw [← hx] at HCE HO2
    clear hkn hA hcell hn hP hx HN HLL HOE
    subst hL0
    go_wp2_with fail
    refine HOW.out.mono ?_
    rintro e w3 ⟨rfl, hb⟩
    have hc := HCE.out _ hb
    have H2 := Lib.hid (H1.out.below hb)
    clear hb HOW HCE H1
    by_cases hxt : x = t
    · have HO3 := Lib.hid (HO2.out.trans (if_pos hxt))
      have hne : (x != t) = false := by simpa using hxt
      clear HO2 hxt
      go_wp2
      go_ret
      exact ⟨by rw [HO3.out]; rfl, H2.out.bel⟩
    · have HO3 := Lib.hid (HO2.out.trans (if_neg hxt))
      have hne : (x != t) = true := bne_iff_ne.2 hxt
      clear HO2 hxt
      go_wp2
      go_ret
      exact ⟨by rw [HO3.out]; rfl, H2.out.bel⟩
  · have HO2 := Lib.hid (HOE.out.trans (if_neg hL0))
    have hne : (L != 0) = true := bne_iff_ne.2 hL0
    clear HOE HLL hL0
    go_wp2
    go_ret
    exact ⟨by rw [HO2.out]; rfl, H1.out.bel⟩
/-- The error of a slot and a task. -/
def slE (a : Ar) (k t : Int) : Int := if islB a k = true then owE a k t else 1
set_option maxHeartbeats 4000000 in
set_option maxRecDepth 20000 in
theorem asloterr_any (a : Ar) (Y : Ax) (k t : Int) (w : World) (har : AR w w.heap.size a Y) (hf : a.Few) : Calls Tryz.prog 27 #[av a Y, .int .i64 k, .int .i64 t] w fun e w' => e = .returned (.int .i64 (slE a k t)) ∧ Below w.heap.size w w' := by
  have H0 := Lib.hid (Aw12.start (Below.refl w.heap.size w) har)
  have HIS := Lib.hid (fun W => aisslot_any a Y k W hf)
  have HOW := Lib.hid (fun W (h : AR W W.heap.size a Y) => aownererr_any a Y k t W h hf)
  obtain ⟨b, hb0⟩ : ∃ b, b = islB a k := ⟨_, rfl⟩
  obtain ⟨OE, hOE⟩ : ∃ L, L = owE a k t := ⟨_, rfl⟩
  obtain ⟨SL, hSL⟩ : ∃ L, L = slE a k t := ⟨_, rfl⟩
  have HSL := Lib.hid (show SL = if b = true then OE else 1 from by rw [hSL, hb0, hOE]; rfl)
  rw [← hb0] at HIS
  rw [← hOE] at HOW
  rw [← hSL]
  obtain ⟨p, hp⟩ : ∃ p, p = w.heap.size := ⟨_, rfl⟩
  have HPP := Lib.hid hp
  clear har hf hb0 hOE hSL hp
  go_enter Tryz.func27, Tryz.ntmps27
  go_upto_region 1 with (fail)
  have H0 := Lib.hid (show Aw12 w p a Y (w.alloc (.cells #[.slice Y.A a.sl.length Y.c, .slice Y.A2 a.st.length Y.c2, .int .i64 a.ow, .int .i64 a.cap, .slice Y.A3 a.dl.length Y.c3, .int .i64 a.dir.vn, .slice Y.D.A a.dir.l.length Y.D.c, .slice Y.D.A2 a.dir.F.length Y.D.c2, .int .i64 a.ep, .int .i64 a.ck, .int .i64 a.ni] 36)) from by rw [HPP.out]; exact H0.out)
  rw [← HPP.out]
  generalize w.alloc (.cells #[.slice Y.A a.sl.length Y.c, .slice Y.A2 a.st.length Y.c2, .int .i64 a.ow, .int .i64 a.cap, .slice Y.A3 a.dl.length Y.c3, .int .i64 a.dir.vn, .slice Y.D.A a.dir.l.length Y.D.c, .slice Y.D.A2 a.dir.F.length Y.D.c2, .int .i64 a.ep, .int .i64 a.ck, .int .i64 a.ni] 36) = w1 at *
  obtain ⟨y0, y1, y2, y3, y4, y5, y6, y7, y8, y9, y10⟩ := H0.out.qb.k
  have yl := H0.out.qb.lt
  go_wp2_with fail
  clear y0 y1 y2 y3 y4 y5 y6 y7 y8 y9 y10 yl
  refine (HIS.out _).mono ?_
  rintro e w2 ⟨rfl, hb⟩
  have H1 := Lib.hid (H0.out.below hb)
  clear hb H0 HIS
  cases b with
  | true =>
    have HS2 := Lib.hid (HSL.out.trans (if_pos rfl))
    clear HSL
    obtain ⟨y0, y1, y2, y3, y4, y5, y6, y7, y8, y9, y10⟩ := H1.out.qb.k
    have yl := H1.out.qb.lt
    go_wp2_with fail
    clear y0 y1 y2 y3 y4 y5 y6 y7 y8 y9 y10 yl
    refine (HOW.out _ H1.out.ar).mono ?_
    rintro e w3 ⟨rfl, hb⟩
    have H2 := Lib.hid (H1.out.below hb)
    clear hb H1
    go_wp2
    go_ret
    exact ⟨by rw [HS2.out]; rfl, H2.out.bel⟩
  | false =>
    have HS2 := Lib.hid (HSL.out.trans (if_neg (by decide)))
    clear HSL
    go_wp2
    go_ret
    exact ⟨by rw [HS2.out]; rfl, H1.out.bel⟩
end Go.Proofs.YtijpflljopckiaaGreat
namespace Go.Proofs.YtijpflljopckiaaGreat
open Go.RowKit
set_option linter.unusedVariables false

theorem Ci12.start3 {w : World} {a : Ar} {Y : Ax} (har : AR w w.heap.size a Y) (B : _) : Ci12 w w.heap.size (w.heap.size + 2) a Y (((w.alloc (.cells #[.slice Y.A a.sl.length Y.c, .slice Y.A2 a.st.length Y.c2, .int .i64 a.ow, .int .i64 a.cap, .slice Y.A3 a.dl.length Y.c3, .int .i64 a.dir.vn, .slice Y.D.A a.dir.l.length Y.D.c, .slice Y.D.A2 a.dir.F.length Y.D.c2, .int .i64 a.ep, .int .i64 a.ck, .int .i64 a.ni] 36)).alloc B).alloc (.cells #[.slice none 0 0, .slice none 0 0, .int .i64 0, .int .i64 0, .slice none 0 0, .int .i64 0, .slice none 0 0, .slice none 0 0, .int .i64 0, .int .i64 0, .int .i64 0] 36)) := by
  have h1 := QB.start ((w.alloc (.cells #[.slice Y.A a.sl.length Y.c, .slice Y.A2 a.st.length Y.c2, .int .i64 a.ow, .int .i64 a.cap, .slice Y.A3 a.dl.length Y.c3, .int .i64 a.dir.vn, .slice Y.D.A a.dir.l.length Y.D.c, .slice Y.D.A2 a.dir.F.length Y.D.c2, .int .i64 a.ep, .int .i64 a.ck, .int .i64 a.ni] 36)).alloc B) zA zAx 36
  rw [show ((w.alloc (.cells #[.slice Y.A a.sl.length Y.c, .slice Y.A2 a.st.length Y.c2, .int .i64 a.ow, .int .i64 a.cap, .slice Y.A3 a.dl.length Y.c3, .int .i64 a.dir.vn, .slice Y.D.A a.dir.l.length Y.D.c, .slice Y.D.A2 a.dir.F.length Y.D.c2, .int .i64 a.ep, .int .i64 a.ck, .int .i64 a.ni] 36)).alloc B).heap.size = w.heap.size + 2 by simp] at h1
  have b2 : Below w.heap.size w (((w.alloc (.cells #[.slice Y.A a.sl.length Y.c, .slice Y.A2 a.st.length Y.c2, .int .i64 a.ow, .int .i64 a.cap, .slice Y.A3 a.dl.length Y.c3, .int .i64 a.dir.vn, .slice Y.D.A a.dir.l.length Y.D.c, .slice Y.D.A2 a.dir.F.length Y.D.c2, .int .i64 a.ep, .int .i64 a.ck, .int .i64 a.ni] 36)).alloc B).alloc (.cells #[.slice none 0 0, .slice none 0 0, .int .i64 0, .int .i64 0, .slice none 0 0, .int .i64 0, .slice none 0 0, .slice none 0 0, .int .i64 0, .int .i64 0, .int .i64 0] 36)) := (((Below.refl _ _).alloc (Nat.le_refl _) _).alloc (by simp) _).alloc (by simp; omega) _
  exact ⟨((QB.start w a Y _).alloc _).alloc _, h1, har.below b2, ⟨Nat.le_refl _, by omega⟩, b2⟩
theorem st_app_set (s : St) (X : List Value) (k : Nat) (v : Value) : (s.l ++ X).set (4 + k) v = s.l ++ X.set k v := by
  rw [List.set_append_right _ _ (by rw [St.l_len]; omega), St.l_len, Nat.add_sub_cancel_left]
theorem tcs_set (l : List St) (i : Nat) (s : St) (h : i < l.length) : (((((tcs l).set (i * 4) (.int .i64 s.sq)).set (i * 4 + 1) (.int .i64 s.ep)).set (i * 4 + 2) (.int .i64 s.rd)).set (i * 4 + 3) (.int .i64 s.ls)) = tcs (l.set i s) := by
  induction l generalizing i with
  | nil => simp at h
  | cons u l ih =>
    cases i with
    | zero => rfl
    | succ i =>
      have h' : i < l.length := by simpa using h
      have e : ∀ k, (i + 1) * 4 + k = 4 + (i * 4 + k) := fun k => by omega
      have e0 : (i + 1) * 4 = 4 + i * 4 := by omega
      rw [tcs_cons, List.set_cons_succ, tcs_cons, ← ih i h', e 1, e 2, e 3, e0, st_app_set, st_app_set, st_app_set, st_app_set]
/-- The world behind stores into the stripes' row. -/
structure Kx (w : World) (p r b b2 : Nat) (a : Ar) (Y : Ax) (cs : List Value) (W : World) : Prop where
  pb : QB W p a Y
  rb : QB W r zA zAx
  ro : Rb W b (qcs Y.q)
  r2 : Rb W b2 cs
  sr : ∀ t ∈ Y.q, SR W W.heap.size t.sh t.sx
  ls : Ls W W.heap.size (.slice Y.A3 a.dl.length Y.c3) a.dl
  dr : DR W W.heap.size a.dir Y.D
  bel : Below w.heap.size w W
theorem Kx.step {w W : World} {p r b b2 : Nat} {a : Ar} {Y : Ax} {cs : List Value} (h : Kx w p r b b2 a Y cs W) (n : w.heap.size ≤ b2 ∧ b2 ≠ b ∧ b2 ≠ p ∧ b2 ≠ r) (o1 : ∀ t ∈ Y.q, SOff t.sh t.sx b2) (o3 : OffB b2 a.dl.length Y.A3) (o4 : DOff a.dir Y.D b2) {j : Nat} (hj : j < cs.length) (v : Value) : Kx w p r b b2 a Y (cs.set j v) (W.setCell ⟨b2, j, none⟩ v) :=
  ⟨h.pb.other (x := ⟨b2, j, none⟩) (show b2 ≠ p from n.2.2.1) v, h.rb.other (x := ⟨b2, j, none⟩) (show b2 ≠ r from n.2.2.2) v, h.ro.other (a := ⟨b2, j, none⟩) (show b2 ≠ b from n.2.1) v, h.r2.set hj v, fun t ht => ((h.sr t ht).offp (p := ⟨b2, j, none⟩) (o1 t ht) v).more (by simp), (h.ls.offp (p := ⟨b2, j, none⟩) o3 v).more (by simp), (h.dr.offp (q := ⟨b2, j, none⟩) o4 v).more (by simp), h.bel.setCell (p := ⟨b2, j, none⟩) n.1 v⟩
/-- The four stores of a stripe. -/
abbrev sets4 (W : World) (b o : Nat) (s : St) : World := (((W.setCell ⟨b, o, none⟩ (.int .i64 s.sq)).setCell ⟨b, o + 1, none⟩ (.int .i64 s.ep)).setCell ⟨b, o + 2, none⟩ (.int .i64 s.rd)).setCell ⟨b, o + 3, none⟩ (.int .i64 s.ls)
def Ar.setSt (a : Ar) (i : Nat) (s : St) : Ar := ⟨a.sl, a.st.set i s, a.ow, a.cap, a.dl, a.dir, a.ep, a.ck, a.ni⟩
theorem QB.setSt {W : World} {p : Nat} {a : Ar} {Y : Ax} (h : QB W p a Y) (i : Nat) (s : St) : QB W p (a.setSt i s) Y := by
  obtain ⟨⟨y0, y1, y2, y3, y4, y5, y6, y7, y8, y9, y10⟩, fr, lt⟩ := h
  exact ⟨⟨y0, by rw [show (a.setSt i s).st.length = a.st.length from List.length_set]; exact y1, y2, y3, y4, y5, y6, y7, y8, y9, y10⟩, fr, lt⟩
/-- The stripes' row of a copy that lies in a box: its place, its cells, and what a store of a stripe leaves. -/
theorem Cb12.stripe {w W : World} {p r b p' r' : Nat} {a : Ar} {Y : Ax} (h : Cb12 w p r b a Y W) (hS : Sr12 p' r' b a Y W) (hn : Y.nw (r + 1)) {i : Nat} (hi : i < a.st.length) : ∃ b2, Y.A2 = some ⟨b2, 0, none⟩ ∧ b2 < W.heap.size ∧ (W.cell? ⟨b2, i * 4, none⟩ = some (.int .i64 (tg a.st i).sq) ∧ W.cell? ⟨b2, i * 4 + 1, none⟩ = some (.int .i64 (tg a.st i).ep) ∧ W.cell? ⟨b2, i * 4 + 2, none⟩ = some (.int .i64 (tg a.st i).rd) ∧ W.cell? ⟨b2, i * 4 + 3, none⟩ = some (.int .i64 (tg a.st i).ls)) ∧ (∀ o, W.frozen? ⟨b2, o, none⟩ = false) ∧ ∀ s, Cb12 w p r b (a.setSt i s) Y (sets4 W b2 (i * 4) s) := by
  obtain ⟨b2, e2, hc2, hr2, hne2, o1, o3, o4⟩ := hS (by omega)
  have hne := h.ne
  have hlo : r + 1 ≤ b2 := hn.n2 _ e2
  have htg : (tg a.st i).l = (a.st[i]).l := by unfold tg; rw [List.getD_eq_getElem?_getD, List.getElem?_eq_getElem hi]; rfl
  have g : ∀ j u, j < 4 → (tg a.st i).l[j]? = some u → W.cell? ⟨b2, i * 4 + j, none⟩ = some u := fun j u hj hu => hr2.c _ u (by rw [tcs_at a.st i j hi hj, ← htg]; exact hu)
  refine ⟨b2, e2, hr2.lt, ⟨g 0 _ (by omega) rfl, g 1 _ (by omega) rfl, g 2 _ (by omega) rfl, g 3 _ (by omega) rfl⟩, hr2.f, fun s => ?_⟩
  have n4 : w.heap.size ≤ b2 ∧ b2 ≠ b ∧ b2 ≠ p ∧ b2 ≠ r := ⟨by omega, hne2.1, by omega, by omega⟩
  have k0 : Kx w p r b b2 a Y (tcs a.st) W := ⟨h.pb, h.rb, h.ro, hr2, fun t ht => (h.sr t ht).1, h.ls.1, h.dr.1, h.bel⟩
  have hlen := tcs_len a.st
  have k4 := (((k0.step n4 o1 o3 o4 (j := i * 4) (by omega) (.int .i64 s.sq)).step n4 o1 o3 o4 (j := i * 4 + 1) (by rw [List.length_set]; omega) (.int .i64 s.ep)).step n4 o1 o3 o4 (j := i * 4 + 2) (by rw [List.length_set, List.length_set]; omega) (.int .i64 s.rd)).step n4 o1 o3 o4 (j := i * 4 + 3) (by rw [List.length_set, List.length_set, List.length_set]; omega) (.int .i64 s.ls)
  rw [tcs_set a.st i s hi] at k4
  have el : (a.setSt i s).st.length = a.st.length := List.length_set
  refine ⟨k4.pb.setSt i s, k4.rb, k4.ro, h.ea, h.ec, h.so, fun t ht => ⟨k4.sr t ht, (h.sr t ht).2⟩, ⟨?_, by rw [el]; exact h.tl.2.1, by rw [el]; exact h.tl.2.2.1, by rw [el]; exact h.tl.2.2.2⟩, ⟨k4.ls, h.ls.2⟩, ⟨k4.dr, h.dr.2⟩, h.ne, k4.bel⟩
  rw [e2]
  refine ⟨_, Y.c2, rfl, by rw [el]; exact hc2.1, hc2.2, ?_, fun _ => ⟨b2, 0, rfl, k4.r2.lt, fun j u hu => by rw [Nat.zero_add]; exact k4.r2.c j u hu⟩⟩
  show (tcs (a.st.set i s)).length = (a.setSt i s).st.length * 4
  rw [tcs_len]; rfl
theorem YT.far11 {W : World} {p q : Nat} {s : St} (h : YT W q s) (hpq : p ≠ q) (a : Ar) (Y : Ax) : YT (set11 W p a Y) q s := by
  obtain ⟨⟨t0, t1, t2, t3⟩, tl⟩ := h
  have n : ∀ i j, (⟨p, i, none⟩ : Addr) ≠ ⟨q, j, none⟩ := fun i j e => hpq (congrArg Addr.block e)
  have g : ∀ i v, W.cell? ⟨q, i, none⟩ = some v → (set11 W p a Y).cell? ⟨q, i, none⟩ = some v := fun i v h => by
    show World.cell? (set11 W p a Y) _ = _
    unfold set11
    rw [World.cell?_setCell_other _ _ _ _ (n 10 i), World.cell?_setCell_other _ _ _ _ (n 9 i), World.cell?_setCell_other _ _ _ _ (n 8 i), World.cell?_setCell_other _ _ _ _ (n 7 i), World.cell?_setCell_other _ _ _ _ (n 6 i), World.cell?_setCell_other _ _ _ _ (n 5 i), World.cell?_setCell_other _ _ _ _ (n 4 i), World.cell?_setCell_other _ _ _ _ (n 3 i), World.cell?_setCell_other _ _ _ _ (n 2 i), World.cell?_setCell_other _ _ _ _ (n 1 i), World.cell?_setCell_other _ _ _ _ (n 0 i)]
    exact h
  exact ⟨⟨g 0 _ t0, g 1 _ t1, g 2 _ t2, g 3 _ t3⟩, by rw [set11_size]; exact tl⟩
/-- What StoreStripe gives. -/
def ssA (a : Ar) (k t : Int) (s : St) : Ar := if slE a k t = 0 then a.setSt k.toNat s else zA
theorem sl_nat {a : Ar} {k t : Int} (h : slE a k t = 0) : k = (k.toNat : Int) ∧ k.toNat < a.sl.length ∧ k.toNat < a.st.length := by
  unfold slE at h
  by_cases hb : islB a k = true
  · have := wi_of hb; omega
  · rw [if_neg hb] at h; exact absurd h (by decide)
end Go.Proofs.YtijpflljopckiaaGreat
namespace Go.Proofs.YtijpflljopckiaaGreat
open Go.RowKit
set_option linter.unusedVariables false

set_option maxHeartbeats 8000000 in
set_option maxRecDepth 20000 in
/-- A task that has not locked the slot stores nothing. -/
theorem astoreslot_no (a : Ar) (Y : Ax) (k t : Int) (S : Sh) (D : Sx) (w : World) (har : AR w w.heap.size a Y) (hf : a.Few) (hs : slE a k t ≠ 0) : Calls Tryz.prog 11 #[av a Y, .int .i64 k, .int .i64 t, sv S D] w (AE w zA (slE a k t)) := by
  obtain ⟨p, hp⟩ : ∃ p, p = w.heap.size := ⟨_, rfl⟩
  obtain ⟨r, hr⟩ : ∃ r, r = w.heap.size + 2 := ⟨_, rfl⟩
  have H0 := Lib.hid (show Ci12 w p r a Y _ from by rw [hr, hp]; exact Ci12.start3 har (.cells #[.bool S.lv, .int .i64 S.lo, .int .i64 S.hi, .slice D.A S.cs.length D.c, .int .i64 S.hd, .int .i64 S.sz, .slice D.A2 S.l.length D.c2, .slice D.A3 S.h.length D.c3] 54))
  have HPP := Lib.hid (And.intro hp hr)
  have HLK := Lib.hid (fun W (k' : Ci12 w p r a Y W) => asloterr_any a Y k t W (k'.ar.more k'.bel.size) hf)
  obtain ⟨E, hE⟩ : ∃ E, E = slE a k t := ⟨_, rfl⟩
  rw [← hE] at HLK hs ⊢
  have hne : (E != 0) = true := bne_iff_ne.2 hs
  clear hp hr har hf hE hs
  go_enter Tryz.func11, Tryz.ntmps11
  go_upto_region 1 with (fail)
  rw [← HPP.out.2, ← HPP.out.1]
  generalize ((w.alloc (.cells #[.slice Y.A a.sl.length Y.c, .slice Y.A2 a.st.length Y.c2, .int .i64 a.ow, .int .i64 a.cap, .slice Y.A3 a.dl.length Y.c3, .int .i64 a.dir.vn, .slice Y.D.A a.dir.l.length Y.D.c, .slice Y.D.A2 a.dir.F.length Y.D.c2, .int .i64 a.ep, .int .i64 a.ck, .int .i64 a.ni] 36)).alloc (.cells #[.bool S.lv, .int .i64 S.lo, .int .i64 S.hi, .slice D.A S.cs.length D.c, .int .i64 S.hd, .int .i64 S.sz, .slice D.A2 S.l.length D.c2, .slice D.A3 S.h.length D.c3] 54)).alloc (.cells #[.slice none 0 0, .slice none 0 0, .int .i64 0, .int .i64 0, .slice none 0 0, .int .i64 0, .slice none 0 0, .slice none 0 0, .int .i64 0, .int .i64 0, .int .i64 0] 36) = w1 at *
  obtain ⟨y0, y1, y2, y3, y4, y5, y6, y7, y8, y9, y10⟩ := H0.out.pb.k
  have yl := H0.out.pb.lt
  go_wp2_with fail
  clear y0 y1 y2 y3 y4 y5 y6 y7 y8 y9 y10 yl
  refine (HLK.out _ H0.out).mono ?_
  rintro e w2 ⟨rfl, hb⟩
  have H1 := Lib.hid (H0.out.below hb)
  clear hb H0 HLK
  have HF := Lib.hid (show AE w zA E (.returned (.tuple #[.agg #[.slice none 0 0, .slice none 0 0, .int .i64 0, .int .i64 0, .slice none 0 0, .int .i64 0, .slice none 0 0, .slice none 0 0, .int .i64 0, .int .i64 0, .int .i64 0], .int .i64 E])) (set11 w2 r zA zAx) from
    ae_out (show w.heap.size ≤ r by have := H1.out.ne; omega) H1.out.bel (zAx_nw _) (Nat.le_refl r) AR.zero E)
  obtain ⟨r0, r1, r2, r3, r4, r5, r6, r7, r8, r9, r10⟩ := H1.out.rb.k
  have rl := H1.out.rb.lt
  obtain ⟨f0, f1, f2, f3, f4, f5, f6, f7, f8, f9, f10⟩ := H1.out.rb.free
  clear H1
  go_wp2
  exact bodyPost_ret (v := .tuple #[.agg #[.slice none 0 0, .slice none 0 0, .int .i64 0, .int .i64 0, .slice none 0 0, .int .i64 0, .slice none 0 0, .slice none 0 0, .int .i64 0, .int .i64 0, .int .i64 0], .int .i64 E]) (by simp only [results, Tryz.results11]; go_simp <;> rfl) rfl HF.out
end Go.Proofs.YtijpflljopckiaaGreat
namespace Go.Proofs.YtijpflljopckiaaGreat
open Go.RowKit
set_option linter.unusedVariables false

set_option maxHeartbeats 8000000 in
set_option maxRecDepth 20000 in
theorem astorestripe_any (a : Ar) (Y : Ax) (k t : Int) (s : St) (w : World) (har : AR w w.heap.size a Y) (hf : a.Few) (hs : wi s.sq 0 1099511627776 = true ∧ wi s.ep 0 1099511627776 = true ∧ wi s.rd 0 1099511627776 = true ∧ wi s.ls 0 1099511627776 = true) : Calls Tryz.prog 12 #[av a Y, .int .i64 k, .int .i64 t, s.v] w (AE w (ssA a k t s) (slE a k t)) := by
  obtain ⟨p, hp⟩ : ∃ p, p = w.heap.size := ⟨_, rfl⟩
  obtain ⟨q, hq⟩ : ∃ q, q = w.heap.size + 1 := ⟨_, rfl⟩
  obtain ⟨r, hr⟩ : ∃ r, r = w.heap.size + 2 := ⟨_, rfl⟩
  have H0 := Lib.hid (show Ci12 w p r a Y _ from by rw [hr, hp]; exact Ci12.start3 har (.cells #[.int .i64 s.sq, .int .i64 s.ep, .int .i64 s.rd, .int .i64 s.ls] 60))
  have HT0 := Lib.hid (show YT _ q s from by
    have h1 := YT.start (w.alloc (.cells #[.slice Y.A a.sl.length Y.c, .slice Y.A2 a.st.length Y.c2, .int .i64 a.ow, .int .i64 a.cap, .slice Y.A3 a.dl.length Y.c3, .int .i64 a.dir.vn, .slice Y.D.A a.dir.l.length Y.D.c, .slice Y.D.A2 a.dir.F.length Y.D.c2, .int .i64 a.ep, .int .i64 a.ck, .int .i64 a.ni] 36)) s 60
    rw [show (w.alloc (.cells #[.slice Y.A a.sl.length Y.c, .slice Y.A2 a.st.length Y.c2, .int .i64 a.ow, .int .i64 a.cap, .slice Y.A3 a.dl.length Y.c3, .int .i64 a.dir.vn, .slice Y.D.A a.dir.l.length Y.D.c, .slice Y.D.A2 a.dir.F.length Y.D.c2, .int .i64 a.ep, .int .i64 a.ck, .int .i64 a.ni] 36)).heap.size = w.heap.size + 1 by simp, ← hq] at h1
    exact h1.up ((Below.refl _ _).alloc (Nat.le_refl _) (.cells #[.slice none 0 0, .slice none 0 0, .int .i64 0, .int .i64 0, .slice none 0 0, .int .i64 0, .slice none 0 0, .slice none 0 0, .int .i64 0, .int .i64 0, .int .i64 0] 36)))
  have HPP := Lib.hid (show p = w.heap.size ∧ q = w.heap.size + 1 ∧ r = w.heap.size + 2 from ⟨hp, hq, hr⟩)
  have HNM := Lib.hid (fun n W => anumber_any n W)
  have HNS := Lib.hid hs
  have HLK := Lib.hid (fun W (k' : Ci12 w p r a Y W) => asloterr_any a Y k t W (k'.ar.more k'.bel.size) hf)
  have HCL := Lib.hid (fun W (k : Ci12 w p r a Y W) => aclone2_any a Y W (k.ar.more k.bel.size) hf)
  obtain ⟨E, hE⟩ : ∃ E, E = slE a k t := ⟨_, rfl⟩
  rw [← hE] at HLK ⊢
  obtain ⟨TA, hTA⟩ : ∃ A, A = ssA a k t s := ⟨_, rfl⟩
  have HTA := Lib.hid (show TA = if E = 0 then a.setSt k.toNat s else zA from by rw [hTA, hE]; rfl)
  rw [← hTA]
  have HEE := Lib.hid hE
  clear hp hq hr har hf hTA hE hs
  go_enter Tryz.func12, Tryz.ntmps12
  go_upto_region 1 with (fail)
  rw [← HPP.out.2.2, ← HPP.out.2.1, ← HPP.out.1]
  generalize ((w.alloc (.cells #[.slice Y.A a.sl.length Y.c, .slice Y.A2 a.st.length Y.c2, .int .i64 a.ow, .int .i64 a.cap, .slice Y.A3 a.dl.length Y.c3, .int .i64 a.dir.vn, .slice Y.D.A a.dir.l.length Y.D.c, .slice Y.D.A2 a.dir.F.length Y.D.c2, .int .i64 a.ep, .int .i64 a.ck, .int .i64 a.ni] 36)).alloc (.cells #[.int .i64 s.sq, .int .i64 s.ep, .int .i64 s.rd, .int .i64 s.ls] 60)).alloc (.cells #[.slice none 0 0, .slice none 0 0, .int .i64 0, .int .i64 0, .slice none 0 0, .int .i64 0, .slice none 0 0, .slice none 0 0, .int .i64 0, .int .i64 0, .int .i64 0] 36) = w1 at *
  obtain ⟨y0, y1, y2, y3, y4, y5, y6, y7, y8, y9, y10⟩ := H0.out.pb.k
  have yl := H0.out.pb.lt
  go_wp2_with fail
  clear y0 y1 y2 y3 y4 y5 y6 y7 y8 y9 y10 yl
  refine (HLK.out _ H0.out).mono ?_
  rintro e w2 ⟨rfl, hb⟩
  have H1 := Lib.hid (H0.out.below hb)
  have HT1 := Lib.hid (HT0.out.up hb)
  clear hb H0 HLK HT0
  by_cases hE0 : E = 0
  · have HA2 := Lib.hid (HTA.out.trans (if_pos hE0))
    obtain ⟨n, hn⟩ : ∃ n : Nat, n = k.toNat := ⟨_, rfl⟩
    have HN := Lib.hid (show k = (n : Int) ∧ n < a.sl.length ∧ n < a.st.length from by rw [hn]; exact sl_nat (HEE.out.symm.trans hE0))
    rw [← hn] at HA2
    clear HTA HEE hn
    subst hE0
    obtain ⟨⟨t0, t1, t2, t3⟩, tl⟩ := HT1.out
    go_wp2_with fail
    refine (HNM.out _ _).mono ?_
    rintro e w2' ⟨rfl, rfl⟩
    rw [HNS.out.1]
    go_wp2_with fail
    refine (HNM.out _ _).mono ?_
    rintro e w2' ⟨rfl, rfl⟩
    rw [HNS.out.2.1]
    go_wp2_with fail
    refine (HNM.out _ _).mono ?_
    rintro e w2' ⟨rfl, rfl⟩
    rw [HNS.out.2.2.1]
    go_wp2_with fail
    refine (HNM.out _ _).mono ?_
    rintro e w2' ⟨rfl, rfl⟩
    rw [HNS.out.2.2.2]
    clear t0 t1 t2 t3 tl HNM HNS
    obtain ⟨y0, y1, y2, y3, y4, y5, y6, y7, y8, y9, y10⟩ := H1.out.pb.k
    have yl := H1.out.pb.lt
    go_wp2_with fail
    clear y0 y1 y2 y3 y4 y5 y6 y7 y8 y9 y10 yl
    refine (HCL.out _ H1.out).mono ?_
    rintro e w3 ⟨Z, b, p', r', rfl, hnw, har, hb, ea, ec, hrow, o1, o2, o3, o4, hsr⟩
    have HC := Lib.hid (show Cb12 w p r b a Z (((((((((((w3.setCell ⟨p, 0, none⟩ (.slice Z.A a.sl.length Z.c)).setCell ⟨p, 1, none⟩ (.slice Z.A2 a.st.length Z.c2)).setCell ⟨p, 2, none⟩ (.int .i64 a.ow)).setCell ⟨p, 3, none⟩ (.int .i64 a.cap)).setCell ⟨p, 4, none⟩ (.slice Z.A3 a.dl.length Z.c3)).setCell ⟨p, 5, none⟩ (.int .i64 a.dir.vn)).setCell ⟨p, 6, none⟩ (.slice Z.D.A a.dir.l.length Z.D.c)).setCell ⟨p, 7, none⟩ (.slice Z.D.A2 a.dir.F.length Z.D.c2)).setCell ⟨p, 8, none⟩ (.int .i64 a.ep)).setCell ⟨p, 9, none⟩ (.int .i64 a.ck)).setCell ⟨p, 10, none⟩ (.int .i64 a.ni)) from H1.out.copied hb hnw har ea ec hrow o1 o2 o3 o4)
    have HSR := Lib.hid (show Sr12 p' r' b a Z (((((((((((w3.setCell ⟨p, 0, none⟩ (.slice Z.A a.sl.length Z.c)).setCell ⟨p, 1, none⟩ (.slice Z.A2 a.st.length Z.c2)).setCell ⟨p, 2, none⟩ (.int .i64 a.ow)).setCell ⟨p, 3, none⟩ (.int .i64 a.cap)).setCell ⟨p, 4, none⟩ (.slice Z.A3 a.dl.length Z.c3)).setCell ⟨p, 5, none⟩ (.int .i64 a.dir.vn)).setCell ⟨p, 6, none⟩ (.slice Z.D.A a.dir.l.length Z.D.c)).setCell ⟨p, 7, none⟩ (.slice Z.D.A2 a.dir.F.length Z.D.c2)).setCell ⟨p, 8, none⟩ (.int .i64 a.ep)).setCell ⟨p, 9, none⟩ (.int .i64 a.ck)).setCell ⟨p, 10, none⟩ (.int .i64 a.ni)) from fun h0 => by
      obtain ⟨b2, e2, hc2, hr2, hne2, oo⟩ := hsr h0
      have l1 : w2.heap.size ≤ b2 := hnw.n2 _ e2
      exact ⟨b2, e2, hc2, hr2.set11 (show p ≠ b2 by have := H1.out.pb.lt; omega) a Z, hne2, oo⟩)
    have HNW := Lib.hid (hnw.low (show r + 1 ≤ _ from H1.out.rb.lt))
    have H2 := Lib.hid (H1.out.below hb)
    have HT2 := Lib.hid (show YT (((((((((((w3.setCell ⟨p, 0, none⟩ (.slice Z.A a.sl.length Z.c)).setCell ⟨p, 1, none⟩ (.slice Z.A2 a.st.length Z.c2)).setCell ⟨p, 2, none⟩ (.int .i64 a.ow)).setCell ⟨p, 3, none⟩ (.int .i64 a.cap)).setCell ⟨p, 4, none⟩ (.slice Z.A3 a.dl.length Z.c3)).setCell ⟨p, 5, none⟩ (.int .i64 a.dir.vn)).setCell ⟨p, 6, none⟩ (.slice Z.D.A a.dir.l.length Z.D.c)).setCell ⟨p, 7, none⟩ (.slice Z.D.A2 a.dir.F.length Z.D.c2)).setCell ⟨p, 8, none⟩ (.int .i64 a.ep)).setCell ⟨p, 9, none⟩ (.int .i64 a.ck)).setCell ⟨p, 10, none⟩ (.int .i64 a.ni)) q s from by
      have h1 := HT1.out.up hb
      have hpq : p ≠ q := by have := HPP.out; omega
      exact h1.far11 hpq a Z)
    clear hnw har hb ea ec hrow o1 o2 o3 o4 hsr H1 HCL HT1
    obtain ⟨y0, y1, y2, y3, y4, y5, y6, y7, y8, y9, y10⟩ := H2.out.pb.k
    have yl := H2.out.pb.lt
    obtain ⟨f0, f1, f2, f3, f4, f5, f6, f7, f8, f9, f10⟩ := H2.out.pb.free
    go_upto_region 7 with (fail)
    clear y0 y1 y2 y3 y4 y5 y6 y7 y8 y9 y10 yl f0 f1 f2 f3 f4 f5 f6 f7 f8 f9 f10 H2
    generalize ((((((((((w3.setCell ⟨p, 0, none⟩ (.slice Z.A a.sl.length Z.c)).setCell ⟨p, 1, none⟩ (.slice Z.A2 a.st.length Z.c2)).setCell ⟨p, 2, none⟩ (.int .i64 a.ow)).setCell ⟨p, 3, none⟩ (.int .i64 a.cap)).setCell ⟨p, 4, none⟩ (.slice Z.A3 a.dl.length Z.c3)).setCell ⟨p, 5, none⟩ (.int .i64 a.dir.vn)).setCell ⟨p, 6, none⟩ (.slice Z.D.A a.dir.l.length Z.D.c)).setCell ⟨p, 7, none⟩ (.slice Z.D.A2 a.dir.F.length Z.D.c2)).setCell ⟨p, 8, none⟩ (.int .i64 a.ep)).setCell ⟨p, 9, none⟩ (.int .i64 a.ck)).setCell ⟨p, 10, none⟩ (.int .i64 a.ni) = w4 at *
    obtain ⟨b2, e2, l2, ⟨q0, q1, q2, q3⟩, qf, hcb⟩ := HC.out.stripe HSR.out HNW.out HN.out.2.2
    have HCB := Lib.hid (show Cb12 w p r b TA Z ((((w4.setCell ⟨b2, n * 4, none⟩ (.int .i64 s.sq)).setCell ⟨b2, n * 4 + 1, none⟩ (.int .i64 s.ep)).setCell ⟨b2, n * 4 + 2, none⟩ (.int .i64 s.rd)).setCell ⟨b2, n * 4 + 3, none⟩ (.int .i64 s.ls)) from HA2.out ▸ hcb s)
    have HNY := Lib.hid HNW.out
    have hin := HN.out.1
    have hlt := HN.out.2.2
    have hlt' : (n : Int) < (a.st.length : Int) := by omega
    obtain ⟨-, y1, -⟩ := HC.out.pb.k
    have yl := HC.out.pb.lt
    rw [e2] at y1
    obtain ⟨⟨t0, t1, t2, t3⟩, tl⟩ := HT2.out
    have g0 := qf (n * 4)
    have g1 := qf (n * 4 + 1)
    have g2 := qf (n * 4 + 2)
    have g3 := qf (n * 4 + 3)
    subst hin
    clear hcb qf HC HSR HNW HA2 HT2 e2
    go_upto_region 8 with (fail)
    clear q0 q1 q2 q3 g0 g1 g2 g3 t0 t1 t2 t3 tl y1 yl hlt hlt'
    generalize (((w4.setCell ⟨b2, n * 4, none⟩ (.int .i64 s.sq)).setCell ⟨b2, n * 4 + 1, none⟩ (.int .i64 s.ep)).setCell ⟨b2, n * 4 + 2, none⟩ (.int .i64 s.rd)).setCell ⟨b2, n * 4 + 3, none⟩ (.int .i64 s.ls) = w6 at *
    have HF := Lib.hid (ae_out (show w.heap.size ≤ r by have := HCB.out.ne; omega) HCB.out.bel HNY.out (Nat.le_refl r) HCB.out.ar 0)
    obtain ⟨y0, y1, y2, y3, y4, y5, y6, y7, y8, y9, y10⟩ := HCB.out.pb.k
    have yl := HCB.out.pb.lt
    obtain ⟨r0, r1, r2, r3, r4, r5, r6, r7, r8, r9, r10⟩ := HCB.out.rb.k
    have rl := HCB.out.rb.lt
    obtain ⟨f0, f1, f2, f3, f4, f5, f6, f7, f8, f9, f10⟩ := HCB.out.rb.free
    have hpr : ¬ p = r := by have := HCB.out.ne; omega
    have hrp : ¬ r = p := fun e => hpr e.symm
    clear HCB HNY
    go_wp2
    exact bodyPost_ret (v := .tuple #[av TA Z, .int .i64 0]) (by simp only [results, Tryz.results12]; go_simp <;> rfl) rfl HF.out
  · have hne : (E != 0) = true := bne_iff_ne.2 hE0
    have HA2 := Lib.hid (HTA.out.trans (if_neg hE0))
    have HF := Lib.hid (show AE w TA E (.returned (.tuple #[.agg #[.slice none 0 0, .slice none 0 0, .int .i64 0, .int .i64 0, .slice none 0 0, .int .i64 0, .slice none 0 0, .slice none 0 0, .int .i64 0, .int .i64 0, .int .i64 0], .int .i64 E])) (set11 w2 r zA zAx) from by
      rw [HA2.out]
      exact ae_out (show w.heap.size ≤ r by have := H1.out.ne; omega) H1.out.bel (zAx_nw _) (Nat.le_refl r) AR.zero E)
    obtain ⟨r0, r1, r2, r3, r4, r5, r6, r7, r8, r9, r10⟩ := H1.out.rb.k
    have rl := H1.out.rb.lt
    obtain ⟨f0, f1, f2, f3, f4, f5, f6, f7, f8, f9, f10⟩ := H1.out.rb.free
    clear HTA HEE HA2 H1 HCL hE0
    go_wp2
    exact bodyPost_ret (v := .tuple #[.agg #[.slice none 0 0, .slice none 0 0, .int .i64 0, .int .i64 0, .slice none 0 0, .int .i64 0, .slice none 0 0, .slice none 0 0, .int .i64 0, .int .i64 0, .int .i64 0], .int .i64 E]) (by simp only [results, Tryz.results12]; go_simp <;> rfl) rfl HF.out
end Go.Proofs.YtijpflljopckiaaGreat
