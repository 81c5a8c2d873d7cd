/- What is proved here: in the statements of layer 7, awake is true; the hash of the document as a plain function of bytes, and the bit operations that its two programs use, as operations on natural numbers. No program is entered; Bnl; shardqueueref05.swap, up by contracts. -/
import Derived.Test.YtkkgfnncdaiooaaGreatJ30
import Derived.Test.YtkkgfnncdaiooaaGreatJ25
import Derived.Test.YtkkgfnncdaiooaaGreatJ23
import Derived.Laws.BitsAllLaws
import Derived.Laws.BitsLemmas
import Derived.Below
import Derived.Test.YtkkgfnncdaiooaaGreatJ01
import Derived.Test.YtkkgfnncdaiooaaGreatJ14
import Derived.Test.YtkkgfnncdaiooaaGreatJ16
namespace Go.Proofs.YtkkgfnncdaiooaaGreat
open Go.RowKit
set_option linter.unusedVariables false

theorem put_sh {V : Vs} {M : Msg} (k : V.Ok) (f : Fits V M) : puS V.sh M = 0 ∧ spuR V.sh M = (V.push M).sh := by
  have hd : dpB (V.sh.al ++ [M]) = false := by
    rw [k.al_sh]
    exact dpB_no (gd_perm (List.perm_append_singleton M V.al).symm (gd_cons.2 ⟨f.vf, k.gd, f.new⟩)).2
  have e : puS V.sh M = 0 := puS_0 (by rw [k.ex true]; rfl) f.vf (wi_true f.own.1 f.own.2) (by
    show ¬ ((V.L.length : Int) + V.l.length = (fil V.n V.hd V.L).length)
    rw [fil_len]
    have := f.room
    omega) hd
  refine ⟨e, ?_⟩
  obtain ⟨p1, p2⟩ := k.pb f
  unfold spuR
  rw [if_pos e]
  show Sh.mk true V.lo V.hi (pbC (fil V.n V.hd V.L) V.hd V.L.length M) (ifE (puE (fil V.n V.hd V.L) V.hd V.L.length M) V.hd) (ifE (puE (fil V.n V.hd V.L) V.hd V.L.length M) (V.L.length + 1)) V.l V.h = Sh.mk true V.lo V.hi (fil V.n V.hd (V.L ++ [M])) V.hd (V.L ++ [M]).length V.l V.h
  rw [p1, p2]
  simp [ifE]
theorem new_sh {n : Nat} {lo hi : Int} (h1 : 1 ≤ n) (h2 : n ≤ 12) (hs : 0 ≤ lo ∧ lo ≤ hi ∧ hi < 65536) : neE n lo hi = 0 ∧ neS n lo hi = (⟨lo, hi, n, 0, [], [], []⟩ : Vs).sh ∧ (⟨lo, hi, n, 0, [], [], []⟩ : Vs).Ok := by
  obtain ⟨e1, e2⟩ := nwC_fil h1 h2 0 (by omega)
  have e : neE n lo hi = 0 := by unfold neE; rw [if_neg (fun g => g e2), if_pos (spB_iff.2 hs)]
  refine ⟨e, ?_, ⟨h1, h2, by show 0 < n; omega, TbOk.nil, hs, by show 0 + 0 ≤ n; omega, gd_nil, fun M hM => by cases hM⟩⟩
  unfold neS
  rw [if_pos e, e1]
  rfl
def mA1 : Msg := ⟨1, 0, 0, 0, 0, 0, ⟨#[]⟩⟩
def xA1 : Le := ⟨⟨1, 0, 0, 1, 1, 0, ⟨#[]⟩⟩, 15⟩
def vA0 : Vs := ⟨0, 65535, 3, 0, [], [], []⟩
def vA1 : Vs := ⟨0, 65535, 3, 0, [mA1], [], []⟩
def vA2 : Vs := ⟨0, 65535, 3, 0, [], [xA1], [xA1.du]⟩
theorem aA0 : neE 3 0 65535 = 0 ∧ neS 3 0 65535 = vA0.sh ∧ vA0.Ok := new_sh (n := 3) (by decide) (by decide) (by decide)
theorem fA1 : Fits vA0 mA1 := ⟨by decide, by decide, by decide, fun N hN => by cases hN⟩
theorem aA1 : puS vA0.sh mA1 = 0 ∧ spuR vA0.sh mA1 = vA1.sh ∧ vA1.Ok := by
  obtain ⟨h1, h2⟩ := put_sh aA0.2.2 fA1
  exact ⟨h1, h2, aA0.2.2.push fA1⟩
theorem dA1 : dlM mA1 = xA1.m := dl_rv (M := mA1) (ep := 0) (lim := 3) (by decide) (by decide) (by decide)
theorem oA1 : leOk xA1 := ⟨by decide, by decide, by decide, by decide⟩
theorem kA1 : pk 1 (fun M => rvF M 0 3) [mA1] = ([mA1], []) := by
  have h : rvF mA1 0 3 = true := by decide
  unfold pk pkS
  simp [h]
theorem aA2 : vA1.take 1 (fun M => rvF M 0 3) 15 = vA2 ∧ vA2.Ok := by
  have e0 : (vA1.ring []).Ok := ring_ok aA1.2.2 (List.nil_sublist _)
  have f : Fits (vA1.ring []) xA1.m := ⟨by decide, by decide, by decide, fun N hN => by cases hN⟩
  obtain ⟨h1, h2, -, h3⟩ := e0.gr (x := xA1) f oA1
  have e3 : (vA1.ring []).gr xA1 = vA2 := by
    have g1 : grL [] [] xA1 = [xA1] := h3.trans rfl
    have g0 : grE [] [] xA1 = 0 := h1
    have g2 : grH [] [] xA1 = [xA1.du] := by
      unfold grH
      rw [if_pos g0]
      unfold hpu
      rw [List.length_nil, upF_zero]
      rfl
    show Vs.mk 0 65535 3 0 [] (grL [] [] xA1) (grH [] [] xA1) = _
    rw [g1, g2]
    rfl
  have e4 : vA1.take 1 (fun M => rvF M 0 3) 15 = (vA1.ring []).gr xA1 := by
    unfold Vs.take
    rw [show vA1.L = [mA1] from rfl, kA1]
    show (vA1.ring []).gr ⟨dlM mA1, 15⟩ = _
    rw [dA1]
    rfl
  rw [e4, e3]
  rw [e3] at h2
  exact ⟨rfl, h2⟩
theorem lA1 : lzF 15 (pk 1 (fun M => rvF M 0 3) vA1.L).1 = [xA1] := by
  rw [show vA1.L = [mA1] from rfl, kA1]
  show [(⟨dlM mA1, 15⟩ : Le)] = _
  rw [dA1]
  rfl
theorem fnA : fnO vA2.l vA2.h 1 = true ∧ fnX vA2.l vA2.h 1 = xA1 := aA2.2.tb.fn (k := 0) (by decide)
theorem hA14 : hoF vA2.sh ⟨1, 1, 0, 0⟩ 14 0 = true := by
  unfold hoF
  rw [aA2.2.ex]
  rw [show fnO vA2.sh.l vA2.sh.h 1 = true from fnA.1, show fnX vA2.sh.l vA2.sh.h 1 = xA1 from fnA.2]
  decide
theorem hA15 : hoF vA2.sh ⟨1, 1, 0, 0⟩ 15 0 = false := by
  unfold hoF
  rw [aA2.2.ex]
  rw [show fnO vA2.sh.l vA2.sh.h 1 = true from fnA.1, show fnX vA2.sh.l vA2.sh.h 1 = xA1 from fnA.2]
  decide
theorem lpA : laV vA2.l vA2.h 15 0 = [1] := by
  have t := aA2.2.tb
  have hh := (vaF_zero t.va).2.2.2
  have e : unF vA2.h 15 = [1] := by
    rw [unF_sorted hh (List.Perm.refl _) (by unfold Srt; exact List.pairwise_singleton _ _)]
    decide
  rw [t.lav]
  unfold laF
  rw [e, List.filter_cons, fnA.2]
  rfl
def SO1 (w : World) (S : Sh) (e : Ending) (w' : World) : Prop := ∃ D A c, e = .returned (.tuple #[sv S D, .slice A 1 c, .int .i64 0]) ∧ D.nw w.heap.size ∧ SR w' w'.heap.size S D ∧ Below w.heap.size w w'
theorem SAt.made {w W : World} {S : Sh} {D : Sx} (t : TypeId) (hb : Below w.heap.size w W) (hr : SR W W.heap.size S D) : SAt w W.heap.size S D (W.alloc (.cells #[.bool S.lv, .int .i64 S.lo, .int .i64 S.hi, .slice D.A S.cs.length D.c, .int .i64 S.hd, .int .i64 S.sz, .slice D.A2 S.l.length D.c2, .slice D.A3 S.h.length D.c3] t)) :=
  ⟨SB8.start W S D _, hr.up ((Below.refl _ _).alloc (Nat.le_refl _) _), hr.offs (Nat.le_refl _), hb.alloc hb.size _, hb.size⟩
set_option maxHeartbeats 8000000 in
set_option maxRecDepth 20000 in
theorem awake7_any (w : World) : Calls Tryz.prog 19 #[] w fun e w' => e = .returned (.bool true) ∧ Below w.heap.size w w' := by
  obtain ⟨S0, hS0⟩ : ∃ S, S = vA0.sh := ⟨_, rfl⟩
  obtain ⟨S1, hS1⟩ : ∃ S, S = vA1.sh := ⟨_, rfl⟩
  obtain ⟨S2, hS2⟩ : ∃ S, S = vA2.sh := ⟨_, rfl⟩
  have HN := Lib.hid (fun W => show Calls Tryz.prog 58 #[.int .i64 3, .int .i64 0, .int .i64 65535] W (SE W S0 0) from by
    have h := snew_any 3 0 65535 W
    rw [aA0.1, aA0.2.1, ← hS0] at h
    exact h)
  have HP := Lib.hid (fun D W (k : SR W W.heap.size S0 D) => show Calls Tryz.prog 59 #[sv S0 D, .agg #[.int .i64 1, .int .i64 0, .int .i64 0, .int .i64 0, .int .i64 0, .int .i64 0, .string ⟨#[]⟩]] W (SE W S1 0) from by
    have h := sput_any S0 D mA1 W k
    rw [hS0, aA1.1, aA1.2.1, ← hS1, ← hS0] at h
    exact h)
  have HT := Lib.hid (fun D W (k : SR W W.heap.size S1 D) => show Calls Tryz.prog 13 #[sv S1 D, .int .i64 1, .int .i64 10, .int .i64 5, .int .i64 0, .int .i64 3] W (SO1 W S2) from by
    rw [hS1] at k ⊢
    have h := stake_ok vA1 aA1.2.2 D 1 10 5 0 3 W k (by decide) (by decide)
    rw [show (10 : Int) + 5 = 15 from rfl, aA2.1, lA1, ← hS2] at h
    exact h.mono fun e w' ⟨D, A, c, he, hn, hr, _, _, hb⟩ => ⟨D, A, c, he, hn, hr, hb⟩)
  have HH1 := Lib.hid (fun D W (k : SR W W.heap.size S2 D) => show Calls Tryz.prog 60 #[sv S2 D, .agg #[.int .i64 1, .int .i64 1, .int .i64 0, .int .i64 0], .int .i64 14, .int .i64 0] W (fun e w' => e = .returned (.bool true) ∧ Below W.heap.size W w') from by
    have h := sholds_any S2 D ⟨1, 1, 0, 0⟩ 14 0 W k
    rw [hS2, hA14, ← hS2] at h
    exact h)
  have HH2 := Lib.hid (fun D W (k : SR W W.heap.size S2 D) => show Calls Tryz.prog 60 #[sv S2 D, .agg #[.int .i64 1, .int .i64 1, .int .i64 0, .int .i64 0], .int .i64 15, .int .i64 0] W (fun e w' => e = .returned (.bool false) ∧ Below W.heap.size W w') from by
    have h := sholds_any S2 D ⟨1, 1, 0, 0⟩ 15 0 W k
    rw [hS2, hA15, ← hS2] at h
    exact h)
  obtain ⟨S3, hS3⟩ : ∃ S, S = xpF vA2.sh (laV vA2.l vA2.h 15 0) := ⟨_, rfl⟩
  have HX := Lib.hid (fun D W (k : SR W W.heap.size S2 D) => show Calls Tryz.prog 16 #[sv S2 D, .int .i64 15, .int .i64 0, .int .i64 3] W (SO1 W S3) from by
    rw [hS2] at k ⊢
    have h := sexp_ok vA2 aA2.2 D 15 0 3 W k (by decide)
    rw [← hS3, lpA] at h
    exact h.mono fun e w' ⟨D, A, c, he, hn, hr, _, hb⟩ => ⟨D, A, c, he, hn, hr, hb⟩)
  clear hS0 hS1 hS2 hS3
  go_enter Tryz.func19, Tryz.ntmps19
  go_wp2_with fail
  refine (HN.out _).mono ?_
  rintro e w1 ⟨D0, rfl, hn, hr, hb⟩
  have H0 := Lib.hid (SAt.made 33 hb hr)
  clear hn hr hb
  obtain ⟨a, ha⟩ : ∃ a, a = w1.heap.size := ⟨_, rfl⟩
  obtain ⟨t0, t1, t2, t3, t4, t5, t6, t7, tl⟩ := H0.out.s8.facts
  go_wp2_with fail
  clear t0 t1 t2 t3 t4 t5 t6 t7 tl
  rw [← ha] at H0 ⊢
  clear ha
  generalize w1.alloc (.cells #[.bool S0.lv, .int .i64 S0.lo, .int .i64 S0.hi, .slice D0.A S0.cs.length D0.c, .int .i64 S0.hd, .int .i64 S0.sz, .slice D0.A2 S0.l.length D0.c2, .slice D0.A3 S0.h.length D0.c3] 33) = w2 at *
  refine (HP.out _ _ H0.out.sr).mono ?_
  rintro e w3 ⟨D1, rfl, hn, hr, hb⟩
  have H1 := Lib.hid (H0.out.below hb)
  have H1' := Lib.hid (show SAt w a S1 D1 ((((((((w3.setCell ⟨a, 0, none⟩ (.bool S1.lv)).setCell ⟨a, 1, none⟩ (.int .i64 S1.lo)).setCell ⟨a, 2, none⟩ (.int .i64 S1.hi)).setCell ⟨a, 3, none⟩ (.slice D1.A S1.cs.length D1.c)).setCell ⟨a, 4, none⟩ (.int .i64 S1.hd)).setCell ⟨a, 5, none⟩ (.int .i64 S1.sz)).setCell ⟨a, 6, none⟩ (.slice D1.A2 S1.l.length D1.c2)).setCell ⟨a, 7, none⟩ (.slice D1.A3 S1.h.length D1.c3)) from H1.out.put hr (hn.off H0.out.lt))
  clear hn hr hb
  obtain ⟨⟨t0, t1, t2, t3, t4, t5, t6, t7, tl⟩, ⟨f0, f1, f2, f3, f4, f5, f6, f7⟩⟩ := H1.out.s8.all
  go_wp2_with fail
  clear t0 t1 t2 t3 t4 t5 t6 t7 tl f0 f1 f2 f3 f4 f5 f6 f7
  generalize ((((((((w3.setCell ⟨a, 0, none⟩ (.bool S1.lv)).setCell ⟨a, 1, none⟩ (.int .i64 S1.lo)).setCell ⟨a, 2, none⟩ (.int .i64 S1.hi)).setCell ⟨a, 3, none⟩ (.slice D1.A S1.cs.length D1.c)).setCell ⟨a, 4, none⟩ (.int .i64 S1.hd)).setCell ⟨a, 5, none⟩ (.int .i64 S1.sz)).setCell ⟨a, 6, none⟩ (.slice D1.A2 S1.l.length D1.c2)).setCell ⟨a, 7, none⟩ (.slice D1.A3 S1.h.length D1.c3)) = w4 at *
  refine (HT.out _ _ H1'.out.sr).mono ?_
  rintro e w5 ⟨D2, A2, c2, rfl, hn, hr, hb⟩
  have H2 := Lib.hid (H1'.out.below hb)
  have H2' := Lib.hid (show SAt w a S2 D2 (((((((((w5.setCell ⟨a, 0, none⟩ (.bool S2.lv)).setCell ⟨a, 1, none⟩ (.int .i64 S2.lo)).setCell ⟨a, 2, none⟩ (.int .i64 S2.hi)).setCell ⟨a, 3, none⟩ (.slice D2.A S2.cs.length D2.c)).setCell ⟨a, 4, none⟩ (.int .i64 S2.hd)).setCell ⟨a, 5, none⟩ (.int .i64 S2.sz)).setCell ⟨a, 6, none⟩ (.slice D2.A2 S2.l.length D2.c2)).setCell ⟨a, 7, none⟩ (.slice D2.A3 S2.h.length D2.c3)).alloc (.cells #[.int .i64 1, .int .i64 1, .int .i64 0, .int .i64 0] 40)) from (H2.out.put hr (hn.off H1'.out.lt)).alloc _)
  have Q2 := Lib.hid (show H4 (((((((((w5.setCell ⟨a, 0, none⟩ (.bool S2.lv)).setCell ⟨a, 1, none⟩ (.int .i64 S2.lo)).setCell ⟨a, 2, none⟩ (.int .i64 S2.hi)).setCell ⟨a, 3, none⟩ (.slice D2.A S2.cs.length D2.c)).setCell ⟨a, 4, none⟩ (.int .i64 S2.hd)).setCell ⟨a, 5, none⟩ (.int .i64 S2.sz)).setCell ⟨a, 6, none⟩ (.slice D2.A2 S2.l.length D2.c2)).setCell ⟨a, 7, none⟩ (.slice D2.A3 S2.h.length D2.c3)).alloc (.cells #[.int .i64 1, .int .i64 1, .int .i64 0, .int .i64 0] 40)) w5.heap.size ⟨1, 1, 0, 0⟩ from by
    have h := H4.start ((((((((w5.setCell ⟨a, 0, none⟩ (.bool S2.lv)).setCell ⟨a, 1, none⟩ (.int .i64 S2.lo)).setCell ⟨a, 2, none⟩ (.int .i64 S2.hi)).setCell ⟨a, 3, none⟩ (.slice D2.A S2.cs.length D2.c)).setCell ⟨a, 4, none⟩ (.int .i64 S2.hd)).setCell ⟨a, 5, none⟩ (.int .i64 S2.sz)).setCell ⟨a, 6, none⟩ (.slice D2.A2 S2.l.length D2.c2)).setCell ⟨a, 7, none⟩ (.slice D2.A3 S2.h.length D2.c3)) ⟨1, 1, 0, 0⟩ 40
    rw [show (((((((((w5.setCell ⟨a, 0, none⟩ (.bool S2.lv)).setCell ⟨a, 1, none⟩ (.int .i64 S2.lo)).setCell ⟨a, 2, none⟩ (.int .i64 S2.hi)).setCell ⟨a, 3, none⟩ (.slice D2.A S2.cs.length D2.c)).setCell ⟨a, 4, none⟩ (.int .i64 S2.hd)).setCell ⟨a, 5, none⟩ (.int .i64 S2.sz)).setCell ⟨a, 6, none⟩ (.slice D2.A2 S2.l.length D2.c2)).setCell ⟨a, 7, none⟩ (.slice D2.A3 S2.h.length D2.c3))).heap.size = w5.heap.size by simp] at h
    exact h)
  clear hn hr hb
  obtain ⟨⟨t0, t1, t2, t3, t4, t5, t6, t7, tl⟩, ⟨f0, f1, f2, f3, f4, f5, f6, f7⟩⟩ := H2.out.s8.all
  go_wp2_with fail
  clear t0 t1 t2 t3 t4 t5 t6 t7 tl f0 f1 f2 f3 f4 f5 f6 f7
  generalize (((((((((w5.setCell ⟨a, 0, none⟩ (.bool S2.lv)).setCell ⟨a, 1, none⟩ (.int .i64 S2.lo)).setCell ⟨a, 2, none⟩ (.int .i64 S2.hi)).setCell ⟨a, 3, none⟩ (.slice D2.A S2.cs.length D2.c)).setCell ⟨a, 4, none⟩ (.int .i64 S2.hd)).setCell ⟨a, 5, none⟩ (.int .i64 S2.sz)).setCell ⟨a, 6, none⟩ (.slice D2.A2 S2.l.length D2.c2)).setCell ⟨a, 7, none⟩ (.slice D2.A3 S2.h.length D2.c3)).alloc (.cells #[.int .i64 1, .int .i64 1, .int .i64 0, .int .i64 0] 40)) = w6 at *
  refine (HX.out _ _ H2'.out.sr).mono ?_
  rintro e w7 ⟨D3, A3, c3, rfl, hn, hr, hb⟩
  have H3 := Lib.hid ((H2'.out.below hb).alloc (.cells #[.bool S3.lv, .int .i64 S3.lo, .int .i64 S3.hi, .slice D3.A S3.cs.length D3.c, .int .i64 S3.hd, .int .i64 S3.sz, .slice D3.A2 S3.l.length D3.c2, .slice D3.A3 S3.h.length D3.c3] 33))
  have Q3 := Lib.hid ((Q2.out.up hb).up ((Below.refl _ _).alloc (Nat.le_refl _) (.cells #[.bool S3.lv, .int .i64 S3.lo, .int .i64 S3.hi, .slice D3.A S3.cs.length D3.c, .int .i64 S3.hd, .int .i64 S3.sz, .slice D3.A2 S3.l.length D3.c2, .slice D3.A3 S3.h.length D3.c3] 33)))
  clear hn hr hb
  obtain ⟨t0, t1, t2, t3, t4, t5, t6, t7, tl⟩ := H3.out.s8.facts
  obtain ⟨q0, q1, q2, q3, ql⟩ := Q3.out
  go_wp2_with fail
  clear t0 t1 t2 t3 t4 t5 t6 t7 tl q0 q1 q2 q3 ql
  refine (HH1.out _ _ H3.out.sr).mono ?_
  rintro e w8 ⟨rfl, hb⟩
  have H4' := Lib.hid (H3.out.below hb)
  have Q4 := Lib.hid (Q3.out.up hb)
  clear hb
  obtain ⟨t0, t1, t2, t3, t4, t5, t6, t7, tl⟩ := H4'.out.s8.facts
  obtain ⟨q0, q1, q2, q3, ql⟩ := Q4.out
  go_wp2_with fail
  clear t0 t1 t2 t3 t4 t5 t6 t7 tl q0 q1 q2 q3 ql
  refine (HH2.out _ _ H4'.out.sr).mono ?_
  rintro e w9 ⟨rfl, hb⟩
  have H5 := Lib.hid (H4'.out.below hb)
  clear hb
  go_wp2
  go_ret
  exact ⟨rfl, H5.out.bel⟩
end Go.Proofs.YtkkgfnncdaiooaaGreat
namespace Go.Proofs.YtkkgfnncdaiooaaGreat
open Go.RowKit

theorem nat_i64 (a : Nat) (ha : a < 9223372036854775808) : (BitVec.ofInt 64 (a : Int)).toNat = a := by
  rw [BitVec.ofInt_natCast, BitVec.toNat_ofNat]; exact Nat.mod_eq_of_lt (by omega)
theorem xor_i64 (a b : Nat) (ha : a < 9223372036854775808) (hb : b < 9223372036854775808) : bits .xor .i64 (a : Int) (b : Int) = ((a ^^^ b : Nat) : Int) := by
  have hx : a ^^^ b < 2 ^ 63 := Nat.xor_lt_two_pow (by omega) (by omega)
  show IntKind.i64.wrap ((BitVec.ofInt 64 (a : Int) ^^^ BitVec.ofInt 64 (b : Int)).toNat : Int) = _
  rw [BitVec.toNat_xor, nat_i64 a ha, nat_i64 b hb, IntKind.wrap_i64]
  omega
theorem and_ones (n : Int) (k m : Nat) (hk : k ≤ 62) (hm : m = 2 ^ k - 1) : bits .and .i64 n m = n % 2 ^ k := by
  have hp : 2 ^ k ≤ 2 ^ 62 := Nat.pow_le_pow_right (by omega) hk
  have hp0 : 0 < 2 ^ k := Nat.pow_pos (by omega)
  have h3 : (BitVec.ofInt 64 (m : Int)).toNat = 2 ^ k - 1 := by rw [nat_i64 m (by omega), hm]
  have key : (BitVec.ofInt 64 n &&& BitVec.ofInt 64 (m : Int)).toNat = (n % ((2 ^ 64 : Nat) : Int)).toNat % 2 ^ k := by
    rw [BitVec.toNat_and, BitVec.toNat_ofInt, h3, Nat.and_two_pow_sub_one_eq_mod]
  show IntKind.i64.wrap ((BitVec.ofInt 64 n &&& BitVec.ofInt 64 (m : Int)).toNat : Nat) = n % 2 ^ k
  rw [key, IntKind.wrap_i64]
  have h1 : (n % ((2 ^ 64 : Nat) : Int)).toNat % 2 ^ k < 2 ^ k := Nat.mod_lt _ hp0
  have h2 : (((n % ((2 ^ 64 : Nat) : Int)).toNat % 2 ^ k : Nat) : Int) = n % 2 ^ k := by
    have hd : ((2 ^ k : Nat) : Int) ∣ ((2 ^ 64 : Nat) : Int) := Int.natCast_dvd_natCast.2 (Nat.pow_dvd_pow 2 (by omega))
    rw [Int.natCast_emod, Int.toNat_of_nonneg (by omega), Int.emod_emod_of_dvd n hd, Int.natCast_pow]
    rfl
  rw [← h2]
  omega
theorem and_ffff (n : Int) : bits .and .i64 n 65535 = n % 65536 := and_ones n 16 65535 (by omega) (by omega)
theorem and_ffffffff (n : Int) : bits .and .i64 n 4294967295 = n % 4294967296 := and_ones n 32 4294967295 (by omega) (by omega)

def fst1 (h b : Nat) : Nat := (h ^^^ b) * 16777619 % 4294967296
def fnvOn (h : Nat) (bs : List UInt8) : Nat := bs.foldl (fun h b => fst1 h b.toNat) h
def fnv (bs : List UInt8) : Nat := fnvOn 2166136261 bs

theorem fst1_lt (h b : Nat) : fst1 h b < 4294967296 := Nat.mod_lt _ (by decide)
theorem fnvOn_lt (h : Nat) (bs : List UInt8) (hh : h < 4294967296) : fnvOn h bs < 4294967296 := by
  induction bs generalizing h with
  | nil => exact hh
  | cons b r ih => exact ih _ (fst1_lt _ _)
theorem fnv_lt (bs : List UInt8) : fnv bs < 4294967296 := fnvOn_lt _ _ (by decide)
theorem fnv_take (bs : List UInt8) (k : Nat) (h : k < bs.length) : fnv (bs.take (k + 1)) = fst1 (fnv (bs.take k)) bs[k].toNat := by
  unfold fnv fnvOn
  rw [List.take_succ_eq_append_getElem h, List.foldl_append, List.foldl_cons, List.foldl_nil]
end Go.Proofs.YtkkgfnncdaiooaaGreat
/- Plain: what an append onto nil, onto what a call owns leaves. -/
namespace Go.Proofs.YtkkgfnncdaiooaaGreat
open Go.RowKit
set_option linter.unusedVariables false

theorem below_nil {W W' : World} {v : Value} (hg : W.grownBy W' v.ownBlock) (hv : v.ownBlock = none) : Below W.heap.size W W' := (Below.refl _ _).grown hg (Nat.le_refl _) (fun k hk => by rw [hv] at hk; cases hk)
theorem below_own {W0 W W' : World} {n size : Nat} {e : TypeId} {v : Value} {xs : List Value} (hb : Below W0.heap.size W0 W) (ho : W.ownsRow W0.heap.size e size v n xs) (hg : W.grownBy W' v.ownBlock) : Below W0.heap.size W0 W' := hb.grown hg hb.size (fun k hk => (ho.lt k hk).1)
end Go.Proofs.YtkkgfnncdaiooaaGreat
namespace Go.Proofs.YtkkgfnncdaiooaaGreat
open Go.RowKit
set_option linter.unusedVariables false

set_option maxHeartbeats 4000000 in
set_option maxRecDepth 20000 in
theorem rswap_any (A : Option Addr) (n c i k : Nat) (l : List Du) (w : World) (hv : Dl w w.heap.size (.slice A n c) l) (hi : i < n) (hk : k < n) (hik : i ≠ k) (h100 : n ≤ 100) :
    Calls Tryz.prog 217 #[.slice A n c, .int .i64 i, .int .i64 k] w (DlV w (swp l i k)) := by
  obtain ⟨rfl, hm1, hm2⟩ := hv.len
  obtain ⟨i0, hi0, hz0⟩ := Option.map_eq_some_iff.1 info_due
  simp only [Prod.mk.injEq] at hz0
  have HI := Lib.hid hi0
  have HZ := Lib.hid hz0
  have HRD := Lib.hid hv.rd
  have HV := Lib.hid hv
  have hi' : (i : Int) < (l.length : Int) := by omega
  have hk' : (k : Int) < (l.length : Int) := by omega
  obtain ⟨b, o, rfl, hb, c0, c1⟩ := hv.atg hi
  obtain ⟨b', o', e', hb', d0, d1⟩ := hv.atg hk
  injection e' with e'
  injection e' with e1 e2
  subst e1; subst e2
  clear hb' hv hi0 hz0
  obtain ⟨X, hX⟩ : ∃ X, ge l i = X := ⟨_, rfl⟩
  obtain ⟨Y, hY⟩ : ∃ Y, ge l k = Y := ⟨_, rfl⟩
  have HX := Lib.hid hX
  have HY := Lib.hid hY
  rw [hX] at c0 c1
  rw [hY] at d0 d1
  have HB := Lib.hid hb
  have HC := Lib.hid (And.intro (And.intro c0 c1) (And.intro d0 d1))
  clear hX hY c0 c1 d0 d1 hb
  go_enter Tryz.func217, Tryz.ntmps217
  go_wp2_with (at_builtin; refine wpList_append_rd _ rfl (.const (.slice none 0 0)) (.tmp 8) 29 rfl w.heap.size 123 i0 _ 2 16 Tryz.underlying29 HI.out HZ.out.1 HZ.out.2.1 HZ.out.2.2 rfl (by omega) (.slice none 0 0) 0 [] rfl (World.ownsRow_nil _ _ _ _) w.heap.size (some ⟨b, o, none⟩) l.length c (dcs l) rfl HRD.out (dcs_one l) (by unfold maxLen; omega) (by omega) (Nat.le_refl _) ?_; intro v1 w1 hown1 hg1 hat1)
  rw [Nat.zero_add, List.nil_append] at hown1
  have HB1 := Lib.hid (show Below w.heap.size w w1 from (Below.refl w.heap.size w).grown hg1 (Nat.le_refl _) (fun k e => by simp [Value.ownBlock] at e))
  obtain ⟨q, cap, rfl, hq, hle, hmx, hrow⟩ := own_row hown1 (by omega)
  have HR := Lib.hid (RwAt.mk (w := w1) hrow rfl (Below.refl q w1))
  have HQ := Lib.hid hq
  have HM := Lib.hid (And.intro hle hmx)
  have hbq : ¬ (b = q) := by have := HB.out; omega
  have hqb : ¬ (q = b) := fun e => hbq e.symm
  clear hown1 hg1 hat1 hq hle hmx hrow
  obtain ⟨y0, y1, f0, f1, hql⟩ := HR.out.row.at_ hi
  obtain ⟨z0, z1, e0, e1, -⟩ := HR.out.row.at_ hk
  rw [HX.out] at y0 y1
  rw [HY.out] at z0 z1
  have c0 := (HB1.out.cell (p := ⟨b, o + i * 2, none⟩) HB.out).trans HC.out.1.1
  have c1 := (HB1.out.cell (p := ⟨b, o + i * 2 + 1, none⟩) HB.out).trans HC.out.1.2
  have d0 := (HB1.out.cell (p := ⟨b, o + k * 2, none⟩) HB.out).trans HC.out.2.1
  have d1 := (HB1.out.cell (p := ⟨b, o + k * 2 + 1, none⟩) HB.out).trans HC.out.2.2
  have n1 : ¬ (i = k) := hik
  have n2 : ¬ (k = i) := fun e => hik e.symm
  go_region
  clear c0 c1 d0 d1 y0 y1 z0 z1 f0 f1 e0 e1 hql
  have HR2 := Lib.hid ((HR.out.swap hi hk).drew)
  rw [HX.out, HY.out] at HR2
  generalize ((((w1.setCell ⟨q, i * 2, none⟩ (.int .i64 Y.dl)).setCell ⟨q, i * 2 + 1, none⟩ (.int .i64 Y.id)).setCell ⟨q, k * 2, none⟩ (.int .i64 X.dl)).setCell ⟨q, k * 2 + 1, none⟩ (.int .i64 X.id)).drew = w2 at *
  have HF := Lib.hid (show DlV w (swp l i k) (.returned (.slice (some ⟨q, 0, none⟩) l.length cap)) w2 from ⟨some ⟨q, 0, none⟩, cap, by rw [swp_len], nw_some HQ.out, by rw [swp_len]; exact HR2.out.row.dl' HR2.out.len HM.out.1 HM.out.2, HB1.out.trans (HR2.out.bel.mono HQ.out)⟩)
  go_wp2
  go_ret
  exact HF.out

structure LsAt (w : World) (lo : Nat) (v : Value) (l : List Du) (W : World) : Prop where
  dl : Dl W W.heap.size v l
  nw : NwV lo v
  bel : Below w.heap.size w W
theorem LsAt.below {w W W' : World} {lo : Nat} {v : Value} {l : List Du} (h : LsAt w lo v l W) (hb : Below W.heap.size W W') : LsAt w lo v l W' := ⟨h.dl.up hb, h.nw, h.bel.trans (hb.mono h.bel.size)⟩
theorem LsAt.drewN {w W : World} {lo : Nat} {v : Value} {l : List Du} (h : LsAt w lo v l W) (k : Nat) : LsAt w lo v l (W.drewN k) := ⟨h.dl, h.nw, ⟨h.bel.os, h.bel.tape, h.bel.output, h.bel.size, h.bel.block⟩⟩
def LvP (w : World) (lo : Nat) (l : List Du) (e : Ending) (w' : World) : Prop := ∃ v, e = .returned v ∧ LsAt w lo v l w'

set_option maxHeartbeats 4000000 in
set_option maxRecDepth 20000 in
theorem rup_any (lo : Nat) (A : Option Addr) (n c i : Nat) (l : List Du) (w : World) (hv : Dl w w.heap.size (.slice A n c) l) (hlo : lo ≤ w.heap.size) (hnw : Nw lo A) (hi : i < n) (h100 : n ≤ 100) :
    Calls Tryz.prog 205 #[.slice A n c, .int .i64 i] w (LvP w lo (upF l i)) := by
  obtain ⟨rfl, hm1, hm2⟩ := hv.len
  have H := Lib.hid (show LsAt w lo (.slice A l.length c) l w from ⟨hv, nwv_mk hnw, Below.refl _ _⟩)
  have HLO := Lib.hid hlo
  have hi100 : (i : Int) ≤ 100 := by omega
  have HN := Lib.hid (show l.length ≤ 100 from h100)
  obtain ⟨n, hn⟩ : ∃ n, n = l.length := ⟨_, rfl⟩
  rw [← hn] at H HN hi ⊢
  have HLN := Lib.hid hn
  clear hv hm1 hm2 hnw hlo h100 hn
  go_enter Tryz.func205, Tryz.ntmps205
  go_wp2
  go_loopw [0, 1] (fun hv iv wr => ∃ (j : Nat) (A' : Option Addr) (c' : Nat) (g : List Du), hv = .slice A' n c' ∧ iv = .int .i64 j ∧ j ≤ i ∧ g.length = n ∧ upF g j = upF l i ∧ LsAt w lo (.slice A' n c') g wr) (fun _ iv _ => (intOf iv).toNat)
  case atStart => exact ⟨i, A, c, l, rfl, rfl, Nat.le_refl _, HLN.out.symm, rfl, H.out⟩
  case round =>
    obtain ⟨j, A', c', g, rfl, rfl, hji, hgn, hu, hla⟩ := hrel
    have HL := Lib.hid hla
    have HU := Lib.hid hu
    have HGN := Lib.hid hgn
    clear hla hu hgn
    by_cases hj0 : 0 < j
    · obtain ⟨p, hp⟩ : ∃ p, p = (j - 1) / 2 := ⟨_, rfl⟩
      have HPP := Lib.hid hp
      have hjn : j < n := by omega
      have hpn : p < n := by omega
      have hw1 : IntKind.i64.wrap ((j : Int) - 1) = (j : Int) - 1 := IntWalk.i64_in _ (by omega)
      have hq1 : ((j : Int) - 1).tdiv 2 = (p : Int) := by rw [Int.tdiv_eq_ediv_of_nonneg (by omega)]; omega
      have hw2 : IntKind.i64.wrap (p : Int) = (p : Int) := IntWalk.i64_in _ (by omega)
      clear hp
      obtain ⟨b, o, rfl, hb, c0, c1⟩ := HL.out.dl.atg (k := j) (by rw [HGN.out]; exact hjn)
      obtain ⟨b', o', e', hb', d0, d1⟩ := HL.out.dl.atg (k := p) (by rw [HGN.out]; exact hpn)
      injection e' with e'
      injection e' with e1 e2
      subst e1; subst e2
      clear hb'
      obtain ⟨X, hX⟩ : ∃ X, ge g j = X := ⟨_, rfl⟩
      obtain ⟨Y, hY⟩ : ∃ Y, ge g p = Y := ⟨_, rfl⟩
      have HX := Lib.hid hX
      have HY := Lib.hid hY
      rw [hX] at c0 c1
      rw [hY] at d0 d1
      clear hX hY
      have HF := Lib.hid (fun w1 => rbef_any X Y w1)
      have HSA := Lib.hid (show wr.drew.cell? ⟨b, o + j * 2, none⟩ = some (.int .i64 X.dl) ∧ wr.drew.cell? ⟨b, o + j * 2 + 1, none⟩ = some (.int .i64 X.id) ∧ wr.drew.cell? ⟨b, o + p * 2, none⟩ = some (.int .i64 Y.dl) ∧ wr.drew.cell? ⟨b, o + p * 2 + 1, none⟩ = some (.int .i64 Y.id) from ⟨c0, c1, d0, d1⟩)
      have HSC := Lib.hid (fun w1 (hb1 : Below wr.drew.heap.size wr.drew w1) => show (w1.cell? ⟨b, o + j * 2, none⟩ = some (.int .i64 X.dl) ∧ w1.cell? ⟨b, o + j * 2 + 1, none⟩ = some (.int .i64 X.id) ∧ w1.cell? ⟨b, o + p * 2, none⟩ = some (.int .i64 Y.dl) ∧ w1.cell? ⟨b, o + p * 2 + 1, none⟩ = some (.int .i64 Y.id)) ∧ LsAt w lo (.slice (some ⟨b, o, none⟩) n c') g w1 from ⟨⟨(hb1.cell (p := ⟨b, o + j * 2, none⟩) hb).trans c0, (hb1.cell (p := ⟨b, o + j * 2 + 1, none⟩) hb).trans c1, (hb1.cell (p := ⟨b, o + p * 2, none⟩) hb).trans d0, (hb1.cell (p := ⟨b, o + p * 2 + 1, none⟩) hb).trans d1⟩, HL.out.below (drew_bel hb1)⟩)
      have hj0' : (0 : Int) < (j : Int) := by omega
      have hjn' : (j : Int) < (n : Int) := by omega
      have hpn' : (p : Int) < (n : Int) := by omega
      have hgd : decide ((0 : Int) < (j : Int)) = true := decide_eq_true hj0'
      clear hb
      cases hbf : bef X Y with
      | true =>
        have HSW := Lib.hid (fun w1 hv => rswap_any (some ⟨b, o, none⟩) n c' j p g w1 hv hjn hpn (by have := HPP.out; omega) HN.out)
        have HUU := Lib.hid (show upF (swp g j p) p = upF l i by
          have hb2 : bef (ge g j) (ge g ((j - 1) / 2)) = true := by rw [← HPP.out, HX.out, HY.out]; exact hbf
          rw [HPP.out, ← HU.out, upF_step hj0 hb2])
        rw [hbf] at HF
        clear hbf
        go_wp2
        go_region_held3 (fun W => W.cell? ⟨b, o + j * 2, none⟩ = some (.int .i64 X.dl) ∧ W.cell? ⟨b, o + j * 2 + 1, none⟩ = some (.int .i64 X.id) ∧ W.cell? ⟨b, o + p * 2, none⟩ = some (.int .i64 Y.dl) ∧ W.cell? ⟨b, o + p * 2 + 1, none⟩ = some (.int .i64 Y.id))
          (first | with_reducible exact HSA.out | with_reducible exact HSB.out)
          ((go_at_call 165; (with_reducible refine (HF.out _).mono ?_); rintro e w1 ⟨rfl, hb1⟩; obtain ⟨hs, hbb⟩ := HSC.out _ hb1; have HSB := Lib.hid hs; have HL1 := Lib.hid hbb; clear hb1 hs hbb))
        clear c0 c1 d0 d1
        go_wp2_with fail
        refine (HSW.out _ HL1.out.dl).mono ?_
        rintro e w2 ⟨A2, c2, rfl, hnw2, hl2, hb2⟩
        have hsl : (swp g j p).length = n := by rw [swp_len]; exact HGN.out
        rw [hsl] at hl2 ⊢
        have HL2 := Lib.hid (show LsAt w lo (.slice A2 n c2) (swp g j p) w2 from ⟨hl2, nwv_mk (nw_low hnw2 (Nat.le_trans HLO.out HL1.out.bel.size)), HL1.out.bel.trans (hb2.mono HL1.out.bel.size)⟩)
        have HSL := Lib.hid hsl
        have HPJ := Lib.hid (show p < j by have := HPP.out; omega)
        clear hnw2 hl2 hb2 hsl
        go_wp2
        go_roundw
        case rel => exact ⟨p, A2, c2, swp g j p, rfl, rfl, by have := HPJ.out; omega, HSL.out, HUU.out, HL2.out⟩
        case measure => have := HPJ.out; simp [intOf]; omega
      | false =>
        have HUU := Lib.hid (show upF l i = g by
          have hb2 : bef (ge g j) (ge g ((j - 1) / 2)) = false := by rw [← HPP.out, HX.out, HY.out]; exact hbf
          rw [← HU.out, upF_stop hb2])
        rw [hbf] at HF
        clear hbf
        go_wp2
        go_region_held3 (fun W => W.cell? ⟨b, o + j * 2, none⟩ = some (.int .i64 X.dl) ∧ W.cell? ⟨b, o + j * 2 + 1, none⟩ = some (.int .i64 X.id) ∧ W.cell? ⟨b, o + p * 2, none⟩ = some (.int .i64 Y.dl) ∧ W.cell? ⟨b, o + p * 2 + 1, none⟩ = some (.int .i64 Y.id))
          (first | with_reducible exact HSA.out | with_reducible exact HSB.out)
          ((go_at_call 165; (with_reducible refine (HF.out _).mono ?_); rintro e w1 ⟨rfl, hb1⟩; obtain ⟨hs, hbb⟩ := HSC.out _ hb1; have HSB := Lib.hid hs; have HL1 := Lib.hid hbb; clear hb1 hs hbb))
        clear c0 c1 d0 d1 hw1 hq1 hw2
        go_wp2
        go_ret
        exact ⟨_, rfl, by rw [HUU.out]; exact HL1.out⟩
    · obtain rfl : j = 0 := by omega
      have HUU := Lib.hid (show upF l i = g by rw [← HU.out, upF_zero])
      go_wp2
      go_quiet (fail)
      go_wp2
      go_ret
      exact ⟨_, rfl, by rw [HUU.out]; exact HL.out.drewN _⟩
end Go.Proofs.YtkkgfnncdaiooaaGreat
