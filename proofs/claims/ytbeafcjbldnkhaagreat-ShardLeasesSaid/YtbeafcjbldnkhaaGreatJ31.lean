/- What is proved here: in the statements of layer 7, awake is true; the hash of the document as a plain function of bytes, and the bit operations that its two programs use, as operations on natural numbers. No program is entered; shard.handleError by a contract; shard.Ack by a contract. -/
import Derived.Test.YtbeafcjbldnkhaaGreatJ30
import Derived.Test.YtbeafcjbldnkhaaGreatJ25
import Derived.Test.YtbeafcjbldnkhaaGreatJ23
import Derived.Laws.BitsAllLaws
import Derived.Laws.BitsLemmas
import Derived.Below
import Derived.Test.YtbeafcjbldnkhaaGreatJ26
import Derived.ArgAppend
namespace Go.Proofs.YtbeafcjbldnkhaaGreat
open Go.RowKit
set_option linter.unusedVariables false

/-- A push into a valid live shard. -/
theorem put_sh {V : Vs} {M : Msg} (k : V.Ok) (f : Fits V M) : puS V.sh M = 0 ∧ spuR V.sh M = (V.push M).sh := by
  have hd : dpB (V.sh.al ++ [M]) = false := by
    rw [k.al_sh]
    exact dpB_no (gd_perm (List.perm_append_singleton M V.al).symm (gd_cons.2 ⟨f.vf, k.gd, f.new⟩)).2
  have e : puS V.sh M = 0 := puS_0 (by rw [k.ex true]; rfl) f.vf (wi_true f.own.1 f.own.2) (by
    show ¬ ((V.L.length : Int) + V.l.length = (fil V.n V.hd V.L).length)
    rw [fil_len]
    have := f.room
    omega) hd
  refine ⟨e, ?_⟩
  obtain ⟨p1, p2⟩ := k.pb f
  unfold spuR
  rw [if_pos e]
  show Sh.mk true V.lo V.hi (pbC (fil V.n V.hd V.L) V.hd V.L.length M) (ifE (puE (fil V.n V.hd V.L) V.hd V.L.length M) V.hd) (ifE (puE (fil V.n V.hd V.L) V.hd V.L.length M) (V.L.length + 1)) V.l V.h = Sh.mk true V.lo V.hi (fil V.n V.hd (V.L ++ [M])) V.hd (V.L ++ [M]).length V.l V.h
  rw [p1, p2]
  simp [ifE]
/-- A new shard. -/
theorem new_sh {n : Nat} {lo hi : Int} (h1 : 1 ≤ n) (h2 : n ≤ 12) (hs : 0 ≤ lo ∧ lo ≤ hi ∧ hi < 65536) : neE n lo hi = 0 ∧ neS n lo hi = (⟨lo, hi, n, 0, [], [], []⟩ : Vs).sh ∧ (⟨lo, hi, n, 0, [], [], []⟩ : Vs).Ok := by
  obtain ⟨e1, e2⟩ := nwC_fil h1 h2 0 (by omega)
  have e : neE n lo hi = 0 := by unfold neE; rw [if_neg (fun g => g e2), if_pos (spB_iff.2 hs)]
  refine ⟨e, ?_, ⟨h1, h2, by show 0 < n; omega, TbOk.nil, hs, by show 0 + 0 ≤ n; omega, gd_nil, fun M hM => by cases hM⟩⟩
  unfold neS
  rw [if_pos e, e1]
  rfl
def mA1 : Msg := ⟨1, 0, 0, 0, 0, 0, ⟨#[]⟩⟩
def xA1 : Le := ⟨⟨1, 0, 0, 1, 1, 0, ⟨#[]⟩⟩, 15⟩
def vA0 : Vs := ⟨0, 65535, 3, 0, [], [], []⟩
def vA1 : Vs := ⟨0, 65535, 3, 0, [mA1], [], []⟩
def vA2 : Vs := ⟨0, 65535, 3, 0, [], [xA1], [xA1.du]⟩
theorem aA0 : neE 3 0 65535 = 0 ∧ neS 3 0 65535 = vA0.sh ∧ vA0.Ok := new_sh (n := 3) (by decide) (by decide) (by decide)
theorem fA1 : Fits vA0 mA1 := ⟨by decide, by decide, by decide, fun N hN => by cases hN⟩
theorem aA1 : puS vA0.sh mA1 = 0 ∧ spuR vA0.sh mA1 = vA1.sh ∧ vA1.Ok := by
  obtain ⟨h1, h2⟩ := put_sh aA0.2.2 fA1
  exact ⟨h1, h2, aA0.2.2.push fA1⟩
theorem dA1 : dlM mA1 = xA1.m := dl_rv (M := mA1) (ep := 0) (lim := 3) (by decide) (by decide) (by decide)
theorem oA1 : leOk xA1 := ⟨by decide, by decide, by decide, by decide⟩
theorem kA1 : pk 1 (fun M => rvF M 0 3) [mA1] = ([mA1], []) := by
  have h : rvF mA1 0 3 = true := by decide
  unfold pk pkS
  simp [h]
theorem aA2 : vA1.take 1 (fun M => rvF M 0 3) 15 = vA2 ∧ vA2.Ok := by
  have e0 : (vA1.ring []).Ok := ring_ok aA1.2.2 (List.nil_sublist _)
  have f : Fits (vA1.ring []) xA1.m := ⟨by decide, by decide, by decide, fun N hN => by cases hN⟩
  obtain ⟨h1, h2, -, h3⟩ := e0.gr (x := xA1) f oA1
  have e3 : (vA1.ring []).gr xA1 = vA2 := by
    have g1 : grL [] [] xA1 = [xA1] := h3.trans rfl
    have g0 : grE [] [] xA1 = 0 := h1
    have g2 : grH [] [] xA1 = [xA1.du] := by
      unfold grH
      rw [if_pos g0]
      unfold hpu
      rw [List.length_nil, upF_zero]
      rfl
    show Vs.mk 0 65535 3 0 [] (grL [] [] xA1) (grH [] [] xA1) = _
    rw [g1, g2]
    rfl
  have e4 : vA1.take 1 (fun M => rvF M 0 3) 15 = (vA1.ring []).gr xA1 := by
    unfold Vs.take
    rw [show vA1.L = [mA1] from rfl, kA1]
    show (vA1.ring []).gr ⟨dlM mA1, 15⟩ = _
    rw [dA1]
    rfl
  rw [e4, e3]
  rw [e3] at h2
  exact ⟨rfl, h2⟩
theorem lA1 : lzF 15 (pk 1 (fun M => rvF M 0 3) vA1.L).1 = [xA1] := by
  rw [show vA1.L = [mA1] from rfl, kA1]
  show [(⟨dlM mA1, 15⟩ : Le)] = _
  rw [dA1]
  rfl
theorem fnA : fnO vA2.l vA2.h 1 = true ∧ fnX vA2.l vA2.h 1 = xA1 := aA2.2.tb.fn (k := 0) (by decide)
theorem hA14 : hoF vA2.sh ⟨1, 1, 0, 0⟩ 14 0 = true := by
  unfold hoF
  rw [aA2.2.ex]
  rw [show fnO vA2.sh.l vA2.sh.h 1 = true from fnA.1, show fnX vA2.sh.l vA2.sh.h 1 = xA1 from fnA.2]
  decide
theorem hA15 : hoF vA2.sh ⟨1, 1, 0, 0⟩ 15 0 = false := by
  unfold hoF
  rw [aA2.2.ex]
  rw [show fnO vA2.sh.l vA2.sh.h 1 = true from fnA.1, show fnX vA2.sh.l vA2.sh.h 1 = xA1 from fnA.2]
  decide
theorem lpA : laV vA2.l vA2.h 15 0 = [1] := by
  have t := aA2.2.tb
  have hh := (vaF_zero t.va).2.2.2
  have e : unF vA2.h 15 = [1] := by
    rw [unF_sorted hh (List.Perm.refl _) (by unfold Srt; exact List.pairwise_singleton _ _)]
    decide
  rw [t.lav]
  unfold laF
  rw [e, List.filter_cons, fnA.2]
  rfl
/-- A shard, a list of one and no error as a result. -/
def SO1 (w : World) (S : Sh) (e : Ending) (w' : World) : Prop := ∃ D A c, e = .returned (.tuple #[sv S D, .slice A 1 c, .int .i64 0]) ∧ D.nw w.heap.size ∧ SR w' w'.heap.size S D ∧ Below w.heap.size w w'
theorem SAt.made {w W : World} {S : Sh} {D : Sx} (t : TypeId) (hb : Below w.heap.size w W) (hr : SR W W.heap.size S D) : SAt w W.heap.size S D (W.alloc (.cells #[.bool S.lv, .int .i64 S.lo, .int .i64 S.hi, .slice D.A S.cs.length D.c, .int .i64 S.hd, .int .i64 S.sz, .slice D.A2 S.l.length D.c2, .slice D.A3 S.h.length D.c3] t)) :=
  ⟨SB8.start W S D _, hr.up ((Below.refl _ _).alloc (Nat.le_refl _) _), hr.offs (Nat.le_refl _), hb.alloc hb.size _, hb.size⟩
set_option maxHeartbeats 8000000 in
set_option maxRecDepth 20000 in
theorem awake7_any (w : World) : Calls Tryz.prog 17 #[] w fun e w' => e = .returned (.bool true) ∧ Below w.heap.size w w' := by
  obtain ⟨S0, hS0⟩ : ∃ S, S = vA0.sh := ⟨_, rfl⟩
  obtain ⟨S1, hS1⟩ : ∃ S, S = vA1.sh := ⟨_, rfl⟩
  obtain ⟨S2, hS2⟩ : ∃ S, S = vA2.sh := ⟨_, rfl⟩
  have HN := Lib.hid (fun W => show Calls Tryz.prog 55 #[.int .i64 3, .int .i64 0, .int .i64 65535] W (SE W S0 0) from by
    have h := snew_any 3 0 65535 W
    rw [aA0.1, aA0.2.1, ← hS0] at h
    exact h)
  have HP := Lib.hid (fun D W (k : SR W W.heap.size S0 D) => show Calls Tryz.prog 43 #[sv S0 D, .agg #[.int .i64 1, .int .i64 0, .int .i64 0, .int .i64 0, .int .i64 0, .int .i64 0, .string ⟨#[]⟩]] W (SE W S1 0) from by
    have h := sput_any S0 D mA1 W k
    rw [hS0, aA1.1, aA1.2.1, ← hS1, ← hS0] at h
    exact h)
  have HT := Lib.hid (fun D W (k : SR W W.heap.size S1 D) => show Calls Tryz.prog 20 #[sv S1 D, .int .i64 1, .int .i64 10, .int .i64 5, .int .i64 0, .int .i64 3] W (SO1 W S2) from by
    rw [hS1] at k ⊢
    have h := stake_ok vA1 aA1.2.2 D 1 10 5 0 3 W k (by decide) (by decide)
    rw [show (10 : Int) + 5 = 15 from rfl, aA2.1, lA1, ← hS2] at h
    exact h.mono fun e w' ⟨D, A, c, he, hn, hr, _, _, hb⟩ => ⟨D, A, c, he, hn, hr, hb⟩)
  have HH1 := Lib.hid (fun D W (k : SR W W.heap.size S2 D) => show Calls Tryz.prog 26 #[sv S2 D, .agg #[.int .i64 1, .int .i64 1, .int .i64 0, .int .i64 0], .int .i64 14, .int .i64 0] W (fun e w' => e = .returned (.bool true) ∧ Below W.heap.size W w') from by
    have h := sholds_any S2 D ⟨1, 1, 0, 0⟩ 14 0 W k
    rw [hS2, hA14, ← hS2] at h
    exact h)
  have HH2 := Lib.hid (fun D W (k : SR W W.heap.size S2 D) => show Calls Tryz.prog 26 #[sv S2 D, .agg #[.int .i64 1, .int .i64 1, .int .i64 0, .int .i64 0], .int .i64 15, .int .i64 0] W (fun e w' => e = .returned (.bool false) ∧ Below W.heap.size W w') from by
    have h := sholds_any S2 D ⟨1, 1, 0, 0⟩ 15 0 W k
    rw [hS2, hA15, ← hS2] at h
    exact h)
  obtain ⟨S3, hS3⟩ : ∃ S, S = xpF vA2.sh (laV vA2.l vA2.h 15 0) := ⟨_, rfl⟩
  have HX := Lib.hid (fun D W (k : SR W W.heap.size S2 D) => show Calls Tryz.prog 23 #[sv S2 D, .int .i64 15, .int .i64 0, .int .i64 3] W (SO1 W S3) from by
    rw [hS2] at k ⊢
    have h := sexp_ok vA2 aA2.2 D 15 0 3 W k (by decide)
    rw [← hS3, lpA] at h
    exact h.mono fun e w' ⟨D, A, c, he, hn, hr, _, hb⟩ => ⟨D, A, c, he, hn, hr, hb⟩)
  clear hS0 hS1 hS2 hS3
  go_enter Tryz.func17, Tryz.ntmps17
  go_wp2_with fail
  refine (HN.out _).mono ?_
  rintro e w1 ⟨D0, rfl, hn, hr, hb⟩
  have H0 := Lib.hid (SAt.made 33 hb hr)
  clear hn hr hb
  obtain ⟨a, ha⟩ : ∃ a, a = w1.heap.size := ⟨_, rfl⟩
  obtain ⟨t0, t1, t2, t3, t4, t5, t6, t7, tl⟩ := H0.out.s8.facts
  go_wp2_with fail
  clear t0 t1 t2 t3 t4 t5 t6 t7 tl
  rw [← ha] at H0 ⊢
  clear ha
  generalize w1.alloc (.cells #[.bool S0.lv, .int .i64 S0.lo, .int .i64 S0.hi, .slice D0.A S0.cs.length D0.c, .int .i64 S0.hd, .int .i64 S0.sz, .slice D0.A2 S0.l.length D0.c2, .slice D0.A3 S0.h.length D0.c3] 33) = w2 at *
  refine (HP.out _ _ H0.out.sr).mono ?_
  rintro e w3 ⟨D1, rfl, hn, hr, hb⟩
  have H1 := Lib.hid (H0.out.below hb)
  have H1' := Lib.hid (show SAt w a S1 D1 ((((((((w3.setCell ⟨a, 0, none⟩ (.bool S1.lv)).setCell ⟨a, 1, none⟩ (.int .i64 S1.lo)).setCell ⟨a, 2, none⟩ (.int .i64 S1.hi)).setCell ⟨a, 3, none⟩ (.slice D1.A S1.cs.length D1.c)).setCell ⟨a, 4, none⟩ (.int .i64 S1.hd)).setCell ⟨a, 5, none⟩ (.int .i64 S1.sz)).setCell ⟨a, 6, none⟩ (.slice D1.A2 S1.l.length D1.c2)).setCell ⟨a, 7, none⟩ (.slice D1.A3 S1.h.length D1.c3)) from H1.out.put hr (hn.off H0.out.lt))
  clear hn hr hb
  obtain ⟨⟨t0, t1, t2, t3, t4, t5, t6, t7, tl⟩, ⟨f0, f1, f2, f3, f4, f5, f6, f7⟩⟩ := H1.out.s8.all
  go_wp2_with fail
  clear t0 t1 t2 t3 t4 t5 t6 t7 tl f0 f1 f2 f3 f4 f5 f6 f7
  generalize ((((((((w3.setCell ⟨a, 0, none⟩ (.bool S1.lv)).setCell ⟨a, 1, none⟩ (.int .i64 S1.lo)).setCell ⟨a, 2, none⟩ (.int .i64 S1.hi)).setCell ⟨a, 3, none⟩ (.slice D1.A S1.cs.length D1.c)).setCell ⟨a, 4, none⟩ (.int .i64 S1.hd)).setCell ⟨a, 5, none⟩ (.int .i64 S1.sz)).setCell ⟨a, 6, none⟩ (.slice D1.A2 S1.l.length D1.c2)).setCell ⟨a, 7, none⟩ (.slice D1.A3 S1.h.length D1.c3)) = w4 at *
  refine (HT.out _ _ H1'.out.sr).mono ?_
  rintro e w5 ⟨D2, A2, c2, rfl, hn, hr, hb⟩
  have H2 := Lib.hid (H1'.out.below hb)
  have H2' := Lib.hid (show SAt w a S2 D2 (((((((((w5.setCell ⟨a, 0, none⟩ (.bool S2.lv)).setCell ⟨a, 1, none⟩ (.int .i64 S2.lo)).setCell ⟨a, 2, none⟩ (.int .i64 S2.hi)).setCell ⟨a, 3, none⟩ (.slice D2.A S2.cs.length D2.c)).setCell ⟨a, 4, none⟩ (.int .i64 S2.hd)).setCell ⟨a, 5, none⟩ (.int .i64 S2.sz)).setCell ⟨a, 6, none⟩ (.slice D2.A2 S2.l.length D2.c2)).setCell ⟨a, 7, none⟩ (.slice D2.A3 S2.h.length D2.c3)).alloc (.cells #[.int .i64 1, .int .i64 1, .int .i64 0, .int .i64 0] 36)) from (H2.out.put hr (hn.off H1'.out.lt)).alloc _)
  have Q2 := Lib.hid (show H4 (((((((((w5.setCell ⟨a, 0, none⟩ (.bool S2.lv)).setCell ⟨a, 1, none⟩ (.int .i64 S2.lo)).setCell ⟨a, 2, none⟩ (.int .i64 S2.hi)).setCell ⟨a, 3, none⟩ (.slice D2.A S2.cs.length D2.c)).setCell ⟨a, 4, none⟩ (.int .i64 S2.hd)).setCell ⟨a, 5, none⟩ (.int .i64 S2.sz)).setCell ⟨a, 6, none⟩ (.slice D2.A2 S2.l.length D2.c2)).setCell ⟨a, 7, none⟩ (.slice D2.A3 S2.h.length D2.c3)).alloc (.cells #[.int .i64 1, .int .i64 1, .int .i64 0, .int .i64 0] 36)) w5.heap.size ⟨1, 1, 0, 0⟩ from by
    have h := H4.start ((((((((w5.setCell ⟨a, 0, none⟩ (.bool S2.lv)).setCell ⟨a, 1, none⟩ (.int .i64 S2.lo)).setCell ⟨a, 2, none⟩ (.int .i64 S2.hi)).setCell ⟨a, 3, none⟩ (.slice D2.A S2.cs.length D2.c)).setCell ⟨a, 4, none⟩ (.int .i64 S2.hd)).setCell ⟨a, 5, none⟩ (.int .i64 S2.sz)).setCell ⟨a, 6, none⟩ (.slice D2.A2 S2.l.length D2.c2)).setCell ⟨a, 7, none⟩ (.slice D2.A3 S2.h.length D2.c3)) ⟨1, 1, 0, 0⟩ 36
    rw [show (((((((((w5.setCell ⟨a, 0, none⟩ (.bool S2.lv)).setCell ⟨a, 1, none⟩ (.int .i64 S2.lo)).setCell ⟨a, 2, none⟩ (.int .i64 S2.hi)).setCell ⟨a, 3, none⟩ (.slice D2.A S2.cs.length D2.c)).setCell ⟨a, 4, none⟩ (.int .i64 S2.hd)).setCell ⟨a, 5, none⟩ (.int .i64 S2.sz)).setCell ⟨a, 6, none⟩ (.slice D2.A2 S2.l.length D2.c2)).setCell ⟨a, 7, none⟩ (.slice D2.A3 S2.h.length D2.c3))).heap.size = w5.heap.size by simp] at h
    exact h)
  clear hn hr hb
  obtain ⟨⟨t0, t1, t2, t3, t4, t5, t6, t7, tl⟩, ⟨f0, f1, f2, f3, f4, f5, f6, f7⟩⟩ := H2.out.s8.all
  go_wp2_with fail
  clear t0 t1 t2 t3 t4 t5 t6 t7 tl f0 f1 f2 f3 f4 f5 f6 f7
  generalize (((((((((w5.setCell ⟨a, 0, none⟩ (.bool S2.lv)).setCell ⟨a, 1, none⟩ (.int .i64 S2.lo)).setCell ⟨a, 2, none⟩ (.int .i64 S2.hi)).setCell ⟨a, 3, none⟩ (.slice D2.A S2.cs.length D2.c)).setCell ⟨a, 4, none⟩ (.int .i64 S2.hd)).setCell ⟨a, 5, none⟩ (.int .i64 S2.sz)).setCell ⟨a, 6, none⟩ (.slice D2.A2 S2.l.length D2.c2)).setCell ⟨a, 7, none⟩ (.slice D2.A3 S2.h.length D2.c3)).alloc (.cells #[.int .i64 1, .int .i64 1, .int .i64 0, .int .i64 0] 36)) = w6 at *
  refine (HX.out _ _ H2'.out.sr).mono ?_
  rintro e w7 ⟨D3, A3, c3, rfl, hn, hr, hb⟩
  have H3 := Lib.hid ((H2'.out.below hb).alloc (.cells #[.bool S3.lv, .int .i64 S3.lo, .int .i64 S3.hi, .slice D3.A S3.cs.length D3.c, .int .i64 S3.hd, .int .i64 S3.sz, .slice D3.A2 S3.l.length D3.c2, .slice D3.A3 S3.h.length D3.c3] 33))
  have Q3 := Lib.hid ((Q2.out.up hb).up ((Below.refl _ _).alloc (Nat.le_refl _) (.cells #[.bool S3.lv, .int .i64 S3.lo, .int .i64 S3.hi, .slice D3.A S3.cs.length D3.c, .int .i64 S3.hd, .int .i64 S3.sz, .slice D3.A2 S3.l.length D3.c2, .slice D3.A3 S3.h.length D3.c3] 33)))
  clear hn hr hb
  obtain ⟨t0, t1, t2, t3, t4, t5, t6, t7, tl⟩ := H3.out.s8.facts
  obtain ⟨q0, q1, q2, q3, ql⟩ := Q3.out
  go_wp2_with fail
  clear t0 t1 t2 t3 t4 t5 t6 t7 tl q0 q1 q2 q3 ql
  refine (HH1.out _ _ H3.out.sr).mono ?_
  rintro e w8 ⟨rfl, hb⟩
  have H4' := Lib.hid (H3.out.below hb)
  have Q4 := Lib.hid (Q3.out.up hb)
  clear hb
  obtain ⟨t0, t1, t2, t3, t4, t5, t6, t7, tl⟩ := H4'.out.s8.facts
  obtain ⟨q0, q1, q2, q3, ql⟩ := Q4.out
  go_wp2_with fail
  clear t0 t1 t2 t3 t4 t5 t6 t7 tl q0 q1 q2 q3 ql
  refine (HH2.out _ _ H4'.out.sr).mono ?_
  rintro e w9 ⟨rfl, hb⟩
  have H5 := Lib.hid (H4'.out.below hb)
  clear hb
  go_wp2
  go_ret
  exact ⟨rfl, H5.out.bel⟩
end Go.Proofs.YtbeafcjbldnkhaaGreat
namespace Go.Proofs.YtbeafcjbldnkhaaGreat
open Go.RowKit

theorem nat_i64 (a : Nat) (ha : a < 9223372036854775808) : (BitVec.ofInt 64 (a : Int)).toNat = a := by
  rw [BitVec.ofInt_natCast, BitVec.toNat_ofNat]; exact Nat.mod_eq_of_lt (by omega)
theorem nat_u32 (a : Nat) (ha : a < 4294967296) : (BitVec.ofInt 32 (a : Int)).toNat = a := by
  rw [BitVec.ofInt_natCast, BitVec.toNat_ofNat]; exact Nat.mod_eq_of_lt (by omega)
theorem xor_i64 (a b : Nat) (ha : a < 9223372036854775808) (hb : b < 9223372036854775808) : bits .xor .i64 (a : Int) (b : Int) = ((a ^^^ b : Nat) : Int) := by
  have hx : a ^^^ b < 2 ^ 63 := Nat.xor_lt_two_pow (by omega) (by omega)
  show IntKind.i64.wrap ((BitVec.ofInt 64 (a : Int) ^^^ BitVec.ofInt 64 (b : Int)).toNat : Int) = _
  rw [BitVec.toNat_xor, nat_i64 a ha, nat_i64 b hb, IntKind.wrap_i64]
  omega
theorem xor_u32 (a b : Nat) (ha : a < 4294967296) (hb : b < 4294967296) : bits .xor .u32 (a : Int) (b : Int) = ((a ^^^ b : Nat) : Int) := by
  have hx : a ^^^ b < 2 ^ 32 := Nat.xor_lt_two_pow (by omega) (by omega)
  show IntKind.u32.wrap ((BitVec.ofInt 32 (a : Int) ^^^ BitVec.ofInt 32 (b : Int)).toNat : Int) = _
  rw [BitVec.toNat_xor, nat_u32 a ha, nat_u32 b hb]
  unfold IntKind.wrap
  simp [IntKind.bits, IntKind.signed]
  omega
/-- '&' with a number of k ones. -/
theorem and_ones (n : Int) (k m : Nat) (hk : k ≤ 62) (hm : m = 2 ^ k - 1) : bits .and .i64 n m = n % 2 ^ k := by
  have hp : 2 ^ k ≤ 2 ^ 62 := Nat.pow_le_pow_right (by omega) hk
  have hp0 : 0 < 2 ^ k := Nat.pow_pos (by omega)
  have h3 : (BitVec.ofInt 64 (m : Int)).toNat = 2 ^ k - 1 := by rw [nat_i64 m (by omega), hm]
  have key : (BitVec.ofInt 64 n &&& BitVec.ofInt 64 (m : Int)).toNat = (n % ((2 ^ 64 : Nat) : Int)).toNat % 2 ^ k := by
    rw [BitVec.toNat_and, BitVec.toNat_ofInt, h3, Nat.and_two_pow_sub_one_eq_mod]
  show IntKind.i64.wrap ((BitVec.ofInt 64 n &&& BitVec.ofInt 64 (m : Int)).toNat : Nat) = n % 2 ^ k
  rw [key, IntKind.wrap_i64]
  have h1 : (n % ((2 ^ 64 : Nat) : Int)).toNat % 2 ^ k < 2 ^ k := Nat.mod_lt _ hp0
  have h2 : (((n % ((2 ^ 64 : Nat) : Int)).toNat % 2 ^ k : Nat) : Int) = n % 2 ^ k := by
    have hd : ((2 ^ k : Nat) : Int) ∣ ((2 ^ 64 : Nat) : Int) := Int.natCast_dvd_natCast.2 (Nat.pow_dvd_pow 2 (by omega))
    rw [Int.natCast_emod, Int.toNat_of_nonneg (by omega), Int.emod_emod_of_dvd n hd, Int.natCast_pow]
    rfl
  rw [← h2]
  omega
theorem and_ffff (n : Int) : bits .and .i64 n 65535 = n % 65536 := and_ones n 16 65535 (by omega) (by omega)
theorem and_ffffffff (n : Int) : bits .and .i64 n 4294967295 = n % 4294967296 := and_ones n 32 4294967295 (by omega) (by omega)

/-- The hash: its step, and the hash of a list. -/
def fst1 (h b : Nat) : Nat := (h ^^^ b) * 16777619 % 4294967296
def fnvOn (h : Nat) (bs : List UInt8) : Nat := bs.foldl (fun h b => fst1 h b.toNat) h
def fnv (bs : List UInt8) : Nat := fnvOn 2166136261 bs

theorem fst1_lt (h b : Nat) : fst1 h b < 4294967296 := Nat.mod_lt _ (by decide)
theorem fnvOn_lt (h : Nat) (bs : List UInt8) (hh : h < 4294967296) : fnvOn h bs < 4294967296 := by
  induction bs generalizing h with
  | nil => exact hh
  | cons b r ih => exact ih _ (fst1_lt _ _)
theorem fnv_lt (bs : List UInt8) : fnv bs < 4294967296 := fnvOn_lt _ _ (by decide)
theorem fnv_take (bs : List UInt8) (k : Nat) (h : k < bs.length) : fnv (bs.take (k + 1)) = fst1 (fnv (bs.take k)) bs[k].toNat := by
  unfold fnv fnvOn
  rw [List.take_succ_eq_append_getElem h, List.foldl_append, List.foldl_cons, List.foldl_nil]
end Go.Proofs.YtbeafcjbldnkhaaGreat
namespace Go.Proofs.YtbeafcjbldnkhaaGreat
open Go.RowKit
set_option linter.unusedVariables false

theorem rcs_app (a b : List Rn) : rcs (a ++ b) = rcs a ++ rcs b := by simp [rcs]
theorem rcs_one (R : List Rn) : ∀ u ∈ rcs R, u.oneCell' = true := by
  intro u hu
  obtain ⟨x, _, h⟩ := List.mem_flatMap.1 hu
  simp only [Rn.l, List.mem_cons, List.not_mem_nil, or_false] at h
  rcases h with rfl | rfl | rfl <;> rfl
theorem info_rn : (Tryz.prog.info? 87).map (fun i => (i.zero, i.size, i.bytes)) = some (some (.agg #[.int .i64 0, .int .i64 0, .int .i64 0]), 3, 24) := by kernel_rfl
/-- An append to a full list of numbers and ranges, as a step of a region that draws its order. -/
theorem step_append_nl {P : Program} (w : World) {ops : Array Oper} {o : Oper} {a : Act} {K : Act → World → Prop} {Q : Exit → Act → World → Prop} {E : Prop} (hgd : o.guard = none)
    (s x : Operand) (t : TypeId) (hop : o.op = Op.call { callee := Callee.builtin Builtin.append, args := #[s, x], argTypes := #[t, t] })
    (e : TypeId) (i : TypeInfo) (z : Value) (bytes : Nat) (h1 : P.underlying t = some (.slice e)) (h2 : P.info? e = some i) (h3 : i.zero = some z) (h4 : i.size = 3) (h5 : i.bytes = bytes) (h6 : z.cells.size = 3)
    (B : Nat) (A : Option Addr) (R R2 : List Rn) (hs : a.eval s = .slice A R.length R.length) (hn : Nl w B (.slice A R.length R.length) R) (h0 : A = none → R = [])
    (ad : Addr) (cx : Nat) (hx : a.eval x = .slice (some ad) R2.length cx) (hc : ∀ j u, (rcs R2)[j]? = some u → w.cell? (ad.add j) = some u) (hm : 0 < R2.length)
    (b1 : R.length + R2.length ≤ maxLen) (b2 : (R.length + R2.length) * bytes ≤ 140737488355328)
    (h : ∀ v' w', Nl w' w'.heap.size v' (R ++ R2) → w.grownBy w' none → K (a.put o.dst v') w') :
    if Region.wanted o (yielded ops a.tmps) = true then Oper.wp P o a w K Q else E := by
  have hwt : Region.wanted o (yielded ops a.tmps) = true := by simp [Region.wanted, hgd]
  rw [if_pos hwt]
  have hown : ∀ v' w', w'.ownsRow w.heap.size e 3 v' (R.length + R2.length) (rcs R ++ rcs R2) → Nl w' w'.heap.size v' (R ++ R2) := fun v' w' ho => by
    rw [← rcs_app] at ho
    obtain ⟨A', c', rfl⟩ := own_form ho
    have hr := Rd.of_own ho
    have hcap : R.length + R2.length ≤ c' ∧ c' ≤ maxLen := by
      rcases ho.2 with ⟨hv, h0⟩ | ⟨g, cap, cur, hv, _, _, hl, hm', _⟩
      · omega
      · injection hv with e1 e2 e3; subst e3; exact ⟨hl, hm'⟩
    exact ⟨A', c', by rw [List.length_append], by rw [List.length_append]; exact hcap.1, hcap.2, by rw [List.length_append]; exact hr⟩
  cases A with
  | some b =>
    obtain ⟨A', c', e', k1, k2, hr⟩ := hn
    injection e' with e1 _ e3
    subst e1
    have hold : ∀ j u, (rcs R)[j]? = some u → w.cell? (b.add j) = some u := fun j u hu => by
      have hlt := (List.getElem?_eq_some_iff.1 hu).1
      rw [rcs_len] at hlt
      obtain ⟨b', o', e2, _, hc'⟩ := hr.2 (by omega)
      injection e2 with e2
      subst e2
      rw [add_mk]
      exact hc' j u hu
    obtain ⟨v', w', hrun, r1, r2⟩ := run_append_arg_grows (P := P) w t o.type e i z 3 bytes h1 h2 h3 h4 h5 h6 (by omega) b R.length R.length (rcs R) (rcs_len R) hold ad R2.length cx (rcs R2) (rcs_len R2) hc (by omega) b1 b2
    unfold Oper.wp
    simp [execOp, hop, resolve, invoke, builtin, hs, hx, hrun, Result.andThen]
    exact h _ _ (hown v' w' r1) r2
  | none =>
    have hR := h0 rfl
    subst hR
    obtain ⟨v', w', hrun, r1, r2, _⟩ := run_append_own (P := P) w w.heap.size t o.type e i z 3 bytes h1 h2 h3 h4 h5 h6 (by omega) (.slice none 0 0) 0 [] (World.ownsRow_nil w _ e 3) ad R2.length cx (rcs R2) (rcs_len R2) hc (rcs_one R2) b1 b2 (Nat.le_refl _)
    unfold Oper.wp
    simp at hs
    simp [execOp, hop, resolve, invoke, builtin, hs, hx, hrun, Result.andThen]
    exact h _ _ (hown v' w' (by simpa [rcs] using r1)) r2
theorem rn_two (w : World) (a b : Rn) (t : TypeId) : ∀ j u, (rcs [a, b])[j]? = some u → (w.alloc (.cells #[.int .i64 a.n, .int .i64 a.lo, .int .i64 a.hi, .int .i64 b.n, .int .i64 b.lo, .int .i64 b.hi] t)).cell? ((⟨w.heap.size, 0, none⟩ : Addr).add j) = some u := fun j u hu => by
  rw [add_mk, Nat.zero_add, World.cell?_alloc_new]
  simpa [rcs, Rn.l] using hu
theorem below_none {W W' : World} (h : W.grownBy W' none) : Below W.heap.size W W' := (Below.refl _ _).grown h (Nat.le_refl _) (fun k e => by cases e)
/-- The error of a function that settles a lease. -/
noncomputable def heS (S : Sh) (H : Hn) (now ep : Int) (b : Bool) : Int := if exS S (b && (wi now 0 1073741824 && wi ep 0 65536)) ≠ 0 then exS S (b && (wi now 0 1073741824 && wi ep 0 65536)) else if hoF S H now ep = true then 0 else 5
set_option maxHeartbeats 8000000 in
set_option maxRecDepth 20000 in
theorem sherr_any (S : Sh) (D : Sx) (H : Hn) (now ep : Int) (A : Option Addr) (R : List Rn) (w : World) (hs : SR w w.heap.size S D) (hn : Nl w w.heap.size (.slice A R.length R.length) R) (h0 : A = none → R = []) (h100 : R.length ≤ 100) :
    Calls Tryz.prog 66 #[sv S D, H.v, .int .i64 now, .int .i64 ep, .slice A R.length R.length] w (VlT w (heS S H now ep (R.all Rn.ok))) := by
  obtain ⟨i0, hi0, hz0⟩ := Option.map_eq_some_iff.1 info_rn
  simp only [Prod.mk.injEq] at hz0
  have HI := Lib.hid hi0
  have HZ := Lib.hid hz0
  have H0 := Lib.hid ((SAt.start 33 hs).alloc (.cells #[.int .i64 H.id, .int .i64 H.gn, .int .i64 H.rt, .int .i64 H.ht] 36))
  have Q0 := Lib.hid (H4.start (w.alloc (.cells #[.bool S.lv, .int .i64 S.lo, .int .i64 S.hi, .slice D.A S.cs.length D.c, .int .i64 S.hd, .int .i64 S.sz, .slice D.A2 S.l.length D.c2, .slice D.A3 S.h.length D.c3] 33)) H 36)
  have HV := Lib.hid (fun A c p W (k : SAt w p S D W) (hn : Nl W W.heap.size (.slice A (R.length + 2) c) (R ++ [⟨now, 0, 1073741824⟩, ⟨ep, 0, 65536⟩])) => sexam_any S D A (R.length + 2) c (R ++ [⟨now, 0, 1073741824⟩, ⟨ep, 0, 65536⟩]) W k.sr hn)
  have HE : (R ++ [⟨now, 0, 1073741824⟩, ⟨ep, 0, 65536⟩] : List Rn).all Rn.ok = (R.all Rn.ok && (wi now 0 1073741824 && wi ep 0 65536)) := by simp [Rn.ok]
  rw [HE] at HV
  clear HE
  have HNL := Lib.hid hn
  have HA0 := Lib.hid h0
  have HT := Lib.hid (fun W => atime_any now W)
  have HP := Lib.hid (fun W => aepoch_any ep W)
  have HHO := Lib.hid (fun p W (k : SAt w p S D W) => sholds_any S D H now ep W k.sr)
  have HDD : Hid (heS S H now ep (R.all Rn.ok) = if exS S (R.all Rn.ok && (wi now 0 1073741824 && wi ep 0 65536)) ≠ 0 then exS S (R.all Rn.ok && (wi now 0 1073741824 && wi ep 0 65536)) else if hoF S H now ep = true then 0 else 5) := Lib.hid rfl
  have H100 := Lib.hid h100
  clear hs hn h0 h100 hi0 hz0
  generalize exS S (R.all Rn.ok && (wi now 0 1073741824 && wi ep 0 65536)) = z at *
  generalize hoF S H now ep = ho at *
  generalize heS S H now ep (R.all Rn.ok) = x at *
  go_enter Tryz.func66, Tryz.ntmps66
  obtain ⟨p, hp⟩ : ∃ p, p = w.heap.size := ⟨_, rfl⟩
  obtain ⟨q, hq⟩ : ∃ q, q = w.heap.size + 1 := ⟨_, rfl⟩
  have e1 : (w.alloc (.cells #[.bool S.lv, .int .i64 S.lo, .int .i64 S.hi, .slice D.A S.cs.length D.c, .int .i64 S.hd, .int .i64 S.sz, .slice D.A2 S.l.length D.c2, .slice D.A3 S.h.length D.c3] 33)).heap.size = q := by rw [hq]; simp
  rw [e1] at Q0
  rw [← hp] at H0
  clear e1
  go_upto_region 1 with (fail)
  rw [← hq, ← hp]
  clear hp hq
  generalize ((w.alloc (.cells #[.bool S.lv, .int .i64 S.lo, .int .i64 S.hi, .slice D.A S.cs.length D.c, .int .i64 S.hd, .int .i64 S.sz, .slice D.A2 S.l.length D.c2, .slice D.A3 S.h.length D.c3] 33)).alloc (.cells #[.int .i64 H.id, .int .i64 H.gn, .int .i64 H.rt, .int .i64 H.ht] 36)) = w1 at *
  have HD := Lib.hid H0.out.drew
  have Q1 := Lib.hid (Q0.out.up ((Below.refl _ _).drew))
  have HT0 := Lib.hid (show K8 p S D w1.drew from HD.out.k8)
  go_region_held3 (fun W => K8 p S D W)
    (first | with_reducible exact HT0.out | with_reducible exact HT1.out | with_reducible exact HT2.out | with_reducible exact HT3.out | with_reducible exact HT4.out | with_reducible exact HT5.out)
    (first
    | (go_at_call 57; (with_reducible refine (HT.out _).mono ?_); rintro e w3 ⟨rfl, hb⟩; have HA1 := Lib.hid (HD.out.below hb); have Q2 := Lib.hid (Q1.out.up hb); have HT1 := Lib.hid HA1.out.k8; clear hb)
    | (go_at_call 59; (with_reducible refine (HP.out _).mono ?_); rintro e w4 ⟨rfl, hb⟩; have HA2 := Lib.hid (HA1.out.below hb); have Q3 := Lib.hid (Q2.out.up hb); have HT2 := Lib.hid HA2.out.k8; have HA3 := Lib.hid (HA2.out.alloc (.cells #[.int .i64 now, .int .i64 0, .int .i64 1073741824, .int .i64 ep, .int .i64 0, .int .i64 65536] 87)); have Q4 := Lib.hid (Q3.out.up ((Below.refl _ _).alloc (Nat.le_refl _) (.cells #[.int .i64 now, .int .i64 0, .int .i64 1073741824, .int .i64 ep, .int .i64 0, .int .i64 65536] 87))); have HT3 := Lib.hid HA3.out.k8; have HN3 := Lib.hid (HNL.out.below HA3.out.bel); have HCX := Lib.hid (rn_two w4 ⟨now, 0, 1073741824⟩ ⟨ep, 0, 65536⟩ 87); clear hb)
    | (go_at_call 56; (with_reducible refine (HV.out _ _ _ _ HA5.out HN5.out).mono ?_); rintro e w6 ⟨rfl, hb⟩; have HA6 := Lib.hid (HA5.out.below hb); have Q6 := Lib.hid (Q5.out.up hb); have HT5 := Lib.hid HA6.out.k8; clear hb)
    | ((refine step_append_nl _ (by rfl) _ _ _ (by rfl) 87 i0 _ 24 Tryz.underlying129 HI.out HZ.out.1 HZ.out.2.1 HZ.out.2.2 rfl w.heap.size A R [⟨now, 0, 1073741824⟩, ⟨ep, 0, 65536⟩] (by rfl) HN3.out HA0.out ⟨w4.heap.size, 0, none⟩ 2 (by rfl) HCX.out (by simp) (by have := H100.out; unfold maxLen; simp; omega) (by have := H100.out; simp; omega) ?_); intro v5 w5 hnl hgr; have HA5 := Lib.hid (HA3.out.grown hgr (fun q e => by cases e)); have Q5 := Lib.hid (Q4.out.up (below_none hgr)); have HT4 := Lib.hid HA5.out.k8; obtain ⟨A5, c5, hv5, _, _, _⟩ := id hnl; subst hv5; have HN5 := Lib.hid (show Nl w5 w5.heap.size (.slice A5 (R.length + 2) c5) (R ++ [⟨now, 0, 1073741824⟩, ⟨ep, 0, 65536⟩]) by simpa using hnl); clear hnl hgr))
  have HD6 := Lib.hid (show x = if z ≠ 0 then z else if ho = true then 0 else 5 from HDD.out)
  clear HD HT0 HT1 HT2 HT3 HT4 HT5 HA1 HA2 HA3 HA5 HNL HT HP HV H0 Q0 Q1 Q2 Q3 Q4 Q5 HDD H100
  by_cases hz : z = 0
  · subst hz
    obtain ⟨t0, t1, t2, t3, t4, t5, t6, t7, tl⟩ := HA6.out.s8.facts
    obtain ⟨q0, q1, q2, q3, ql⟩ := Q6.out
    go_wp2_with fail
    clear t0 t1 t2 t3 t4 t5 t6 t7 tl q0 q1 q2 q3 ql
    refine (HHO.out _ _ HA6.out).mono ?_
    rintro e w7 ⟨rfl, hb⟩
    have HA7 := Lib.hid (HA6.out.below hb)
    clear hb
    cases ho
    · obtain rfl : x = 5 := by rw [HD6.out]; rfl
      have HF := Lib.hid (show VlT w 5 (.returned (.int .i64 5)) w7 from ⟨rfl, HA7.out.bel⟩)
      go_wp2
      exact bodyPost_ret (v := .int .i64 5) (by simp only [results, Tryz.results66]; go_simp <;> rfl) rfl HF.out
    · obtain rfl : x = 0 := by rw [HD6.out]; rfl
      have HF := Lib.hid (show VlT w 0 (.returned (.int .i64 0)) w7 from ⟨rfl, HA7.out.bel⟩)
      go_wp2
      exact bodyPost_ret (v := .int .i64 0) (by simp only [results, Tryz.results66]; go_simp <;> rfl) rfl HF.out
  · have hne : (z != 0) = true := bne_iff_ne.2 hz
    obtain rfl : x = z := by rw [HD6.out, if_pos hz]
    clear hz
    have HF := Lib.hid (show VlT w x (.returned (.int .i64 x)) w6 from ⟨rfl, HA6.out.bel⟩)
    go_wp2
    exact bodyPost_ret (v := .int .i64 x) (by simp only [results, Tryz.results66]; go_simp <;> rfl) rfl HF.out
end Go.Proofs.YtbeafcjbldnkhaaGreat
namespace Go.Proofs.YtbeafcjbldnkhaaGreat
open Go.RowKit
set_option linter.unusedVariables false

/-- What Ack makes of a shard. -/
noncomputable def akF (S : Sh) (id : Int) : Sh := ⟨S.lv, S.lo, S.hi, S.cs, S.hd, S.sz, rlL S.l S.h id, rlH S.l S.h id⟩
/-- The sizes that a copy needs. -/
def Sh.sz4 (S : Sh) : Prop := 1 ≤ S.cs.length ∧ S.cs.length ≤ 1000 ∧ S.l.length ≤ 1000 ∧ S.h.length ≤ 1000
set_option maxHeartbeats 8000000 in
set_option maxRecDepth 20000 in
theorem sack_any (S : Sh) (D : Sx) (H : Hn) (now ep : Int) (w : World) (hs : SR w w.heap.size S D) (hn : heS S H now ep true = 0 → S.sz4) :
    Calls Tryz.prog 24 #[sv S D, H.v, .int .i64 now, .int .i64 ep] w (SE w (if heS S H now ep true = 0 then akF S H.id else zS) (heS S H now ep true)) := by
  have e1 : (w.alloc (.cells #[.bool S.lv, .int .i64 S.lo, .int .i64 S.hi, .slice D.A S.cs.length D.c, .int .i64 S.hd, .int .i64 S.sz, .slice D.A2 S.l.length D.c2, .slice D.A3 S.h.length D.c3] 33)).heap.size = w.heap.size + 1 := by simp
  have e2 : ((w.alloc (.cells #[.bool S.lv, .int .i64 S.lo, .int .i64 S.hi, .slice D.A S.cs.length D.c, .int .i64 S.hd, .int .i64 S.sz, .slice D.A2 S.l.length D.c2, .slice D.A3 S.h.length D.c3] 33)).alloc (.cells #[.int .i64 H.id, .int .i64 H.gn, .int .i64 H.rt, .int .i64 H.ht] 36)).heap.size = w.heap.size + 1 + 1 := by simp
  have H0 := Lib.hid (((SAt.start 33 hs).alloc (.cells #[.int .i64 H.id, .int .i64 H.gn, .int .i64 H.rt, .int .i64 H.ht] 36)).alloc (.cells #[.bool false, .int .i64 0, .int .i64 0, .slice none 0 0, .int .i64 0, .int .i64 0, .slice none 0 0, .slice none 0 0] 33))
  have Q0 := Lib.hid ((H4.start (w.alloc (.cells #[.bool S.lv, .int .i64 S.lo, .int .i64 S.hi, .slice D.A S.cs.length D.c, .int .i64 S.hd, .int .i64 S.sz, .slice D.A2 S.l.length D.c2, .slice D.A3 S.h.length D.c3] 33)) H 36).up ((Below.refl _ _).alloc (Nat.le_refl _) (.cells #[.bool false, .int .i64 0, .int .i64 0, .slice none 0 0, .int .i64 0, .int .i64 0, .slice none 0 0, .slice none 0 0] 33)))
  have R0 := Lib.hid (SB8.zero ((w.alloc (.cells #[.bool S.lv, .int .i64 S.lo, .int .i64 S.hi, .slice D.A S.cs.length D.c, .int .i64 S.hd, .int .i64 S.sz, .slice D.A2 S.l.length D.c2, .slice D.A3 S.h.length D.c3] 33)).alloc (.cells #[.int .i64 H.id, .int .i64 H.gn, .int .i64 H.rt, .int .i64 H.ht] 36)) 33)
  rw [e1] at Q0
  rw [e2] at R0
  have HHE := Lib.hid (fun p W (k : SAt w p S D W) => (show Calls Tryz.prog 66 #[sv S D, H.v, .int .i64 now, .int .i64 ep, .slice none 0 0] W (VlT W (heS S H now ep true)) from sherr_any S D H now ep none [] W k.sr Nl.nil (fun _ => rfl) (by simp)))
  obtain ⟨x, hx⟩ : ∃ x, x = heS S H now ep true := ⟨_, rfl⟩
  rw [← hx] at HHE hn
  rw [← hx]
  have HCL := Lib.hid (fun (h : x = 0) p W (q : SAt w p S D W) => sclone_any S D W q.sr (hn h).1 (hn h).2.1 (hn h).2.2.1 (hn h).2.2.2)
  have HRL := Lib.hid (fun p D W (q : SAt w p S D W) => lrelease_any D.A2 S.l.length D.c2 S.l D.A3 S.h.length D.c3 S.h H.id W q.sr.el q.sr.dl)
  obtain ⟨T, hT⟩ : ∃ T, T = akF S H.id := ⟨_, rfl⟩
  obtain ⟨U, hU⟩ : ∃ U, U = if x = 0 then akF S H.id else zS := ⟨_, rfl⟩
  have HUU := Lib.hid (show U = if x = 0 then T else zS from by rw [hU, hT])
  have HTT := Lib.hid (show T = ⟨S.lv, S.lo, S.hi, S.cs, S.hd, S.sz, rlL S.l S.h H.id, rlH S.l S.h H.id⟩ from hT)
  rw [← hU]
  clear hU hT hs hn hx
  generalize rlL S.l S.h H.id = gl at *
  generalize rlH S.l S.h H.id = gh at *
  generalize rlE S.l S.h H.id = rE at *
  generalize rlM S.l S.h H.id = M at *
  go_enter Tryz.func24, Tryz.ntmps24
  obtain ⟨t0, t1, t2, t3, t4, t5, t6, t7, tl⟩ := H0.out.s8.facts
  obtain ⟨q0, q1, q2, q3, ql⟩ := Q0.out
  go_wp2_with fail
  clear t0 t1 t2 t3 t4 t5 t6 t7 tl q0 q1 q2 q3 ql
  obtain ⟨p, hp⟩ : ∃ p, p = w.heap.size := ⟨_, rfl⟩
  obtain ⟨q, hq⟩ : ∃ q, q = w.heap.size + 1 := ⟨_, rfl⟩
  obtain ⟨r, hr⟩ : ∃ r, r = w.heap.size + 1 + 1 := ⟨_, rfl⟩
  have HPR := Lib.hid (show (¬ p = r ∧ ¬ r = p ∧ ¬ p = q ∧ ¬ q = p) ∧ w.heap.size ≤ p ∧ p < q ∧ q < r by omega)
  rw [← hr, ← hq, ← hp]
  rw [← hr] at R0
  rw [← hq] at Q0
  rw [← hp] at H0
  clear e1 e2 hp hq hr
  generalize (((w.alloc (.cells #[.bool S.lv, .int .i64 S.lo, .int .i64 S.hi, .slice D.A S.cs.length D.c, .int .i64 S.hd, .int .i64 S.sz, .slice D.A2 S.l.length D.c2, .slice D.A3 S.h.length D.c3] 33)).alloc (.cells #[.int .i64 H.id, .int .i64 H.gn, .int .i64 H.rt, .int .i64 H.ht] 36)).alloc (.cells #[.bool false, .int .i64 0, .int .i64 0, .slice none 0 0, .int .i64 0, .int .i64 0, .slice none 0 0, .slice none 0 0] 33)) = w1 at *
  refine (HHE.out _ _ H0.out).mono ?_
  rintro e w2 ⟨rfl, hb⟩
  have H1 := Lib.hid (H0.out.below hb)
  have Q1 := Lib.hid (Q0.out.up hb)
  have R1 := Lib.hid (R0.out.up hb)
  clear hb HHE H0 Q0 R0
  by_cases hx : x = 0
  · have HX := Lib.hid hx
    subst hx
    obtain ⟨t0, t1, t2, t3, t4, t5, t6, t7, tl⟩ := H1.out.s8.facts
    go_wp2_with fail
    clear t0 t1 t2 t3 t4 t5 t6 t7 tl
    refine (HCL.out (by first | trivial | rfl) _ _ H1.out).mono ?_
    rintro e w3 ⟨D2, rfl, hn2, hr2, hb⟩
    have H2 := Lib.hid (H1.out.below hb)
    have H3 := Lib.hid (show SAt w p S D2 ((((((((w3.setCell ⟨p, 0, none⟩ (.bool S.lv)).setCell ⟨p, 1, none⟩ (.int .i64 S.lo)).setCell ⟨p, 2, none⟩ (.int .i64 S.hi)).setCell ⟨p, 3, none⟩ (.slice D2.A S.cs.length D2.c)).setCell ⟨p, 4, none⟩ (.int .i64 S.hd)).setCell ⟨p, 5, none⟩ (.int .i64 S.sz)).setCell ⟨p, 6, none⟩ (.slice D2.A2 S.l.length D2.c2)).setCell ⟨p, 7, none⟩ (.slice D2.A3 S.h.length D2.c3)) from H2.out.put hr2 (hn2.off H1.out.lt))
    have Q2 := Lib.hid (Q1.out.up hb)
    have R3 := Lib.hid (show SB8 ((((((((w3.setCell ⟨p, 0, none⟩ (.bool S.lv)).setCell ⟨p, 1, none⟩ (.int .i64 S.lo)).setCell ⟨p, 2, none⟩ (.int .i64 S.hi)).setCell ⟨p, 3, none⟩ (.slice D2.A S.cs.length D2.c)).setCell ⟨p, 4, none⟩ (.int .i64 S.hd)).setCell ⟨p, 5, none⟩ (.int .i64 S.sz)).setCell ⟨p, 6, none⟩ (.slice D2.A2 S.l.length D2.c2)).setCell ⟨p, 7, none⟩ (.slice D2.A3 S.h.length D2.c3)) r zS zX from (R1.out.up hb).put_far HPR.out.1.2.1 S D2)
    have N2 := Lib.hid (show D2.nw (r + 1) from hn2.low R1.out.lt)
    clear hn2 hr2 hb
    obtain ⟨⟨t0, t1, t2, t3, t4, t5, t6, t7, tl⟩, ⟨f0, f1, f2, f3, f4, f5, f6, f7⟩⟩ := H2.out.s8.all
    obtain ⟨q0, q1, q2, q3, ql⟩ := Q2.out
    obtain ⟨⟨hpr, hrp, hpq, hqp⟩, -, -, -⟩ := HPR.out
    go_wp2_with fail
    clear t0 t1 t2 t3 t4 t5 t6 t7 tl f0 f1 f2 f3 f4 f5 f6 f7 q0 q1 q2 q3 ql hpr hrp hpq hqp H2 Q2 H1 Q1 R1
    generalize ((((((((w3.setCell ⟨p, 0, none⟩ (.bool S.lv)).setCell ⟨p, 1, none⟩ (.int .i64 S.lo)).setCell ⟨p, 2, none⟩ (.int .i64 S.hi)).setCell ⟨p, 3, none⟩ (.slice D2.A S.cs.length D2.c)).setCell ⟨p, 4, none⟩ (.int .i64 S.hd)).setCell ⟨p, 5, none⟩ (.int .i64 S.sz)).setCell ⟨p, 6, none⟩ (.slice D2.A2 S.l.length D2.c2)).setCell ⟨p, 7, none⟩ (.slice D2.A3 S.h.length D2.c3)) = w3' at *
    refine (HRL.out _ _ _ H3.out).mono ?_
    rintro e w4 ⟨A3, c3, A4, c4, rfl, n3, n4, h3, h4, hb⟩
    have H4 := Lib.hid (H3.out.below hb)
    have R4 := Lib.hid (R3.out.up hb)
    have H5 := Lib.hid (show SAt w p ⟨S.lv, S.lo, S.hi, S.cs, S.hd, S.sz, gl, gh⟩ ⟨D2.A, D2.c, A3, c3, A4, c4⟩ (((w4.setCell ⟨p, 6, none⟩ (.slice A3 gl.length c3)).setCell ⟨p, 7, none⟩ (.slice A4 gh.length c4))) from H4.out.setTab h3 h4 (offb_nw n3 H3.out.lt) (offb_nw n4 H3.out.lt))
    have N5 := Lib.hid (show Nw (r + 1) A3 ∧ Nw (r + 1) A4 from ⟨nw_low n3 R3.out.lt, nw_low n4 R3.out.lt⟩)
    clear n3 n4 h3 h4 hb
    have HF := Lib.hid (show SE w U 0 (.returned (.tuple #[.agg #[.bool S.lv, .int .i64 S.lo, .int .i64 S.hi, .slice D2.A S.cs.length D2.c, .int .i64 S.hd, .int .i64 S.sz, .slice A3 gl.length c3, .slice A4 gh.length c4], .int .i64 0])) (((((((((((w4.setCell ⟨p, 6, none⟩ (.slice A3 gl.length c3)).setCell ⟨p, 7, none⟩ (.slice A4 gh.length c4))).setCell ⟨r, 0, none⟩ (.bool S.lv)).setCell ⟨r, 1, none⟩ (.int .i64 S.lo)).setCell ⟨r, 2, none⟩ (.int .i64 S.hi)).setCell ⟨r, 3, none⟩ (.slice D2.A S.cs.length D2.c)).setCell ⟨r, 4, none⟩ (.int .i64 S.hd)).setCell ⟨r, 5, none⟩ (.int .i64 S.sz)).setCell ⟨r, 6, none⟩ (.slice A3 gl.length c3)).setCell ⟨r, 7, none⟩ (.slice A4 gh.length c4)) from by
      rw [HUU.out, if_pos trivial, HTT.out]
      have hne := HPR.out.2
      exact ⟨⟨D2.A, D2.c, A3, c3, A4, c4⟩, rfl, ⟨(N2.out.low (show w.heap.size ≤ r + 1 by omega)).1, nw_low N5.out.1 (by omega), nw_low N5.out.2 (by omega)⟩, SR.sets (S := ⟨S.lv, S.lo, S.hi, S.cs, S.hd, S.sz, gl, gh⟩) (D := ⟨D2.A, D2.c, A3, c3, A4, c4⟩) ⟨(N2.out.off (Nat.lt_succ_self r)).o1, offb_nw N5.out.1 (Nat.lt_succ_self r), offb_nw N5.out.2 (Nat.lt_succ_self r)⟩ (Sh.l8 ⟨S.lv, S.lo, S.hi, S.cs, S.hd, S.sz, gl, gh⟩ ⟨D2.A, D2.c, A3, c3, A4, c4⟩) 0 _ H5.out.sr, set8s_below (show w.heap.size ≤ r by omega) H5.out.bel ⟨S.lv, S.lo, S.hi, S.cs, S.hd, S.sz, gl, gh⟩ ⟨D2.A, D2.c, A3, c3, A4, c4⟩⟩)
    obtain ⟨⟨t0, t1, t2, t3, t4, t5, t6, t7, tl⟩, ⟨f0, f1, f2, f3, f4, f5, f6, f7⟩⟩ := H4.out.s8.all
    obtain ⟨⟨r0, r1, r2, r3, r4, r5, r6, r7, rl⟩, ⟨g0, g1, g2, g3, g4, g5, g6, g7⟩⟩ := R4.out.all
    obtain ⟨⟨hpr, hrp, hpq, hqp⟩, -, -, -⟩ := HPR.out
    go_wp2
    exact bodyPost_ret (v := .tuple #[.agg #[.bool S.lv, .int .i64 S.lo, .int .i64 S.hi, .slice D2.A S.cs.length D2.c, .int .i64 S.hd, .int .i64 S.sz, .slice A3 gl.length c3, .slice A4 gh.length c4], .int .i64 0]) (by simp only [results, Tryz.results24]; go_simp <;> rfl) rfl HF.out
  · have hne : (x != 0) = true := bne_iff_ne.2 hx
    have HF := Lib.hid (show SE w U x (.returned (.tuple #[.agg #[.bool false, .int .i64 0, .int .i64 0, .slice none 0 0, .int .i64 0, .int .i64 0, .slice none 0 0, .slice none 0 0], .int .i64 x])) (z8 w2 r) from by
      rw [HUU.out, if_neg hx]
      have hne := HPR.out.2
      exact se_zero (by omega) H1.out.bel)
    clear hx
    obtain ⟨⟨r0, r1, r2, r3, r4, r5, r6, r7, rl⟩, ⟨g0, g1, g2, g3, g4, g5, g6, g7⟩⟩ := R1.out.all
    go_wp2
    exact bodyPost_ret (v := .tuple #[.agg #[.bool false, .int .i64 0, .int .i64 0, .slice none 0 0, .int .i64 0, .int .i64 0, .slice none 0 0, .slice none 0 0], .int .i64 x]) (by simp only [results, Tryz.results24]; go_simp <;> rfl) rfl HF.out
end Go.Proofs.YtbeafcjbldnkhaaGreat
