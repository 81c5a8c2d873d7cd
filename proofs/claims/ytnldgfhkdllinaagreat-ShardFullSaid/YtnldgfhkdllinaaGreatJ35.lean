/- What is proved here: shard.giveBack by contracts; slices.insertionSortCmpFunc of deadlines sorts a row; math/bits.Len of a small number returns some number. -/
import Derived.Test.YtnldgfhkdllinaaGreatJ34
import Derived.Test.YtnldgfhkdllinaaGreatJ32
import Derived.Test.YtnldgfhkdllinaaGreatJ10
import Derived.Test.YtnldgfhkdllinaaGreatJ29
import Derived.Test.YtnldgfhkdllinaaGreatJ20
import Derived.Test.YtnldgfhkdllinaaGreatJ01
namespace Go.Proofs.YtnldgfhkdllinaaGreat
open Go.RowKit
set_option linter.unusedVariables false

/-- What giving back to the end of the deque makes of a shard. -/
noncomputable def gbB (S : Sh) (id : Int) : Sh := ⟨S.lv, S.lo, S.hi, pbC S.cs S.hd S.sz (rlM S.l S.h id), ifE (puE S.cs S.hd S.sz (rlM S.l S.h id)) S.hd, ifE (puE S.cs S.hd S.sz (rlM S.l S.h id)) (S.sz + 1), rlL S.l S.h id, rlH S.l S.h id⟩
/-- What Nack's push gives. -/
noncomputable def nkC (cs : List Msg) (hd sz : Int) (M : Msg) (lim : Int) : List Msg := if spF M lim = true then pbC cs hd sz M else pfC cs hd sz M
noncomputable def nkH (cs : List Msg) (hd sz : Int) (M : Msg) (lim : Int) : Int := if spF M lim = true then ifE (puE cs hd sz M) hd else pfH cs hd sz M
/-- What giving back by Nack makes of a shard. -/
noncomputable def gbN (S : Sh) (id lim : Int) : Sh := ⟨S.lv, S.lo, S.hi, nkC S.cs S.hd S.sz (rlM S.l S.h id) lim, nkH S.cs S.hd S.sz (rlM S.l S.h id) lim, ifE (puE S.cs S.hd S.sz (rlM S.l S.h id)) (S.sz + 1), rlL S.l S.h id, rlH S.l S.h id⟩
theorem gbB_sh {V : Vs} {id : Int} (k : V.Ok) (e : rlE V.l V.h id = 0) : gbB V.sh id = ((V.rel id).push (rlM V.l V.h id)).sh ∧ ((V.rel id).push (rlM V.l V.h id)).Ok := by
  have f := k.back e
  have k2 := (k.rel e).1
  obtain ⟨p1, p2⟩ := k2.pb f
  refine ⟨?_, k2.push f⟩
  show Sh.mk true V.lo V.hi (pbC (fil V.n V.hd V.L) V.hd V.L.length (rlM V.l V.h id)) (ifE (puE (fil V.n V.hd V.L) V.hd V.L.length (rlM V.l V.h id)) V.hd) (ifE (puE (fil V.n V.hd V.L) V.hd V.L.length (rlM V.l V.h id)) (V.L.length + 1)) (rlL V.l V.h id) (rlH V.l V.h id) = Sh.mk true V.lo V.hi (fil V.n V.hd (V.L ++ [rlM V.l V.h id])) V.hd (V.L ++ [rlM V.l V.h id]).length (rlL V.l V.h id) (rlH V.l V.h id)
  rw [show puE (fil V.n V.hd V.L) V.hd V.L.length (rlM V.l V.h id) = 0 from p1, show pbC (fil V.n V.hd V.L) V.hd V.L.length (rlM V.l V.h id) = fil V.n V.hd (V.L ++ [rlM V.l V.h id]) from p2]
  simp [ifE]
theorem gbN_sh {V : Vs} {id lim : Int} (k : V.Ok) (e : rlE V.l V.h id = 0) : gbN V.sh id lim = (if spF (rlM V.l V.h id) lim = true then (V.rel id).push (rlM V.l V.h id) else (V.rel id).front (rlM V.l V.h id)).sh ∧ (if spF (rlM V.l V.h id) lim = true then (V.rel id).push (rlM V.l V.h id) else (V.rel id).front (rlM V.l V.h id)).Ok := by
  have f := k.back e
  have k2 := (k.rel e).1
  by_cases hs : spF (rlM V.l V.h id) lim = true
  · rw [if_pos hs]
    refine ⟨?_, k2.push f⟩
    rw [← (gbB_sh k e).1]
    have hs' : spF (rlM V.sh.l V.sh.h id) lim = true := hs
    unfold gbN gbB nkC nkH
    rw [if_pos hs', if_pos hs']
  · rw [if_neg hs]
    obtain ⟨p1, p2, p3⟩ := k2.pf f
    refine ⟨?_, k2.front f⟩
    have e1 : puE (fil V.n V.hd V.L) V.hd V.L.length (rlM V.l V.h id) = 0 := p1
    have e2 : pfC (fil V.n V.hd V.L) V.hd V.L.length (rlM V.l V.h id) = fil V.n ((V.hd + (V.n - 1)) % V.n) (rlM V.l V.h id :: V.L) := p2
    have e3 : pfH (fil V.n V.hd V.L) V.hd V.L.length (rlM V.l V.h id) = ((V.hd + (V.n - 1)) % V.n : Nat) := p3
    have hs' : ¬ spF (rlM V.sh.l V.sh.h id) lim = true := hs
    unfold gbN nkC nkH
    rw [if_neg hs', if_neg hs']
    show Sh.mk true V.lo V.hi (pfC (fil V.n V.hd V.L) V.hd V.L.length (rlM V.l V.h id)) (pfH (fil V.n V.hd V.L) V.hd V.L.length (rlM V.l V.h id)) (ifE (puE (fil V.n V.hd V.L) V.hd V.L.length (rlM V.l V.h id)) (V.L.length + 1)) (rlL V.l V.h id) (rlH V.l V.h id) = Sh.mk true V.lo V.hi (fil V.n ((V.hd + (V.n - 1)) % V.n) (rlM V.l V.h id :: V.L)) ((V.hd + (V.n - 1)) % V.n : Nat) (rlM V.l V.h id :: V.L).length (rlL V.l V.h id) (rlH V.l V.h id)
    rw [e1, e2, e3]
    simp [ifE]
set_option maxHeartbeats 4000000 in
set_option maxRecDepth 20000 in
theorem nack1_any (A : Option Addr) (n c : Nat) (cs : List Msg) (hd sz : Int) (M : Msg) (b : Nat) (lim : Int) (w : World) (hv : Ls w w.heap.size (.slice A n c) cs) (hc : w.cell? ⟨b, 0, none⟩ = some (.int .i64 lim)) (hb : b < w.heap.size) :
    Calls Tryz.prog 69 #[.agg #[.slice A n c, .int .i64 hd, .int .i64 sz], M.v, .pointer (some ⟨b, 0, none⟩)] w (RP w (nkC cs hd sz M lim) (nkH cs hd sz M lim) (ifE (puE cs hd sz M) (sz + 1)) (puE cs hd sz M)) := by
  obtain ⟨rfl, hm1, hm2⟩ := hv.len
  have HV := Lib.hid hv
  have HR0 := Lib.hid (((RgAt.start w A cs.length c hd sz 27).alloc (.cells #[.int .i64 M.id, .int .i64 M.rt, .int .i64 M.ep, .int .i64 M.ct, .int .i64 M.gn, .int .i64 M.st, .string M.bd] 44)).alloc (.cells #[.slice none 0 0, .int .i64 0, .int .i64 0] 27))
  have HM0 := Lib.hid (show MBx (((w.alloc (.cells #[.slice A cs.length c, .int .i64 hd, .int .i64 sz] 27)).alloc (.cells #[.int .i64 M.id, .int .i64 M.rt, .int .i64 M.ep, .int .i64 M.ct, .int .i64 M.gn, .int .i64 M.st, .string M.bd] 44)).alloc (.cells #[.slice none 0 0, .int .i64 0, .int .i64 0] 27)) (w.heap.size + 1) M from by
    have h := MBx.start (w.alloc (.cells #[.slice A cs.length c, .int .i64 hd, .int .i64 sz] 27)) M 44
    rw [show (w.alloc (.cells #[.slice A cs.length c, .int .i64 hd, .int .i64 sz] 27)).heap.size = w.heap.size + 1 by simp] at h
    exact h.up ((Below.refl _ _).alloc (Nat.le_refl _) _))
  have HZ0 := Lib.hid (show RB (((w.alloc (.cells #[.slice A cs.length c, .int .i64 hd, .int .i64 sz] 27)).alloc (.cells #[.int .i64 M.id, .int .i64 M.rt, .int .i64 M.ep, .int .i64 M.ct, .int .i64 M.gn, .int .i64 M.st, .string M.bd] 44)).alloc (.cells #[.slice none 0 0, .int .i64 0, .int .i64 0] 27)) (w.heap.size + 1 + 1) none 0 0 0 0 from by
    have h := RB.fresh ((w.alloc (.cells #[.slice A cs.length c, .int .i64 hd, .int .i64 sz] 27)).alloc (.cells #[.int .i64 M.id, .int .i64 M.rt, .int .i64 M.ep, .int .i64 M.ct, .int .i64 M.gn, .int .i64 M.st, .string M.bd] 44)) none 0 0 0 0 27
    rw [show ((w.alloc (.cells #[.slice A cs.length c, .int .i64 hd, .int .i64 sz] 27)).alloc (.cells #[.int .i64 M.id, .int .i64 M.rt, .int .i64 M.ep, .int .i64 M.ct, .int .i64 M.gn, .int .i64 M.st, .string M.bd] 44)).heap.size = w.heap.size + 1 + 1 by simp] at h
    exact h)
  have HC := Lib.hid ((HR0.out.bel.cell (p := ⟨b, 0, none⟩) hb).trans hc)
  have HBL := Lib.hid (show b < (((w.alloc (.cells #[.slice A cs.length c, .int .i64 hd, .int .i64 sz] 27)).alloc (.cells #[.int .i64 M.id, .int .i64 M.rt, .int .i64 M.ep, .int .i64 M.ct, .int .i64 M.gn, .int .i64 M.st, .string M.bd] 44)).alloc (.cells #[.slice none 0 0, .int .i64 0, .int .i64 0] 27)).heap.size by simp; omega)
  have HSP := Lib.hid (fun W => spent_any M lim W)
  have HPB := Lib.hid (fun W (h : Ls W W.heap.size (.slice A cs.length c) cs) => pback_any A cs.length c cs hd sz M W h)
  have HPF := Lib.hid (fun W (h : Ls W W.heap.size (.slice A cs.length c) cs) => pfront_any A cs.length c cs hd sz M W h)
  clear hv hc hb hm1 hm2
  generalize ifE (puE cs hd sz M) (sz + 1) = zz at *
  generalize hsp : spF M lim = sp at *
  have HSPF := Lib.hid hsp
  clear hsp
  obtain ⟨pE, hpE⟩ : ∃ pE, pE = puE cs hd sz M := ⟨_, rfl⟩
  have HPE := Lib.hid hpE
  rw [← hpE]
  have HPE2 : Hid (puE cs hd sz M = pE) := Lib.hid hpE.symm
  rw [← hpE] at HPF
  clear hpE
  go_enter Tryz.func69, Tryz.ntmps69
  obtain ⟨x0, x1, x2, xl⟩ := HR0.out.facts
  obtain ⟨v0, v1, v2, v3, v4, v5, v6⟩ := HM0.out.m7
  have vl := HM0.out.lt
  have c0 := HC.out
  have cl := HBL.out
  go_wp2_with fail
  obtain ⟨p, hp⟩ : ∃ p, p = w.heap.size := ⟨_, rfl⟩
  obtain ⟨q, hq⟩ : ∃ q, q = w.heap.size + 1 := ⟨_, rfl⟩
  obtain ⟨r, hr⟩ : ∃ r, r = w.heap.size + 1 + 1 := ⟨_, rfl⟩
  have HRR := Lib.hid (show w.heap.size ≤ r by omega)
  clear x0 x1 x2 xl v0 v1 v2 v3 v4 v5 v6 vl c0 cl
  rw [← hr, ← hq, ← hp]
  rw [← hp] at HR0
  rw [← hq] at HM0
  rw [← hr] at HZ0
  clear hp hq hr HC HBL
  generalize (((w.alloc (.cells #[.slice A cs.length c, .int .i64 hd, .int .i64 sz] 27)).alloc (.cells #[.int .i64 M.id, .int .i64 M.rt, .int .i64 M.ep, .int .i64 M.ct, .int .i64 M.gn, .int .i64 M.st, .string M.bd] 44)).alloc (.cells #[.slice none 0 0, .int .i64 0, .int .i64 0] 27)) = w3 at *
  refine (HSP.out _).mono ?_
  rintro e w4 ⟨rfl, hb⟩
  have HR1 := Lib.hid (HR0.out.below hb)
  have HM1 := Lib.hid (HM0.out.up hb)
  have HZ1 := Lib.hid (HZ0.out.below hb HZ0.out.lt)
  clear hb
  obtain ⟨x0, x1, x2, xl⟩ := HR1.out.facts
  obtain ⟨v0, v1, v2, v3, v4, v5, v6⟩ := HM1.out.m7
  have vl := HM1.out.lt
  cases sp with
  | true =>
    obtain ⟨xs, hxs⟩ : ∃ xs, xs = pbC cs hd sz M := ⟨_, rfl⟩
    obtain ⟨xh, hxh⟩ : ∃ xh, xh = ifE (puE cs hd sz M) hd := ⟨_, rfl⟩
    have HNC := Lib.hid (show nkC cs hd sz M lim = xs by unfold nkC; rw [if_pos HSPF.out, hxs])
    have HNH := Lib.hid (show nkH cs hd sz M lim = xh by unfold nkH; rw [if_pos HSPF.out, hxh])
    rw [← hxs, ← hxh, HPE2.out] at HPB
    clear hxs hxh
    go_wp2_with fail
    clear x0 x1 x2 xl v0 v1 v2 v3 v4 v5 v6 vl
    refine (HPB.out _ ((HV.out.below HR1.out.bel).more HR1.out.bel.size)).mono ?_
    rintro e w5 ⟨A5, c5, rfl, hn, hl, hb⟩
    have HR2 := Lib.hid (HR1.out.below hb)
    have HZ2 := Lib.hid (HZ1.out.below hb HZ1.out.lt)
    have HF := Lib.hid (show RP w (nkC cs hd sz M lim) (nkH cs hd sz M lim) zz pE (.returned (.tuple #[.agg #[.slice A5 xs.length c5, .int .i64 xh, .int .i64 zz], .int .i64 pE])) (((w5.setCell ⟨r, 0, none⟩ (.slice A5 xs.length c5)).setCell ⟨r, 1, none⟩ (.int .i64 xh)).setCell ⟨r, 2, none⟩ (.int .i64 zz)) from by
      rw [HNC.out, HNH.out]
      exact ⟨A5, c5, rfl, nw_low hn HR1.out.bel.size, (hl.off3 hn HZ1.out.lt _ _ _).more (by simp), bst (bst (bst HR2.out.bel (p := ⟨r, 0, none⟩) HRR.out _) (p := ⟨r, 1, none⟩) HRR.out _) (p := ⟨r, 2, none⟩) HRR.out _⟩)
    clear hn hl hb
    obtain ⟨r0, r1, r2, r3, r4, r5, rl⟩ := HZ2.out.facts
    go_wp2
    exact bodyPost_ret (v := .tuple #[.agg #[.slice A5 xs.length c5, .int .i64 xh, .int .i64 zz], .int .i64 pE]) (by simp only [results, Tryz.results69]; go_simp <;> rfl) rfl HF.out
  | false =>
    have hsp' : ¬ spF M lim = true := by rw [HSPF.out]; decide
    obtain ⟨xs, hxs⟩ : ∃ xs, xs = pfC cs hd sz M := ⟨_, rfl⟩
    obtain ⟨xh, hxh⟩ : ∃ xh, xh = pfH cs hd sz M := ⟨_, rfl⟩
    have HNC := Lib.hid (show nkC cs hd sz M lim = xs by unfold nkC; rw [if_neg hsp', hxs])
    have HNH := Lib.hid (show nkH cs hd sz M lim = xh by unfold nkH; rw [if_neg hsp', hxh])
    rw [← hxs, ← hxh] at HPF
    clear hxs hxh hsp'
    go_wp2_with fail
    clear x0 x1 x2 xl v0 v1 v2 v3 v4 v5 v6 vl
    refine (HPF.out _ ((HV.out.below HR1.out.bel).more HR1.out.bel.size)).mono ?_
    rintro e w5 ⟨A5, c5, rfl, hn, hl, hb⟩
    have HR2 := Lib.hid (HR1.out.below hb)
    have HZ2 := Lib.hid (HZ1.out.below hb HZ1.out.lt)
    have HF := Lib.hid (show RP w (nkC cs hd sz M lim) (nkH cs hd sz M lim) zz pE (.returned (.tuple #[.agg #[.slice A5 xs.length c5, .int .i64 xh, .int .i64 zz], .int .i64 pE])) (((w5.setCell ⟨r, 0, none⟩ (.slice A5 xs.length c5)).setCell ⟨r, 1, none⟩ (.int .i64 xh)).setCell ⟨r, 2, none⟩ (.int .i64 zz)) from by
      rw [HNC.out, HNH.out]
      exact ⟨A5, c5, rfl, nw_low hn HR1.out.bel.size, (hl.off3 hn HZ1.out.lt _ _ _).more (by simp), bst (bst (bst HR2.out.bel (p := ⟨r, 0, none⟩) HRR.out _) (p := ⟨r, 1, none⟩) HRR.out _) (p := ⟨r, 2, none⟩) HRR.out _⟩)
    clear hn hl hb
    obtain ⟨r0, r1, r2, r3, r4, r5, rl⟩ := HZ2.out.facts
    go_wp2
    exact bodyPost_ret (v := .tuple #[.agg #[.slice A5 xs.length c5, .int .i64 xh, .int .i64 zz], .int .i64 pE]) (by simp only [results, Tryz.results69]; go_simp <;> rfl) rfl HF.out
set_option maxHeartbeats 8000000 in
set_option maxRecDepth 20000 in
theorem giveback_any (S : Sh) (D : Sx) (id : Int) (w : World) (hs : SR w w.heap.size S D) :
    Calls Tryz.prog 68 #[sv S D, .int .i64 id, .func (.func 71) #[] #[]] w (SV w (gbB S id)) := by
  have H0 := Lib.hid ((SAt.start 33 hs).alloc (.cells #[.bool false, .int .i64 0, .int .i64 0, .slice none 0 0, .int .i64 0, .int .i64 0, .slice none 0 0, .slice none 0 0] 33))
  have R0 := Lib.hid (SB8.zero (w.alloc (.cells #[.bool S.lv, .int .i64 S.lo, .int .i64 S.hi, .slice D.A S.cs.length D.c, .int .i64 S.hd, .int .i64 S.sz, .slice D.A2 S.l.length D.c2, .slice D.A3 S.h.length D.c3] 33)) 33)
  have HRL := Lib.hid (fun p W (q : SAt w p S D W) => lrelease_any D.A2 S.l.length D.c2 S.l D.A3 S.h.length D.c3 S.h id W q.sr.el q.sr.dl)
  have HPB := Lib.hid (fun p (l : List Le) (hh : List Du) D W (q : SAt w p ⟨S.lv, S.lo, S.hi, S.cs, S.hd, S.sz, l, hh⟩ D W) => pback_any D.A S.cs.length D.c S.cs S.hd S.sz (rlM S.l S.h id) W q.sr.ls)
  obtain ⟨T, hT⟩ : ∃ T, T = (gbB S id) := ⟨_, rfl⟩
  have HTT := Lib.hid (show T = ⟨S.lv, S.lo, S.hi, pbC S.cs S.hd S.sz (rlM S.l S.h id), ifE (puE S.cs S.hd S.sz (rlM S.l S.h id)) S.hd, ifE (puE S.cs S.hd S.sz (rlM S.l S.h id)) (S.sz + 1), rlL S.l S.h id, rlH S.l S.h id⟩ from hT)
  rw [← hT]
  clear hT hs
  generalize rlL S.l S.h id = gl at *
  generalize rlH S.l S.h id = gh at *
  generalize rlE S.l S.h id = rE at *
  generalize rlM S.l S.h id = M at *
  generalize pbC S.cs S.hd S.sz M = cs at *
  generalize ifE (puE S.cs S.hd S.sz M) S.hd = hd at *
  generalize ifE (puE S.cs S.hd S.sz M) (S.sz + 1) = sz at *
  generalize puE S.cs S.hd S.sz M = pE at *
  go_enter Tryz.func68, Tryz.ntmps68
  obtain ⟨t0, t1, t2, t3, t4, t5, t6, t7, tl⟩ := H0.out.s8.facts
  go_wp2_with fail
  clear t0 t1 t2 t3 t4 t5 t6 t7 tl
  obtain ⟨p, hp⟩ : ∃ p, p = w.heap.size := ⟨_, rfl⟩
  obtain ⟨r, hr⟩ : ∃ r, r = w.heap.size + 1 := ⟨_, rfl⟩
  have e1 : (w.alloc (.cells #[.bool S.lv, .int .i64 S.lo, .int .i64 S.hi, .slice D.A S.cs.length D.c, .int .i64 S.hd, .int .i64 S.sz, .slice D.A2 S.l.length D.c2, .slice D.A3 S.h.length D.c3] 33)).heap.size = r := by rw [hr]; simp
  rw [e1] at R0
  have HPR := Lib.hid (show ¬ p = r ∧ ¬ r = p ∧ w.heap.size ≤ p ∧ p < r by omega)
  rw [← hr, ← hp]
  rw [← hp] at H0
  clear e1 hp hr
  generalize ((w.alloc (.cells #[.bool S.lv, .int .i64 S.lo, .int .i64 S.hi, .slice D.A S.cs.length D.c, .int .i64 S.hd, .int .i64 S.sz, .slice D.A2 S.l.length D.c2, .slice D.A3 S.h.length D.c3] 33)).alloc (.cells #[.bool false, .int .i64 0, .int .i64 0, .slice none 0 0, .int .i64 0, .int .i64 0, .slice none 0 0, .slice none 0 0] 33)) = w1 at *
  refine (HRL.out _ _ H0.out).mono ?_
  rintro e w2 ⟨A3, c3, A4, c4, rfl, n3, n4, h3, h4, hb⟩
  have H1 := Lib.hid (H0.out.below hb)
  have R1 := Lib.hid (R0.out.up hb)
  have H2 := Lib.hid (H1.out.setTab h3 h4 (offb_nw n3 H0.out.lt) (offb_nw n4 H0.out.lt))
  have R2 := Lib.hid ((R1.out.other (q := ⟨p, 6, none⟩) HPR.out.1 (.slice A3 gl.length c3)).other (q := ⟨p, 7, none⟩) HPR.out.1 (.slice A4 gh.length c4))
  have H3 := Lib.hid (show SAt w p ⟨S.lv, S.lo, S.hi, S.cs, S.hd, S.sz, gl, gh⟩ ⟨D.A, D.c, A3, c3, A4, c4⟩ ((((w2.setCell ⟨p, 6, none⟩ (.slice A3 gl.length c3)).setCell ⟨p, 7, none⟩ (.slice A4 gh.length c4)).alloc (.cells #[.slice A3 gl.length c3, .slice A4 gh.length c4] 31)).alloc (.cells #[.int .i64 M.id, .int .i64 M.rt, .int .i64 M.ep, .int .i64 M.ct, .int .i64 M.gn, .int .i64 M.st, .string M.bd] 44)) from (H2.out.alloc _).alloc _)
  have R3 := Lib.hid (show SB8 ((((w2.setCell ⟨p, 6, none⟩ (.slice A3 gl.length c3)).setCell ⟨p, 7, none⟩ (.slice A4 gh.length c4)).alloc (.cells #[.slice A3 gl.length c3, .slice A4 gh.length c4] 31)).alloc (.cells #[.int .i64 M.id, .int .i64 M.rt, .int .i64 M.ep, .int .i64 M.ct, .int .i64 M.gn, .int .i64 M.st, .string M.bd] 44)) r zS zX from (R2.out.up ((Below.refl _ _).alloc (Nat.le_refl _) _)).up ((Below.refl _ _).alloc (Nat.le_refl _) _))
  have N3 := Lib.hid (show Nw (r + 1) A3 ∧ Nw (r + 1) A4 from ⟨nw_low n3 R0.out.lt, nw_low n4 R0.out.lt⟩)
  have HPW := Lib.hid (show p < w2.heap.size ∧ r < w2.heap.size from ⟨H1.out.lt, R1.out.lt⟩)
  clear n3 n4 h3 h4 hb
  obtain ⟨⟨t0, t1, t2, t3, t4, t5, t6, t7, tl⟩, ⟨f0, f1, f2, f3, f4, f5, f6, f7⟩⟩ := H1.out.s8.all
  go_wp2_with fail
  clear t0 t1 t2 t3 t4 t5 t6 t7 tl f0 f1 f2 f3 f4 f5 f6 f7
  generalize ((((w2.setCell ⟨p, 6, none⟩ (.slice A3 gl.length c3)).setCell ⟨p, 7, none⟩ (.slice A4 gh.length c4)).alloc (.cells #[.slice A3 gl.length c3, .slice A4 gh.length c4] 31)).alloc (.cells #[.int .i64 M.id, .int .i64 M.rt, .int .i64 M.ep, .int .i64 M.ct, .int .i64 M.gn, .int .i64 M.st, .string M.bd] 44)) = w4 at *
  refine (HPB.out _ gl gh _ _ H3.out).mono ?_
  rintro e w5 ⟨A6, c6, rfl, hn6, hl6, hb⟩
  have H5 := Lib.hid (H3.out.below hb)
  have R5 := Lib.hid (R3.out.up hb)
  have H6 := Lib.hid (H5.out.setRing hd sz hl6 (offb_nw hn6 H3.out.lt))
  have N6 := Lib.hid (show Nw (r + 1) A6 from nw_low hn6 R3.out.lt)
  clear hn6 hl6 hb
  have HF := Lib.hid (show SV w T (.returned (.agg #[.bool S.lv, .int .i64 S.lo, .int .i64 S.hi, .slice A6 cs.length c6, .int .i64 hd, .int .i64 sz, .slice A3 gl.length c3, .slice A4 gh.length c4])) (((((((((((w5.setCell ⟨p, 3, none⟩ (.slice A6 cs.length c6)).setCell ⟨p, 4, none⟩ (.int .i64 hd)).setCell ⟨p, 5, none⟩ (.int .i64 sz)).setCell ⟨r, 0, none⟩ (.bool S.lv)).setCell ⟨r, 1, none⟩ (.int .i64 S.lo)).setCell ⟨r, 2, none⟩ (.int .i64 S.hi)).setCell ⟨r, 3, none⟩ (.slice A6 cs.length c6)).setCell ⟨r, 4, none⟩ (.int .i64 hd)).setCell ⟨r, 5, none⟩ (.int .i64 sz)).setCell ⟨r, 6, none⟩ (.slice A3 gl.length c3)).setCell ⟨r, 7, none⟩ (.slice A4 gh.length c4)) from by
    rw [HTT.out]
    have hne := HPR.out
    exact ⟨⟨A6, c6, A3, c3, A4, c4⟩, rfl, ⟨nw_low N6.out (by omega), nw_low N3.out.1 (by omega), nw_low N3.out.2 (by omega)⟩, SR.sets (S := ⟨S.lv, S.lo, S.hi, cs, hd, sz, gl, gh⟩) (D := ⟨A6, c6, A3, c3, A4, c4⟩) ⟨offb_nw N6.out (Nat.lt_succ_self r), offb_nw N3.out.1 (Nat.lt_succ_self r), offb_nw N3.out.2 (Nat.lt_succ_self r)⟩ (Sh.l8 ⟨S.lv, S.lo, S.hi, cs, hd, sz, gl, gh⟩ ⟨A6, c6, A3, c3, A4, c4⟩) 0 _ H6.out.sr, set8s_below (show w.heap.size ≤ r by omega) H6.out.bel ⟨S.lv, S.lo, S.hi, cs, hd, sz, gl, gh⟩ ⟨A6, c6, A3, c3, A4, c4⟩⟩)
  obtain ⟨⟨t0, t1, t2, t3, t4, t5, t6, t7, tl⟩, ⟨f0, f1, f2, f3, f4, f5, f6, f7⟩⟩ := H5.out.s8.all
  obtain ⟨⟨r0, r1, r2, r3, r4, r5, r6, r7, rl⟩, ⟨g0, g1, g2, g3, g4, g5, g6, g7⟩⟩ := R5.out.all
  obtain ⟨hpr, hrp, -, -⟩ := HPR.out
  go_wp2
  exact bodyPost_ret (v := .agg #[.bool S.lv, .int .i64 S.lo, .int .i64 S.hi, .slice A6 cs.length c6, .int .i64 hd, .int .i64 sz, .slice A3 gl.length c3, .slice A4 gh.length c4]) (by simp only [results, Tryz.results68]; go_simp <;> rfl) rfl HF.out
set_option maxHeartbeats 8000000 in
set_option maxRecDepth 20000 in
theorem givenack_any (S : Sh) (D : Sx) (id : Int) (b : Nat) (lim : Int) (w : World) (hs : SR w w.heap.size S D) (hc : w.cell? ⟨b, 0, none⟩ = some (.int .i64 lim)) (hb : b < w.heap.size) :
    Calls Tryz.prog 68 #[sv S D, .int .i64 id, .func (.func 69) #[] #[.pointer (some ⟨b, 0, none⟩)]] w (SV w (gbN S id lim)) := by
  have H0 := Lib.hid ((SAt.start 33 hs).alloc (.cells #[.bool false, .int .i64 0, .int .i64 0, .slice none 0 0, .int .i64 0, .int .i64 0, .slice none 0 0, .slice none 0 0] 33))
  have R0 := Lib.hid (SB8.zero (w.alloc (.cells #[.bool S.lv, .int .i64 S.lo, .int .i64 S.hi, .slice D.A S.cs.length D.c, .int .i64 S.hd, .int .i64 S.sz, .slice D.A2 S.l.length D.c2, .slice D.A3 S.h.length D.c3] 33)) 33)
  have HRL := Lib.hid (fun p W (q : SAt w p S D W) => lrelease_any D.A2 S.l.length D.c2 S.l D.A3 S.h.length D.c3 S.h id W q.sr.el q.sr.dl)
  have HPB := Lib.hid (fun p (l : List Le) (hh : List Du) D W (q : SAt w p ⟨S.lv, S.lo, S.hi, S.cs, S.hd, S.sz, l, hh⟩ D W) => nack1_any D.A S.cs.length D.c S.cs S.hd S.sz (rlM S.l S.h id) b lim W q.sr.ls ((q.bel.cell (p := ⟨b, 0, none⟩) hb).trans hc) (Nat.lt_of_lt_of_le hb q.bel.size))
  clear hc hb
  obtain ⟨T, hT⟩ : ∃ T, T = (gbN S id lim) := ⟨_, rfl⟩
  have HTT := Lib.hid (show T = ⟨S.lv, S.lo, S.hi, nkC S.cs S.hd S.sz (rlM S.l S.h id) lim, nkH S.cs S.hd S.sz (rlM S.l S.h id) lim, ifE (puE S.cs S.hd S.sz (rlM S.l S.h id)) (S.sz + 1), rlL S.l S.h id, rlH S.l S.h id⟩ from hT)
  rw [← hT]
  clear hT hs
  generalize rlL S.l S.h id = gl at *
  generalize rlH S.l S.h id = gh at *
  generalize rlE S.l S.h id = rE at *
  generalize rlM S.l S.h id = M at *
  generalize nkC S.cs S.hd S.sz M lim = cs at *
  generalize nkH S.cs S.hd S.sz M lim = hd at *
  generalize ifE (puE S.cs S.hd S.sz M) (S.sz + 1) = sz at *
  generalize puE S.cs S.hd S.sz M = pE at *
  go_enter Tryz.func68, Tryz.ntmps68
  obtain ⟨t0, t1, t2, t3, t4, t5, t6, t7, tl⟩ := H0.out.s8.facts
  go_wp2_with fail
  clear t0 t1 t2 t3 t4 t5 t6 t7 tl
  obtain ⟨p, hp⟩ : ∃ p, p = w.heap.size := ⟨_, rfl⟩
  obtain ⟨r, hr⟩ : ∃ r, r = w.heap.size + 1 := ⟨_, rfl⟩
  have e1 : (w.alloc (.cells #[.bool S.lv, .int .i64 S.lo, .int .i64 S.hi, .slice D.A S.cs.length D.c, .int .i64 S.hd, .int .i64 S.sz, .slice D.A2 S.l.length D.c2, .slice D.A3 S.h.length D.c3] 33)).heap.size = r := by rw [hr]; simp
  rw [e1] at R0
  have HPR := Lib.hid (show ¬ p = r ∧ ¬ r = p ∧ w.heap.size ≤ p ∧ p < r by omega)
  rw [← hr, ← hp]
  rw [← hp] at H0
  clear e1 hp hr
  generalize ((w.alloc (.cells #[.bool S.lv, .int .i64 S.lo, .int .i64 S.hi, .slice D.A S.cs.length D.c, .int .i64 S.hd, .int .i64 S.sz, .slice D.A2 S.l.length D.c2, .slice D.A3 S.h.length D.c3] 33)).alloc (.cells #[.bool false, .int .i64 0, .int .i64 0, .slice none 0 0, .int .i64 0, .int .i64 0, .slice none 0 0, .slice none 0 0] 33)) = w1 at *
  refine (HRL.out _ _ H0.out).mono ?_
  rintro e w2 ⟨A3, c3, A4, c4, rfl, n3, n4, h3, h4, hb⟩
  have H1 := Lib.hid (H0.out.below hb)
  have R1 := Lib.hid (R0.out.up hb)
  have H2 := Lib.hid (H1.out.setTab h3 h4 (offb_nw n3 H0.out.lt) (offb_nw n4 H0.out.lt))
  have R2 := Lib.hid ((R1.out.other (q := ⟨p, 6, none⟩) HPR.out.1 (.slice A3 gl.length c3)).other (q := ⟨p, 7, none⟩) HPR.out.1 (.slice A4 gh.length c4))
  have H3 := Lib.hid (show SAt w p ⟨S.lv, S.lo, S.hi, S.cs, S.hd, S.sz, gl, gh⟩ ⟨D.A, D.c, A3, c3, A4, c4⟩ ((((w2.setCell ⟨p, 6, none⟩ (.slice A3 gl.length c3)).setCell ⟨p, 7, none⟩ (.slice A4 gh.length c4)).alloc (.cells #[.slice A3 gl.length c3, .slice A4 gh.length c4] 31)).alloc (.cells #[.int .i64 M.id, .int .i64 M.rt, .int .i64 M.ep, .int .i64 M.ct, .int .i64 M.gn, .int .i64 M.st, .string M.bd] 44)) from (H2.out.alloc _).alloc _)
  have R3 := Lib.hid (show SB8 ((((w2.setCell ⟨p, 6, none⟩ (.slice A3 gl.length c3)).setCell ⟨p, 7, none⟩ (.slice A4 gh.length c4)).alloc (.cells #[.slice A3 gl.length c3, .slice A4 gh.length c4] 31)).alloc (.cells #[.int .i64 M.id, .int .i64 M.rt, .int .i64 M.ep, .int .i64 M.ct, .int .i64 M.gn, .int .i64 M.st, .string M.bd] 44)) r zS zX from (R2.out.up ((Below.refl _ _).alloc (Nat.le_refl _) _)).up ((Below.refl _ _).alloc (Nat.le_refl _) _))
  have N3 := Lib.hid (show Nw (r + 1) A3 ∧ Nw (r + 1) A4 from ⟨nw_low n3 R0.out.lt, nw_low n4 R0.out.lt⟩)
  have HPW := Lib.hid (show p < w2.heap.size ∧ r < w2.heap.size from ⟨H1.out.lt, R1.out.lt⟩)
  clear n3 n4 h3 h4 hb
  obtain ⟨⟨t0, t1, t2, t3, t4, t5, t6, t7, tl⟩, ⟨f0, f1, f2, f3, f4, f5, f6, f7⟩⟩ := H1.out.s8.all
  go_wp2_with fail
  clear t0 t1 t2 t3 t4 t5 t6 t7 tl f0 f1 f2 f3 f4 f5 f6 f7
  generalize ((((w2.setCell ⟨p, 6, none⟩ (.slice A3 gl.length c3)).setCell ⟨p, 7, none⟩ (.slice A4 gh.length c4)).alloc (.cells #[.slice A3 gl.length c3, .slice A4 gh.length c4] 31)).alloc (.cells #[.int .i64 M.id, .int .i64 M.rt, .int .i64 M.ep, .int .i64 M.ct, .int .i64 M.gn, .int .i64 M.st, .string M.bd] 44)) = w4 at *
  refine (HPB.out _ gl gh _ _ H3.out).mono ?_
  rintro e w5 ⟨A6, c6, rfl, hn6, hl6, hb⟩
  have H5 := Lib.hid (H3.out.below hb)
  have R5 := Lib.hid (R3.out.up hb)
  have H6 := Lib.hid (H5.out.setRing hd sz hl6 (offb_nw hn6 H3.out.lt))
  have N6 := Lib.hid (show Nw (r + 1) A6 from nw_low hn6 R3.out.lt)
  clear hn6 hl6 hb
  have HF := Lib.hid (show SV w T (.returned (.agg #[.bool S.lv, .int .i64 S.lo, .int .i64 S.hi, .slice A6 cs.length c6, .int .i64 hd, .int .i64 sz, .slice A3 gl.length c3, .slice A4 gh.length c4])) (((((((((((w5.setCell ⟨p, 3, none⟩ (.slice A6 cs.length c6)).setCell ⟨p, 4, none⟩ (.int .i64 hd)).setCell ⟨p, 5, none⟩ (.int .i64 sz)).setCell ⟨r, 0, none⟩ (.bool S.lv)).setCell ⟨r, 1, none⟩ (.int .i64 S.lo)).setCell ⟨r, 2, none⟩ (.int .i64 S.hi)).setCell ⟨r, 3, none⟩ (.slice A6 cs.length c6)).setCell ⟨r, 4, none⟩ (.int .i64 hd)).setCell ⟨r, 5, none⟩ (.int .i64 sz)).setCell ⟨r, 6, none⟩ (.slice A3 gl.length c3)).setCell ⟨r, 7, none⟩ (.slice A4 gh.length c4)) from by
    rw [HTT.out]
    have hne := HPR.out
    exact ⟨⟨A6, c6, A3, c3, A4, c4⟩, rfl, ⟨nw_low N6.out (by omega), nw_low N3.out.1 (by omega), nw_low N3.out.2 (by omega)⟩, SR.sets (S := ⟨S.lv, S.lo, S.hi, cs, hd, sz, gl, gh⟩) (D := ⟨A6, c6, A3, c3, A4, c4⟩) ⟨offb_nw N6.out (Nat.lt_succ_self r), offb_nw N3.out.1 (Nat.lt_succ_self r), offb_nw N3.out.2 (Nat.lt_succ_self r)⟩ (Sh.l8 ⟨S.lv, S.lo, S.hi, cs, hd, sz, gl, gh⟩ ⟨A6, c6, A3, c3, A4, c4⟩) 0 _ H6.out.sr, set8s_below (show w.heap.size ≤ r by omega) H6.out.bel ⟨S.lv, S.lo, S.hi, cs, hd, sz, gl, gh⟩ ⟨A6, c6, A3, c3, A4, c4⟩⟩)
  obtain ⟨⟨t0, t1, t2, t3, t4, t5, t6, t7, tl⟩, ⟨f0, f1, f2, f3, f4, f5, f6, f7⟩⟩ := H5.out.s8.all
  obtain ⟨⟨r0, r1, r2, r3, r4, r5, r6, r7, rl⟩, ⟨g0, g1, g2, g3, g4, g5, g6, g7⟩⟩ := R5.out.all
  obtain ⟨hpr, hrp, -, -⟩ := HPR.out
  go_wp2
  exact bodyPost_ret (v := .agg #[.bool S.lv, .int .i64 S.lo, .int .i64 S.hi, .slice A6 cs.length c6, .int .i64 hd, .int .i64 sz, .slice A3 gl.length c3, .slice A4 gh.length c4]) (by simp only [results, Tryz.results68]; go_simp <;> rfl) rfl HF.out
end Go.Proofs.YtnldgfhkdllinaaGreat
namespace Go.Proofs.YtnldgfhkdllinaaGreat
open Go.RowKit
set_option linter.unusedVariables false

/-- The row is sorted. -/
def IsP (w : World) (q n : Nat) (h : List Du) (e : Ending) (w' : World) : Prop := e = .returned (.tuple #[]) ∧ ∃ g : List Du, g.Perm h ∧ Srt g ∧ RwAt w q n g w'
set_option maxHeartbeats 8000000 in
set_option maxRecDepth 20000 in
theorem isort_any (q n cap : Nat) (h : List Du) (w : World) (hr : DRow w q n (ge h)) (hn : h.length = n) (h100 : n ≤ 100) :
    Calls Tryz.prog 221 #[.slice (some ⟨q, 0, none⟩) n cap, .int .i64 0, .int .i64 n, .func (.func 176) #[] #[]] w (IsP w q n h) := by
  have H := Lib.hid (RwAt.mk hr hn (Below.refl q w))
  have hn100 : (n : Int) ≤ 100 := by omega
  clear hr hn
  go_enter Tryz.func221, Tryz.ntmps221
  go_wp2
  go_loopw [8] (fun iv wr => ∃ (i : Nat) (g : List Du), iv = .int .i64 i ∧ 1 ≤ i ∧ i ≤ 101 ∧ SrtTo h i g ∧ RwAt w q n g wr) (fun iv _ => n - (intOf iv).toNat)
  case atStart => exact ⟨1, h, rfl, Nat.le_refl _, by omega, SrtTo.start h, H.out⟩
  case round =>
    obtain ⟨i, g, rfl, hi1, hi2, hso, hra⟩ := hrel
    have HS := Lib.hid hso
    have HR := Lib.hid hra
    clear hso hra
    have hi3 : (i : Int) ≤ 101 := by omega
    by_cases hlt : i < n
    · have hlt' : (i : Int) < (n : Int) := by omega
      go_wp2
      go_loopw [9] (fun jv wr2 => ∃ (j : Nat) (g2 : List Du), jv = .int .i64 j ∧ j ≤ i ∧ Ins h i j g2 ∧ RwAt w q n g2 wr2) (fun jv _ => (intOf jv).toNat)
      case atStart => exact ⟨i, g, rfl, Nat.le_refl _, HS.out.ins, HR.out⟩
      case round =>
        obtain ⟨j, g2, rfl, hji, hin, hr2⟩ := hrel
        have HI := Lib.hid hin
        have HR2 := Lib.hid hr2
        clear hin hr2
        by_cases hj0 : 0 < j
        · obtain ⟨k, hk⟩ : ∃ k, k = j - 1 := ⟨_, rfl⟩
          have HK := Lib.hid hk
          have hw : IntKind.i64.wrap ((j : Int) - 1) = (k : Int) := by rw [IntWalk.i64_in _ (by omega)]; omega
          have hjn : j < n := by omega
          have hkn : k < n := by omega
          obtain ⟨c0, c1, f0, f1, hq⟩ := HR2.out.row.at_ hjn
          obtain ⟨d0, d1, e0, e1, -⟩ := HR2.out.row.at_ hkn
          obtain ⟨X, hX⟩ : ∃ X, ge g2 j = X := ⟨_, rfl⟩
          obtain ⟨Y, hY⟩ : ∃ Y, ge g2 k = Y := ⟨_, rfl⟩
          have HX := Lib.hid hX
          have HY := Lib.hid hY
          rw [hX] at c0 c1
          rw [hY] at d0 d1
          have HC := Lib.hid (fun w => compare_any X Y w)
          have HSA := Lib.hid (show wr.drew.cell? ⟨q, j * 2, none⟩ = some (.int .i64 X.dl) ∧ wr.drew.cell? ⟨q, j * 2 + 1, none⟩ = some (.int .i64 X.id) ∧ wr.drew.cell? ⟨q, k * 2, none⟩ = some (.int .i64 Y.dl) ∧ wr.drew.cell? ⟨q, k * 2 + 1, none⟩ = some (.int .i64 Y.id) from ⟨c0, c1, d0, d1⟩)
          have HSC := Lib.hid (fun w1 (hb1 : Below wr.drew.heap.size wr.drew w1) => show (w1.cell? ⟨q, j * 2, none⟩ = some (.int .i64 X.dl) ∧ w1.cell? ⟨q, j * 2 + 1, none⟩ = some (.int .i64 X.id) ∧ w1.cell? ⟨q, k * 2, none⟩ = some (.int .i64 Y.dl) ∧ w1.cell? ⟨q, k * 2 + 1, none⟩ = some (.int .i64 Y.id)) ∧ RwAt w q n g2 w1 from ⟨⟨(hb1.cell (p := ⟨q, j * 2, none⟩) hq).trans c0, (hb1.cell (p := ⟨q, j * 2 + 1, none⟩) hq).trans c1, (hb1.cell (p := ⟨q, k * 2, none⟩) hq).trans d0, (hb1.cell (p := ⟨q, k * 2 + 1, none⟩) hq).trans d1⟩, HR2.out.drew.below hb1⟩)
          have hj0' : (0 : Int) < (j : Int) := by omega
          have hjn' : (j : Int) < (n : Int) := by omega
          have hkn' : (k : Int) < (n : Int) := by omega
          have hgd : decide ((0 : Int) < (j : Int)) = true := decide_eq_true hj0'
          clear hX hY hk f0 f1 e0 e1
          cases hb : bef X Y with
          | true =>
            have HBB := Lib.hid (show bef (ge g2 j) (ge g2 (j - 1)) = true by rw [HX.out, ← HK.out, HY.out]; exact hb)
            have hne : ¬ j = k ∧ ¬ k = j := by have := HK.out; omega
            have HNE := Lib.hid hne
            rw [cmF_lt hb] at HC
            clear hb hne
            go_wp2
            go_region_held3 (fun W => W.cell? ⟨q, j * 2, none⟩ = some (.int .i64 X.dl) ∧ W.cell? ⟨q, j * 2 + 1, none⟩ = some (.int .i64 X.id) ∧ W.cell? ⟨q, k * 2, none⟩ = some (.int .i64 Y.dl) ∧ W.cell? ⟨q, k * 2 + 1, none⟩ = some (.int .i64 Y.id))
              (first | with_reducible exact HSA.out | with_reducible exact HSB.out)
              ((go_at_call 176; (with_reducible refine (HC.out _).mono ?_); rintro e w1 ⟨rfl, hb1⟩; obtain ⟨hs, hr⟩ := HSC.out _ hb1; have HSB := Lib.hid hs; have HR3 := Lib.hid hr; clear hb1 hs hr))
            clear c0 c1 d0 d1 hq
            obtain ⟨c0, c1, f0, f1, hq⟩ := HR3.out.row.at_ hjn
            obtain ⟨d0, d1, e0, e1, -⟩ := HR3.out.row.at_ hkn
            rw [HX.out] at c0 c1
            rw [HY.out] at d0 d1
            obtain ⟨n1, n2⟩ := HNE.out
            go_wp2
            go_region
            clear c0 c1 d0 d1 f0 f1 e0 e1 hq n1 n2
            have HR4 := Lib.hid ((HR3.out.swap hjn hkn).drew)
            rw [HX.out, HY.out] at HR4
            generalize ((((w1.setCell ⟨q, j * 2, none⟩ (.int .i64 Y.dl)).setCell ⟨q, j * 2 + 1, none⟩ (.int .i64 Y.id)).setCell ⟨q, k * 2, none⟩ (.int .i64 X.dl)).setCell ⟨q, k * 2 + 1, none⟩ (.int .i64 X.id)).drew = w2 at *
            have HI2 := Lib.hid (show Ins h i k (swp g2 j k) by rw [HK.out]; exact HI.out.step hj0 hji (by rw [HR2.out.len]; omega) HBB.out)
            go_wp2
            go_roundw
            case rel => exact ⟨k, swp g2 j k, by have := HK.out; go_num, by have := HK.out; omega, HI2.out, HR4.out⟩
            case measure => have := HK.out; simp [intOf]; omega
          | false =>
            have HDN := Lib.hid (HI.out.done hji (.inr (by rw [HX.out, ← HK.out, HY.out]; exact hb)))
            have hcn : ¬ (cmF X Y < 0) := fun hc => by rw [(cmF_neg X Y).1 hc] at hb; cases hb
            generalize cmF X Y = cv at *
            have hcd : decide (cv < 0) = false := decide_eq_false hcn
            clear hb
            go_wp2
            go_region_held3 (fun W => W.cell? ⟨q, j * 2, none⟩ = some (.int .i64 X.dl) ∧ W.cell? ⟨q, j * 2 + 1, none⟩ = some (.int .i64 X.id) ∧ W.cell? ⟨q, k * 2, none⟩ = some (.int .i64 Y.dl) ∧ W.cell? ⟨q, k * 2 + 1, none⟩ = some (.int .i64 Y.id))
              (first | with_reducible exact HSA.out | with_reducible exact HSB.out)
              ((go_at_call 176; (with_reducible refine (HC.out _).mono ?_); rintro e w1 ⟨rfl, hb1⟩; obtain ⟨hs, hr⟩ := HSC.out _ hb1; have HSB := Lib.hid hs; have HR3 := Lib.hid hr; clear hb1 hs hr))
            clear c0 c1 d0 d1 hq
            go_wp2
            go_roundw
            case rel => exact ⟨i + 1, g2, by go_num, by omega, by omega, HDN.out, HR3.out⟩
            case measure => simp [intOf]; omega
        · obtain rfl : j = 0 := by omega
          have HDN := Lib.hid (HI.out.done (Nat.zero_le _) (.inl rfl))
          go_wp2
          go_quiet (fail)
          go_wp2
          go_roundw
          case rel => exact ⟨i + 1, g2, by go_num, by omega, by omega, HDN.out, HR2.out.drewN _⟩
          case measure => simp [intOf]; omega
    · have hlt' : ¬ (i : Int) < (n : Int) := by omega
      have HF := Lib.hid (show ∃ g : List Du, g.Perm h ∧ Srt g ∧ RwAt w q n g wr from ⟨g, HS.out.perm, HS.out.srt (by rw [HR.out.len]; omega), HR.out⟩)
      go_wp2
      go_end0
      exact ⟨rfl, HF.out⟩
end Go.Proofs.YtnldgfhkdllinaaGreat
namespace Go.Proofs.YtnldgfhkdllinaaGreat
open Go.RowKit
set_option linter.unusedVariables false

def LnP (w : World) (e : Ending) (w' : World) : Prop := ∃ r : Int, e = .returned (.int .i64 r) ∧ w = w'
set_option maxHeartbeats 8000000 in
set_option maxRecDepth 200000 in
theorem len64_any (x : Nat) (hx : x ≤ 12) (w : World) : Calls Tryz.prog 230 #[.int .u64 (x : Int)] w (LnP w) := by
  have hc : x = 0 ∨ x = 1 ∨ x = 2 ∨ x = 3 ∨ x = 4 ∨ x = 5 ∨ x = 6 ∨ x = 7 ∨ x = 8 ∨ x = 9 ∨ x = 10 ∨ x = 11 ∨ x = 12 := by omega
  clear hx
  rcases hc with rfl | rfl | rfl | rfl | rfl | rfl | rfl | rfl | rfl | rfl | rfl | rfl | rfl
  all_goals
    go_enter Tryz.func230, Tryz.ntmps230
    go_wp2
    go_ret
    exact ⟨_, rfl, rfl⟩
theorem len_any (x : Nat) (hx : x ≤ 12) (w : World) : Calls Tryz.prog 220 #[.int .u64 (x : Int)] w (LnP w) := by
  have HL := Lib.hid (len64_any x hx)
  have hx' : (x : Int) ≤ 12 := by omega
  clear hx
  go_enter Tryz.func220, Tryz.ntmps220
  go_wp2_with fail
  refine (HL.out _).mono ?_
  rintro e w1 ⟨r, rfl, rfl⟩
  go_wp2
  go_ret
  exact ⟨_, rfl, rfl⟩
end Go.Proofs.YtnldgfhkdllinaaGreat
