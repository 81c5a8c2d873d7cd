/- What is proved here: arena.isSlot, ownerOf, ownerError, slotError, isNumber by contracts; arena.Unlock by a contract; Jl; locker.cellAt, pause, backOff, Free by contracts; locker.backOff, Free by contracts. -/
import Derived.Test.YtommkhjgockpfaaJ34
import Derived.Deep.DeepCutAuto
import Derived.Deep.RegionHeld3
import Derived.Test.YtommkhjgockpfaaJ32
namespace Go.Proofs.Ytommkhjgockpfaa
open Go.RowKit
set_option linter.unusedVariables false

/-- The place of an owner, the slots' row from o on. -/
def ownQ (p b o n k : Nat) : Addr := if k = n then ⟨p, 2, none⟩ else ⟨b, o + k * 9, none⟩
set_option maxHeartbeats 4000000 in
set_option maxRecDepth 20000 in
theorem aownerof2_any (a : Ar) (Y : Ax) (p b o k : Nat) (w : World) (hq : QB w p a Y) (hA : Y.A = some ⟨b, o, none⟩) (hc : a.sl.length ≤ Y.c) (hk : k ≤ a.sl.length) (h1 : a.sl.length ≤ 1000) :
    Calls Try.prog 69 #[.pointer (some ⟨p, 0, none⟩), .int .i64 (k : Int)] w fun e w' => e = .returned (.pointer (some (ownQ p b o a.sl.length k))) ∧ Below w.heap.size w w' := by
  have HQ := Lib.hid hq
  have HD := Lib.hid (fun W => adeadcell_any a Y W)
  have HA := Lib.hid hA
  by_cases hkn : k = a.sl.length
  · have HP := Lib.hid (show ownQ p b o a.sl.length k = ⟨p, 2, none⟩ from if_pos hkn)
    have hk1 : ((k : Int) == (a.sl.length : Int)) = true := by simpa using (show (k : Int) = (a.sl.length : Int) by omega)
    clear hq hA hkn hk h1 hc
    go_enter Try.func69, Try.ntmps69
    obtain ⟨y0, y1, y2, y3, y4, y5, y6, y7, y8, y9, y10⟩ := HQ.out.k
    have yl := HQ.out.lt
    go_wp2_with fail
    refine (HD.out _).mono ?_
    rintro e w2 ⟨rfl, hb⟩
    have HB := Lib.hid hb
    clear hb y0 y1 y2 y3 y4 y5 y6 y7 y8 y9 y10
    go_wp2
    go_ret
    exact ⟨by rw [HP.out]; rfl, HB.out⟩
  · have HP := Lib.hid (show ownQ p b o a.sl.length k = ⟨b, o + k * 9, none⟩ from if_neg hkn)
    have hk1 : ((k : Int) == (a.sl.length : Int)) = false := by simpa using (show ¬ (k : Int) = (a.sl.length : Int) by omega)
    have hlt : k < a.sl.length := by omega
    have hlt' : (k : Int) < (a.sl.length : Int) := by omega
    clear hq hkn hk hA
    go_enter Try.func69, Try.ntmps69
    obtain ⟨y0, y1, y2, y3, y4, y5, y6, y7, y8, y9, y10⟩ := HQ.out.k
    have yl := HQ.out.lt
    go_wp2_with fail
    refine (HD.out _).mono ?_
    rintro e w2 ⟨rfl, hb⟩
    have HB := Lib.hid hb
    clear y0 y1 y2 y3 y4 y5 y6 y7 y8 y9 y10 yl
    obtain ⟨y0, -⟩ := (HQ.out.up hb).k
    have yl := (HQ.out.up hb).lt
    rw [HA.out] at y0
    clear hb
    go_wp2
    go_ret
    exact ⟨by rw [HP.out]; rfl, HB.out⟩
/-- The owner's cell of an arena in a box. -/
theorem Aw12.at_ {w W : World} {p : Nat} {a : Ar} {Y : Ax} (h : Aw12 w p a Y W) {k : Nat} (hk : k ≤ a.sl.length) (h0 : 0 < a.sl.length) : ∃ b o, Y.A = some ⟨b, o, none⟩ ∧ ∀ W', Below W.heap.size W W' → W'.cell? (ownQ p b o a.sl.length k) = some (.int .i64 (a.own k)) := by
  obtain ⟨D0, b, o, hA, hb, -, -, -⟩ := h.ar.at2 h0
  refine ⟨b, o, hA, fun W' hW => ?_⟩
  unfold ownQ Ar.own
  by_cases e : k = a.sl.length
  · rw [if_pos e, if_pos e]
    exact (hW.cell (p := ⟨p, 2, none⟩) h.qb.lt).trans h.qb.k.2.2.1
  · rw [if_neg e, if_neg e]
    obtain ⟨D, b', o', hA', hb', h9, -, -⟩ := h.ar.at2 (k := k) (by omega)
    rw [hA] at hA'
    injection hA' with hA'
    injection hA' with e1 e2 e3
    subst e1 e2
    exact (hW.cell (p := ⟨b, o + k * 9, none⟩) hb).trans h9.1
/-- The error of a cell and a task. -/
def owE (a : Ar) (k t : Int) : Int := if lkE a.sl.length k t = 0 then (if a.own k.toNat = t then 0 else 13) else lkE a.sl.length k t
theorem lk_nat {n : Nat} {k t : Int} (h : lkE n k t = 0) : k = (k.toNat : Int) ∧ k.toNat ≤ n := by
  unfold lkE at h
  by_cases hw : wi k 0 (n : Int) = true
  · have := wi_of hw; omega
  · rw [if_neg hw] at h; exact absurd h (by decide)
set_option maxHeartbeats 4000000 in
set_option maxRecDepth 20000 in
theorem aownererr_any (a : Ar) (Y : Ax) (k t : Int) (w : World) (har : AR w w.heap.size a Y) (hf : a.Few) : Calls Try.prog 70 #[av a Y, .int .i64 k, .int .i64 t] w fun e w' => e = .returned (.int .i64 (owE a k t)) ∧ Below w.heap.size w w' := by
  have H0 := Lib.hid (Aw12.start (Below.refl w.heap.size w) har)
  have HLK := Lib.hid (fun W => alockerr_any a Y k t W)
  have HFW := Lib.hid hf
  obtain ⟨L, hL⟩ : ∃ L, L = lkE a.sl.length k t := ⟨_, rfl⟩
  obtain ⟨OE, hOE⟩ : ∃ L, L = owE a k t := ⟨_, rfl⟩
  have HOE := Lib.hid (show OE = if L = 0 then (if a.own k.toNat = t then 0 else 13) else L from by rw [hOE, hL]; rfl)
  have HLL := Lib.hid hL
  rw [← hL] at HLK
  rw [← hOE]
  obtain ⟨p, hp⟩ : ∃ p, p = w.heap.size := ⟨_, rfl⟩
  have HPP := Lib.hid hp
  clear har hf hL hOE hp
  go_enter Try.func70, Try.ntmps70
  go_upto_region 1 with (fail)
  have H0 := Lib.hid (show Aw12 w p a Y (w.alloc (.cells #[.slice Y.A a.sl.length Y.c, .slice Y.A2 a.st.length Y.c2, .int .i64 a.ow, .int .i64 a.cap, .slice Y.A3 a.dl.length Y.c3, .int .i64 a.dir.vn, .slice Y.D.A a.dir.l.length Y.D.c, .slice Y.D.A2 a.dir.F.length Y.D.c2, .int .i64 a.ep, .int .i64 a.ck, .int .i64 a.ni] 46)) from by rw [HPP.out]; exact H0.out)
  rw [← HPP.out]
  generalize w.alloc (.cells #[.slice Y.A a.sl.length Y.c, .slice Y.A2 a.st.length Y.c2, .int .i64 a.ow, .int .i64 a.cap, .slice Y.A3 a.dl.length Y.c3, .int .i64 a.dir.vn, .slice Y.D.A a.dir.l.length Y.D.c, .slice Y.D.A2 a.dir.F.length Y.D.c2, .int .i64 a.ep, .int .i64 a.ck, .int .i64 a.ni] 46) = w1 at *
  obtain ⟨y0, y1, y2, y3, y4, y5, y6, y7, y8, y9, y10⟩ := H0.out.qb.k
  have yl := H0.out.qb.lt
  go_wp2_with fail
  clear y0 y1 y2 y3 y4 y5 y6 y7 y8 y9 y10 yl
  refine (HLK.out _).mono ?_
  rintro e w2 ⟨rfl, hb⟩
  have H1 := Lib.hid (H0.out.below hb)
  clear hb H0 HLK
  by_cases hL0 : L = 0
  · have HN := Lib.hid (lk_nat (HLL.out.symm.trans hL0))
    have HO2 := Lib.hid (HOE.out.trans (if_pos hL0))
    obtain ⟨n, hn⟩ : ∃ n : Nat, n = k.toNat := ⟨_, rfl⟩
    rw [← hn] at HN HO2
    obtain ⟨b, o, hA, hcell⟩ := H1.out.at_ HN.out.2 HFW.out.sl.1
    have HCE := Lib.hid hcell
    have HOW := Lib.hid (aownerof2_any a Y p b o n w2 H1.out.qb hA (by have := H1.out.ar.ql.len; omega) HN.out.2 HFW.out.sl.2)
    have hkn := HN.out.1
    rw [← hkn] at HOW
    obtain ⟨P, hP⟩ : ∃ P, P = ownQ p b o a.sl.length n := ⟨_, rfl⟩
    rw [← hP] at HOW HCE
    obtain ⟨x, hx⟩ : ∃ x, x = a.own n := ⟨_, rfl⟩
    rw [← hx] at HCE HO2
    clear hkn hA hcell hn hP hx HN HLL HOE
    subst hL0
    go_wp2_with fail
    refine HOW.out.mono ?_
    rintro e w3 ⟨rfl, hb⟩
    have hc := HCE.out _ hb
    have H2 := Lib.hid (H1.out.below hb)
    clear hb HOW HCE H1
    by_cases hxt : x = t
    · have HO3 := Lib.hid (HO2.out.trans (if_pos hxt))
      have hne : (x != t) = false := by simpa using hxt
      clear HO2 hxt
      go_wp2
      go_ret
      exact ⟨by rw [HO3.out]; rfl, H2.out.bel⟩
    · have HO3 := Lib.hid (HO2.out.trans (if_neg hxt))
      have hne : (x != t) = true := bne_iff_ne.2 hxt
      clear HO2 hxt
      go_wp2
      go_ret
      exact ⟨by rw [HO3.out]; rfl, H2.out.bel⟩
  · have HO2 := Lib.hid (HOE.out.trans (if_neg hL0))
    have hne : (L != 0) = true := bne_iff_ne.2 hL0
    clear HOE HLL hL0
    go_wp2
    go_ret
    exact ⟨by rw [HO2.out]; rfl, H1.out.bel⟩
end Go.Proofs.Ytommkhjgockpfaa
namespace Go.Proofs.Ytommkhjgockpfaa
open Go.RowKit
set_option linter.unusedVariables false

/-- What Unlock gives. -/
def ulA (a : Ar) (k t : Int) : Ar := if owE a k t = 0 then a.setOwn k.toNat 0 else zA
theorem ow_nat {a : Ar} {k t : Int} (h : owE a k t = 0) : k = (k.toNat : Int) ∧ k.toNat ≤ a.sl.length := by
  unfold owE at h
  by_cases hl : lkE a.sl.length k t = 0
  · exact lk_nat hl
  · rw [if_neg hl] at h; exact absurd h hl
set_option maxHeartbeats 8000000 in
set_option maxRecDepth 20000 in
theorem aunlock_any (a : Ar) (Y : Ax) (k t : Int) (w : World) (har : AR w w.heap.size a Y) (hf : a.Few) : Calls Try.prog 50 #[av a Y, .int .i64 k, .int .i64 t] w (AE w (ulA a k t) (owE a k t)) := by
  obtain ⟨p, hp⟩ : ∃ p, p = w.heap.size := ⟨_, rfl⟩
  obtain ⟨r, hr⟩ : ∃ r, r = w.heap.size + 1 := ⟨_, rfl⟩
  have H0 := Lib.hid (show Ci12 w p r a Y _ from by rw [hr, hp]; exact Ci12.start har)
  have HPP := Lib.hid (And.intro hp hr)
  have HLK := Lib.hid (fun W (k' : Ci12 w p r a Y W) => aownererr_any a Y k t W (k'.ar.more k'.bel.size) hf)
  have HCL := Lib.hid (fun W (k : Ci12 w p r a Y W) => aclone_any a Y W (k.ar.more k.bel.size) hf)
  have HFW := Lib.hid hf
  obtain ⟨E, hE⟩ : ∃ E, E = owE a k t := ⟨_, rfl⟩
  rw [← hE] at HLK ⊢
  obtain ⟨TA, hTA⟩ : ∃ A, A = ulA a k t := ⟨_, rfl⟩
  have HTA := Lib.hid (show TA = if E = 0 then a.setOwn k.toNat 0 else zA from by rw [hTA, hE]; rfl)
  rw [← hTA]
  have HEE := Lib.hid hE
  clear hp hr har hf hTA hE
  go_enter Try.func50, Try.ntmps50
  go_upto_region 1 with (fail)
  rw [← HPP.out.2, ← HPP.out.1]
  generalize (w.alloc (.cells #[.slice Y.A a.sl.length Y.c, .slice Y.A2 a.st.length Y.c2, .int .i64 a.ow, .int .i64 a.cap, .slice Y.A3 a.dl.length Y.c3, .int .i64 a.dir.vn, .slice Y.D.A a.dir.l.length Y.D.c, .slice Y.D.A2 a.dir.F.length Y.D.c2, .int .i64 a.ep, .int .i64 a.ck, .int .i64 a.ni] 46)).alloc (.cells #[.slice none 0 0, .slice none 0 0, .int .i64 0, .int .i64 0, .slice none 0 0, .int .i64 0, .slice none 0 0, .slice none 0 0, .int .i64 0, .int .i64 0, .int .i64 0] 46) = w1 at *
  obtain ⟨y0, y1, y2, y3, y4, y5, y6, y7, y8, y9, y10⟩ := H0.out.pb.k
  have yl := H0.out.pb.lt
  go_wp2_with fail
  clear y0 y1 y2 y3 y4 y5 y6 y7 y8 y9 y10 yl
  refine (HLK.out _ H0.out).mono ?_
  rintro e w2 ⟨rfl, hb⟩
  have H1 := Lib.hid (H0.out.below hb)
  clear hb H0 HLK
  by_cases hE0 : E = 0
  · have HA2 := Lib.hid (HTA.out.trans (if_pos hE0))
    obtain ⟨n, hn⟩ : ∃ n : Nat, n = k.toNat := ⟨_, rfl⟩
    have HN := Lib.hid (show k = (n : Int) ∧ n ≤ a.sl.length from by rw [hn]; exact ow_nat (HEE.out.symm.trans hE0))
    rw [← hn] at HA2
    clear HTA HEE hn
    subst hE0
    obtain ⟨y0, y1, y2, y3, y4, y5, y6, y7, y8, y9, y10⟩ := H1.out.pb.k
    have yl := H1.out.pb.lt
    go_wp2_with fail
    clear y0 y1 y2 y3 y4 y5 y6 y7 y8 y9 y10 yl
    refine (HCL.out _ H1.out).mono ?_
    rintro e w3 ⟨Z, b, rfl, hnw, har, hb, ea, ec, hrow, o1, o2, o3, o4⟩
    have HC := Lib.hid (show Cb12 w p r b a Z (((((((((((w3.setCell ⟨p, 0, none⟩ (.slice Z.A a.sl.length Z.c)).setCell ⟨p, 1, none⟩ (.slice Z.A2 a.st.length Z.c2)).setCell ⟨p, 2, none⟩ (.int .i64 a.ow)).setCell ⟨p, 3, none⟩ (.int .i64 a.cap)).setCell ⟨p, 4, none⟩ (.slice Z.A3 a.dl.length Z.c3)).setCell ⟨p, 5, none⟩ (.int .i64 a.dir.vn)).setCell ⟨p, 6, none⟩ (.slice Z.D.A a.dir.l.length Z.D.c)).setCell ⟨p, 7, none⟩ (.slice Z.D.A2 a.dir.F.length Z.D.c2)).setCell ⟨p, 8, none⟩ (.int .i64 a.ep)).setCell ⟨p, 9, none⟩ (.int .i64 a.ck)).setCell ⟨p, 10, none⟩ (.int .i64 a.ni)) from H1.out.copied hb hnw har ea ec hrow o1 o2 o3 o4)
    have HNW := Lib.hid (hnw.low (show r + 1 ≤ _ from H1.out.rb.lt))
    have H2 := Lib.hid (H1.out.below hb)
    clear hnw har hb ea ec hrow o1 o2 o3 o4 H1 HCL
    obtain ⟨y0, y1, y2, y3, y4, y5, y6, y7, y8, y9, y10⟩ := H2.out.pb.k
    have yl := H2.out.pb.lt
    obtain ⟨f0, f1, f2, f3, f4, f5, f6, f7, f8, f9, f10⟩ := H2.out.pb.free
    go_upto_region 5 with (fail)
    clear y0 y1 y2 y3 y4 y5 y6 y7 y8 y9 y10 yl f0 f1 f2 f3 f4 f5 f6 f7 f8 f9 f10 H2
    generalize ((((((((((w3.setCell ⟨p, 0, none⟩ (.slice Z.A a.sl.length Z.c)).setCell ⟨p, 1, none⟩ (.slice Z.A2 a.st.length Z.c2)).setCell ⟨p, 2, none⟩ (.int .i64 a.ow)).setCell ⟨p, 3, none⟩ (.int .i64 a.cap)).setCell ⟨p, 4, none⟩ (.slice Z.A3 a.dl.length Z.c3)).setCell ⟨p, 5, none⟩ (.int .i64 a.dir.vn)).setCell ⟨p, 6, none⟩ (.slice Z.D.A a.dir.l.length Z.D.c)).setCell ⟨p, 7, none⟩ (.slice Z.D.A2 a.dir.F.length Z.D.c2)).setCell ⟨p, 8, none⟩ (.int .i64 a.ep)).setCell ⟨p, 9, none⟩ (.int .i64 a.ck)).setCell ⟨p, 10, none⟩ (.int .i64 a.ni) = w4 at *
    have hkn := HN.out.1
    have HOW := Lib.hid (aownerof_any a Z p b n w4 HC.out.pb HC.out.ea HC.out.ec.1 HN.out.2 HFW.out.sl.2)
    rw [← hkn] at HOW
    clear hkn
    go_wp2_with fail
    refine HOW.out.mono ?_
    rintro e w5 ⟨rfl, hb⟩
    have HC2 := Lib.hid (HC.out.below hb)
    obtain ⟨c1, c2, c3⟩ := HC2.out.at_ HN.out.2
    obtain ⟨Y', hcb, hny⟩ := HC2.out.own HN.out.2 0
    rw [← HA2.out] at hcb
    have HCB := Lib.hid hcb
    have HNY := Lib.hid (hny _ HNW.out)
    obtain ⟨P, hP⟩ : ∃ P, P = ownP p b a.sl.length n := ⟨_, rfl⟩
    rw [← hP] at HCB c1 c2 c3 ⊢
    generalize a.own n = x at *
    clear hb hP HOW HC HC2 HNW HA2 hcb hny
    go_upto_region 6 with (fail)
    clear c1 c2 c3
    generalize w5.setCell P (.int .i64 0) = w6 at *
    have HF := Lib.hid (ae_out (show w.heap.size ≤ r by have := HCB.out.ne; omega) HCB.out.bel HNY.out (Nat.le_refl r) HCB.out.ar 0)
    obtain ⟨y0, y1, y2, y3, y4, y5, y6, y7, y8, y9, y10⟩ := HCB.out.pb.k
    have yl := HCB.out.pb.lt
    obtain ⟨r0, r1, r2, r3, r4, r5, r6, r7, r8, r9, r10⟩ := HCB.out.rb.k
    have rl := HCB.out.rb.lt
    obtain ⟨f0, f1, f2, f3, f4, f5, f6, f7, f8, f9, f10⟩ := HCB.out.rb.free
    have hpr : ¬ p = r := by have := HCB.out.ne; omega
    have hrp : ¬ r = p := fun e => hpr e.symm
    clear HCB HNY
    go_wp2
    exact bodyPost_ret (v := .tuple #[av TA Y', .int .i64 0]) (by simp only [results, Try.results50]; go_simp <;> rfl) rfl HF.out
  · have hne : (E != 0) = true := bne_iff_ne.2 hE0
    have HA2 := Lib.hid (HTA.out.trans (if_neg hE0))
    have HF := Lib.hid (show AE w TA E (.returned (.tuple #[.agg #[.slice none 0 0, .slice none 0 0, .int .i64 0, .int .i64 0, .slice none 0 0, .int .i64 0, .slice none 0 0, .slice none 0 0, .int .i64 0, .int .i64 0, .int .i64 0], .int .i64 E])) (set11 w2 r zA zAx) from by
      rw [HA2.out]
      exact ae_out (show w.heap.size ≤ r by have := H1.out.ne; omega) H1.out.bel (zAx_nw _) (Nat.le_refl r) AR.zero E)
    obtain ⟨r0, r1, r2, r3, r4, r5, r6, r7, r8, r9, r10⟩ := H1.out.rb.k
    have rl := H1.out.rb.lt
    obtain ⟨f0, f1, f2, f3, f4, f5, f6, f7, f8, f9, f10⟩ := H1.out.rb.free
    clear HTA HEE HA2 H1 HCL hE0
    go_wp2
    exact bodyPost_ret (v := .tuple #[.agg #[.slice none 0 0, .slice none 0 0, .int .i64 0, .int .i64 0, .slice none 0 0, .int .i64 0, .slice none 0 0, .slice none 0 0, .int .i64 0, .int .i64 0, .int .i64 0], .int .i64 E]) (by simp only [results, Try.results50]; go_simp <;> rfl) rfl HF.out
end Go.Proofs.Ytommkhjgockpfaa
/- Plain: lockers, where they lie, and their boxes; what locker's functions give. -/
namespace Go.Proofs.Ytommkhjgockpfaa
open Go.RowKit
set_option linter.unusedVariables false

/-- A locker. -/
structure Lk where
  cs : List Int
  ph : Int
  hv : Int
  tr : Int
  wt : Int
def zK : Lk := ⟨[], 0, 0, 0, 0⟩
/-- .. as a value, and its cells. -/
abbrev lv (l : Lk) (A : Option Addr) (c : Nat) : Value := .agg #[.slice A l.cs.length c, .int .i64 l.ph, .int .i64 l.hv, .int .i64 l.tr, .int .i64 l.wt]
abbrev lcl (l : Lk) (A : Option Addr) (c : Nat) : Array Value := #[.slice A l.cs.length c, .int .i64 l.ph, .int .i64 l.hv, .int .i64 l.tr, .int .i64 l.wt]
abbrev K5l (W : World) (q : Nat) (l : Lk) (A : Option Addr) (c : Nat) : Prop := W.cell? ⟨q, 0, none⟩ = some (.slice A l.cs.length c) ∧ W.cell? ⟨q, 1, none⟩ = some (.int .i64 l.ph) ∧ W.cell? ⟨q, 2, none⟩ = some (.int .i64 l.hv) ∧ W.cell? ⟨q, 3, none⟩ = some (.int .i64 l.tr) ∧ W.cell? ⟨q, 4, none⟩ = some (.int .i64 l.wt)
/-- Block q holds a locker, and may be written. -/
structure LB (W : World) (q : Nat) (l : Lk) (A : Option Addr) (c : Nat) : Prop where
  k : K5l W q l A c
  fr : ∀ o, W.frozen? ⟨q, o, none⟩ = false
  lt : q < W.heap.size
/-- The five stores of a locker. -/
abbrev set5 (W : World) (q : Nat) (l : Lk) (A : Option Addr) (c : Nat) : World := (((((W.setCell ⟨q, 0, none⟩ (.slice A l.cs.length c)).setCell ⟨q, 1, none⟩ (.int .i64 l.ph)).setCell ⟨q, 2, none⟩ (.int .i64 l.hv)).setCell ⟨q, 3, none⟩ (.int .i64 l.tr)).setCell ⟨q, 4, none⟩ (.int .i64 l.wt))
section
variable {W W' : World} {q g : Nat} {l m : Lk} {A A' : Option Addr} {c c' : Nat}
theorem LB.keep (h : LB W q l A c) (hc : ∀ o, W'.cell? ⟨q, o, none⟩ = W.cell? ⟨q, o, none⟩) (hf : ∀ o, W'.frozen? ⟨q, o, none⟩ = W.frozen? ⟨q, o, none⟩) (hs : W.heap.size ≤ W'.heap.size) : LB W' q l A c := by
  obtain ⟨⟨k0, k1, k2, k3, k4⟩, fr, lt⟩ := h
  exact ⟨⟨(hc 0).trans k0, (hc 1).trans k1, (hc 2).trans k2, (hc 3).trans k3, (hc 4).trans k4⟩, fun o => (hf o).trans (fr o), Nat.lt_of_lt_of_le lt hs⟩
theorem LB.up (h : LB W q l A c) (hb : Below W.heap.size W W') : LB W' q l A c := h.keep (fun o => hb.cell (p := ⟨q, o, none⟩) h.lt) (fun o => hb.frozen (p := ⟨q, o, none⟩) h.lt) hb.size
theorem LB.alloc (h : LB W q l A c) (o : Obj) : LB (W.alloc o) q l A c := h.up ((Below.refl _ _).alloc (Nat.le_refl _) o)
theorem LB.other (h : LB W q l A c) {x : Addr} (hne : x.block ≠ q) (v : Value) : LB (W.setCell x v) q l A c :=
  h.keep (fun o => World.cell?_setCell_other W x ⟨q, o, none⟩ v (fun e => hne (by rw [e]))) (fun o => by simp [go_sem]) (by simp)
theorem LB.grown (h : LB W q l A c) (hg : W.grownBy W' (some g)) (hne : q ≠ g) : LB W' q l A c := h.keep (fun o => hg.cell_far ⟨q, o, none⟩ h.lt (fun e => by injection e with e; exact hne e)) (fun o => hg.frozen_far ⟨q, o, none⟩ h.lt (fun e => by injection e with e; exact hne e)) hg.size
theorem LB.start (w : World) (l : Lk) (A : Option Addr) (c : Nat) (t : TypeId) : LB (w.alloc (.cells (lcl l A c) t)) w.heap.size l A c :=
  ⟨⟨by simp [go_sem], by simp [go_sem], by simp [go_sem], by simp [go_sem], by simp [go_sem]⟩, fun o => by simp [go_sem], by simp⟩
theorem LB.set (h : LB W q l A c) (m : Lk) (A' : Option Addr) (c' : Nat) : LB (set5 W q m A' c') q m A' c' := by
  obtain ⟨⟨k0, k1, k2, k3, k4⟩, fr, lt⟩ := h
  exact ⟨⟨by simp [go_sem, k0], by simp [go_sem, k1], by simp [go_sem, k2], by simp [go_sem, k3], by simp [go_sem, k4]⟩, fun o => by simp [go_sem, fr o], by simp [lt]⟩
theorem LB.setA (h : LB W q l A c) (A' : Option Addr) (c' : Nat) : LB (W.setCell ⟨q, 0, none⟩ (.slice A' l.cs.length c')) q l A' c' := by
  obtain ⟨⟨k0, k1, k2, k3, k4⟩, fr, lt⟩ := h
  exact ⟨⟨by simp [go_sem, k0], by simp [go_sem, k1], by simp [go_sem, k2], by simp [go_sem, k3], by simp [go_sem, k4]⟩, fun o => by simp [go_sem, fr o], by simp [lt]⟩
theorem LB.setP (h : LB W q l A c) (x : Int) : LB (W.setCell ⟨q, 1, none⟩ (.int .i64 x)) q ⟨l.cs, x, l.hv, l.tr, l.wt⟩ A c := by
  obtain ⟨⟨k0, k1, k2, k3, k4⟩, fr, lt⟩ := h
  exact ⟨⟨by simp [go_sem, k0], by simp [go_sem, k1], by simp [go_sem, k2], by simp [go_sem, k3], by simp [go_sem, k4]⟩, fun o => by simp [go_sem, fr o], by simp [lt]⟩
theorem LB.setH (h : LB W q l A c) (x : Int) : LB (W.setCell ⟨q, 2, none⟩ (.int .i64 x)) q ⟨l.cs, l.ph, x, l.tr, l.wt⟩ A c := by
  obtain ⟨⟨k0, k1, k2, k3, k4⟩, fr, lt⟩ := h
  exact ⟨⟨by simp [go_sem, k0], by simp [go_sem, k1], by simp [go_sem, k2], by simp [go_sem, k3], by simp [go_sem, k4]⟩, fun o => by simp [go_sem, fr o], by simp [lt]⟩
theorem LB.setT (h : LB W q l A c) (x : Int) : LB (W.setCell ⟨q, 3, none⟩ (.int .i64 x)) q ⟨l.cs, l.ph, l.hv, x, l.wt⟩ A c := by
  obtain ⟨⟨k0, k1, k2, k3, k4⟩, fr, lt⟩ := h
  exact ⟨⟨by simp [go_sem, k0], by simp [go_sem, k1], by simp [go_sem, k2], by simp [go_sem, k3], by simp [go_sem, k4]⟩, fun o => by simp [go_sem, fr o], by simp [lt]⟩
theorem LB.setW (h : LB W q l A c) (x : Int) : LB (W.setCell ⟨q, 4, none⟩ (.int .i64 x)) q ⟨l.cs, l.ph, l.hv, l.tr, x⟩ A c := by
  obtain ⟨⟨k0, k1, k2, k3, k4⟩, fr, lt⟩ := h
  exact ⟨⟨by simp [go_sem, k0], by simp [go_sem, k1], by simp [go_sem, k2], by simp [go_sem, k3], by simp [go_sem, k4]⟩, fun o => by simp [go_sem, fr o], by simp [lt]⟩
theorem LB.free (h : LB W q l A c) : W.frozen? ⟨q, 0, none⟩ = false ∧ W.frozen? ⟨q, 1, none⟩ = false ∧ W.frozen? ⟨q, 2, none⟩ = false ∧ W.frozen? ⟨q, 3, none⟩ = false ∧ W.frozen? ⟨q, 4, none⟩ = false := ⟨h.fr 0, h.fr 1, h.fr 2, h.fr 3, h.fr 4⟩
theorem set5_size (W : World) (q : Nat) (l : Lk) (A : Option Addr) (c : Nat) : (set5 W q l A c).heap.size = W.heap.size := by simp
theorem set5_below {B : Nat} {w : World} (h : Below B w W) (hb : B ≤ q) (l : Lk) (A : Option Addr) (c : Nat) : Below B w (set5 W q l A c) :=
  ((((h.setCell (p := ⟨q, 0, none⟩) hb _).setCell (p := ⟨q, 1, none⟩) hb _).setCell (p := ⟨q, 2, none⟩) hb _).setCell (p := ⟨q, 3, none⟩) hb _).setCell (p := ⟨q, 4, none⟩) hb _
theorem Fl.offb {A : Option Addr} {n c B : Nat} {l : List Int} (h : Fl W B (.slice A n c) l) {p : Addr} (ho : OffB p.block n A) (v : Value) : Fl (W.setCell p v) B (.slice A n c) l := h.offp (fun a e h0 => ho h0 a e) v
theorem Fl.set5 {n B : Nat} {x : List Int} (h : Fl W B (.slice A' n c') x) (ho : OffB q n A') (l : Lk) (A : Option Addr) (c : Nat) : Fl (set5 W q l A c) B (.slice A' n c') x :=
  ((((h.offb (p := ⟨q, 0, none⟩) ho _).offb (p := ⟨q, 1, none⟩) ho _).offb (p := ⟨q, 2, none⟩) ho _).offb (p := ⟨q, 3, none⟩) ho _).offb (p := ⟨q, 4, none⟩) ho _
theorem Fl.set11 {n B p : Nat} {x : List Int} (h : Fl W B (.slice A' n c') x) (ho : OffB p n A') (a : Ar) (Y : Ax) : Fl (set11 W p a Y) B (.slice A' n c') x :=
  ((((((((((h.offb (p := ⟨p, 0, none⟩) ho _).offb (p := ⟨p, 1, none⟩) ho _).offb (p := ⟨p, 2, none⟩) ho _).offb (p := ⟨p, 3, none⟩) ho _).offb (p := ⟨p, 4, none⟩) ho _).offb (p := ⟨p, 5, none⟩) ho _).offb (p := ⟨p, 6, none⟩) ho _).offb (p := ⟨p, 7, none⟩) ho _).offb (p := ⟨p, 8, none⟩) ho _).offb (p := ⟨p, 9, none⟩) ho _).offb (p := ⟨p, 10, none⟩) ho _
theorem AR.set5 {B : Nat} {a : Ar} {Y : Ax} (h : AR W B a Y) (ho : AOff a Y q) (l : Lk) (A : Option Addr) (c : Nat) : AR (set5 W q l A c) B a Y :=
  ((((h.offp (q := ⟨q, 0, none⟩) ho _).offp (q := ⟨q, 1, none⟩) ho _).offp (q := ⟨q, 2, none⟩) ho _).offp (q := ⟨q, 3, none⟩) ho _).offp (q := ⟨q, 4, none⟩) ho _
theorem LB.set11 {p : Nat} (h : LB W q l A c) (hp : p ≠ q) (a : Ar) (Y : Ax) : LB (set11 W p a Y) q l A c :=
  ((((((((((h.other (x := ⟨p, 0, none⟩) hp _).other (x := ⟨p, 1, none⟩) hp _).other (x := ⟨p, 2, none⟩) hp _).other (x := ⟨p, 3, none⟩) hp _).other (x := ⟨p, 4, none⟩) hp _).other (x := ⟨p, 5, none⟩) hp _).other (x := ⟨p, 6, none⟩) hp _).other (x := ⟨p, 7, none⟩) hp _).other (x := ⟨p, 8, none⟩) hp _).other (x := ⟨p, 9, none⟩) hp _).other (x := ⟨p, 10, none⟩) hp _
theorem QB.set5 {p : Nat} {a : Ar} {Y : Ax} (h : QB W p a Y) (hp : q ≠ p) (l : Lk) (A : Option Addr) (c : Nat) : QB (set5 W q l A c) p a Y :=
  ((((h.other (x := ⟨q, 0, none⟩) hp _).other (x := ⟨q, 1, none⟩) hp _).other (x := ⟨q, 2, none⟩) hp _).other (x := ⟨q, 3, none⟩) hp _).other (x := ⟨q, 4, none⟩) hp _
end
/-- A locker and an error as results, its cells new. -/
def LE (w : World) (l : Lk) (x : Int) (e : Ending) (w' : World) : Prop := ∃ A c, e = .returned (.tuple #[lv l A c, .int .i64 x]) ∧ Nw w.heap.size A ∧ Fl w' w'.heap.size (.slice A l.cs.length c) l.cs ∧ Below w.heap.size w w'
/-- An arena, a locker and an error as results, their lists new. -/
def SE13 (w : World) (a : Ar) (l : Lk) (x : Int) (e : Ending) (w' : World) : Prop := ∃ Y A c, e = .returned (.tuple #[av a Y, lv l A c, .int .i64 x]) ∧ Y.nw w.heap.size ∧ Nw w.heap.size A ∧ AR w' w'.heap.size a Y ∧ Fl w' w'.heap.size (.slice A l.cs.length c) l.cs ∧ Below w.heap.size w w'
/-- .. the locker's cells lying where an argument's lie. -/
def SE13o (A : Option Addr) (w : World) (a : Ar) (l : Lk) (x : Int) (e : Ending) (w' : World) : Prop := ∃ Y A' c, e = .returned (.tuple #[av a Y, lv l A' c, .int .i64 x]) ∧ Y.nw w.heap.size ∧ (∀ lo, Nw lo A → Nw lo A') ∧ AR w' w'.heap.size a Y ∧ Fl w' w'.heap.size (.slice A' l.cs.length c) l.cs ∧ Below w.heap.size w w'
/-- The cell at a place. -/
def ctF (cs : List Int) (i : Int) : Int := if 0 ≤ i ∧ i < cs.length then ig cs i.toNat else -1
/-- What pause, backOff and Free give. -/
def pzL (l : Lk) : Lk := ⟨l.cs, if l.wt - 1 = 0 then 0 else l.ph, l.hv, l.tr, l.wt - 1⟩
def boL (l : Lk) : Lk := ⟨l.cs, 2, l.hv, l.tr + 1, min (l.tr + 1) 3⟩
def frE (l : Lk) : Int := if l.ph = 3 then 0 else 7
def frL (l : Lk) : Lk := if l.ph = 3 then ⟨l.cs, 4, l.hv, l.tr, l.wt⟩ else zK
/-- What acquire gives (b: the cell was locked), what giveBack gives. -/
def aqL (l : Lk) (b : Bool) : Lk := if b = true then ⟨l.cs, if l.hv + 1 = l.cs.length then 3 else l.ph, l.hv + 1, l.tr, l.wt⟩ else if 0 < l.hv then ⟨l.cs, 1, l.hv, l.tr, l.wt⟩ else l
def gbL (l : Lk) : Lk := if 0 < l.hv - 1 then ⟨l.cs, l.ph, l.hv - 1, l.tr, l.wt⟩ else if l.ph = 4 then ⟨l.cs, 5, l.hv - 1, l.tr, l.wt⟩ else boL ⟨l.cs, l.ph, l.hv - 1, l.tr, l.wt⟩
/-- acquire: error, locker; giveBack: error, locker. -/
def aqE (a : Ar) (l : Lk) (t : Int) : Int := lkE a.sl.length (ctF l.cs l.hv) t
def aqR (a : Ar) (l : Lk) (t : Int) : Lk := if aqE a l t = 0 then aqL l (tlB a (ctF l.cs l.hv) t) else zK
def gbE (a : Ar) (l : Lk) (t : Int) : Int := owE a (ctF l.cs (l.hv - 1)) t
def gbR (a : Ar) (l : Lk) (t : Int) : Lk := if gbE a l t = 0 then gbL l else zK
/-- Step: error, arena, locker. -/
def stE13 (a : Ar) (l : Lk) (t : Int) : Int := if l.ph = 0 then aqE a l t else if l.ph = 1 ∨ l.ph = 4 then gbE a l t else if l.ph = 2 then 0 else 7
def stA13 (a : Ar) (l : Lk) (t : Int) : Ar := if l.ph = 0 then tlA a (ctF l.cs l.hv) t else if l.ph = 1 ∨ l.ph = 4 then ulA a (ctF l.cs (l.hv - 1)) t else if l.ph = 2 then a else zA
def stL13 (a : Ar) (l : Lk) (t : Int) : Lk := if l.ph = 0 then aqR a l t else if l.ph = 1 ∨ l.ph = 4 then gbR a l t else if l.ph = 2 then pzL l else zK
/-- Its numbers are small. -/
def Lk.sm (l : Lk) : Prop := (-9 ≤ l.hv ∧ l.hv ≤ 9) ∧ (-9 ≤ l.tr ∧ l.tr ≤ 1000000) ∧ (-9 ≤ l.wt ∧ l.wt ≤ 9) ∧ l.cs.length ≤ 9
end Go.Proofs.Ytommkhjgockpfaa
namespace Go.Proofs.Ytommkhjgockpfaa
open Go.RowKit
set_option linter.unusedVariables false

set_option maxHeartbeats 2000000 in
set_option maxRecDepth 20000 in
theorem jcell_any (l : Lk) (A : Option Addr) (c : Nat) (i : Int) (w : World) (hf : Fl w w.heap.size (.slice A l.cs.length c) l.cs) : Calls Try.prog 49 #[lv l A c, .int .i64 i] w fun e w' => e = .returned (.int .i64 (ctF l.cs i)) ∧ Below w.heap.size w w' := by
  have HB := Lib.hid (LB.start w l A c 28)
  have HW := Lib.hid ((Below.refl w.heap.size w).alloc (Nat.le_refl _) (.cells #[.slice A l.cs.length c, .int .i64 l.ph, .int .i64 l.hv, .int .i64 l.tr, .int .i64 l.wt] 28))
  obtain ⟨p, hp⟩ : ∃ p, p = w.heap.size := ⟨_, rfl⟩
  have HPP := Lib.hid hp
  by_cases h1 : i < 0
  · have HX := Lib.hid (show ctF l.cs i = -1 from if_neg (by omega))
    clear hp hf
    go_enter Try.func49, Try.ntmps49
    go_wp2
    go_ret
    exact ⟨by rw [HX.out]; rfl, HW.out⟩
  · by_cases h2 : (l.cs.length : Int) ≤ i
    · have HX := Lib.hid (show ctF l.cs i = -1 from if_neg (by omega))
      clear hp hf
      go_enter Try.func49, Try.ntmps49
      obtain ⟨y0, y1, y2, y3, y4⟩ := HB.out.k
      have yl := HB.out.lt
      go_wp2
      go_ret
      exact ⟨by rw [HX.out]; rfl, HW.out⟩
    · obtain ⟨n, rfl⟩ : ∃ n : Nat, i = n := ⟨i.toNat, by omega⟩
      have hn : n < l.cs.length := by omega
      have HX := Lib.hid (show ctF l.cs (n : Int) = ig l.cs n from by unfold ctF; rw [if_pos (by omega)]; rfl)
      have HF := Lib.hid (hf.alloc (Nat.le_refl _) (.cells #[.slice A l.cs.length c, .int .i64 l.ph, .int .i64 l.hv, .int .i64 l.tr, .int .i64 l.wt] 28))
      clear hp hf
      obtain ⟨b, o, rfl, hb, hc⟩ := HF.out.atg hn
      go_enter Try.func49, Try.ntmps49
      obtain ⟨y0, y1, y2, y3, y4⟩ := HB.out.k
      have yl := HB.out.lt
      clear hb
      go_wp2
      go_ret
      exact ⟨by rw [HX.out]; rfl, HW.out⟩
/-- A locker as a result, its cells lying where they lay. -/
def LV (w : World) (l : Lk) (A : Option Addr) (c : Nat) (e : Ending) (w' : World) : Prop := e = .returned (lv l A c) ∧ Below w.heap.size w w'
/-- An own box of a locker and a result's box. -/
structure Jb (w : World) (p r : Nat) (l m : Lk) (A A' : Option Addr) (c c' : Nat) (W : World) : Prop where
  pb : LB W p l A c
  rb : LB W r m A' c'
  ne : w.heap.size ≤ p ∧ p < r
  bel : Below w.heap.size w W
section
variable {w W W' : World} {p r : Nat} {l m : Lk} {A A' : Option Addr} {c c' : Nat}
theorem Jb.start (w : World) (l : Lk) (A : Option Addr) (c : Nat) : Jb w w.heap.size (w.heap.size + 1) l zK A none c 0 ((w.alloc (.cells #[.slice A l.cs.length c, .int .i64 l.ph, .int .i64 l.hv, .int .i64 l.tr, .int .i64 l.wt] 28)).alloc (.cells #[.slice none 0 0, .int .i64 0, .int .i64 0, .int .i64 0, .int .i64 0] 28)) := by
  have h1 := LB.start (w.alloc (.cells #[.slice A l.cs.length c, .int .i64 l.ph, .int .i64 l.hv, .int .i64 l.tr, .int .i64 l.wt] 28)) zK none 0 28
  rw [show (w.alloc (.cells #[.slice A l.cs.length c, .int .i64 l.ph, .int .i64 l.hv, .int .i64 l.tr, .int .i64 l.wt] 28)).heap.size = w.heap.size + 1 by simp] at h1
  exact ⟨(LB.start w l A c _).alloc _, h1, ⟨Nat.le_refl _, Nat.lt_succ_self _⟩, ((Below.refl _ _).alloc (Nat.le_refl _) _).alloc (by simp) _⟩
theorem Jb.setP (h : Jb w p r l m A A' c c' W) (x : Int) : Jb w p r ⟨l.cs, x, l.hv, l.tr, l.wt⟩ m A A' c c' (W.setCell ⟨p, 1, none⟩ (.int .i64 x)) := ⟨h.pb.setP x, h.rb.other (x := ⟨p, 1, none⟩) (Nat.ne_of_lt h.ne.2) _, h.ne, h.bel.setCell (p := ⟨p, 1, none⟩) h.ne.1 _⟩
theorem Jb.setT (h : Jb w p r l m A A' c c' W) (x : Int) : Jb w p r ⟨l.cs, l.ph, l.hv, x, l.wt⟩ m A A' c c' (W.setCell ⟨p, 3, none⟩ (.int .i64 x)) := ⟨h.pb.setT x, h.rb.other (x := ⟨p, 3, none⟩) (Nat.ne_of_lt h.ne.2) _, h.ne, h.bel.setCell (p := ⟨p, 3, none⟩) h.ne.1 _⟩
theorem Jb.setW (h : Jb w p r l m A A' c c' W) (x : Int) : Jb w p r ⟨l.cs, l.ph, l.hv, l.tr, x⟩ m A A' c c' (W.setCell ⟨p, 4, none⟩ (.int .i64 x)) := ⟨h.pb.setW x, h.rb.other (x := ⟨p, 4, none⟩) (Nat.ne_of_lt h.ne.2) _, h.ne, h.bel.setCell (p := ⟨p, 4, none⟩) h.ne.1 _⟩
theorem Jb.setA (h : Jb w p r l m A A' c c' W) (x : Option Addr) (y : Nat) : Jb w p r l m x A' y c' (W.setCell ⟨p, 0, none⟩ (.slice x l.cs.length y)) := ⟨h.pb.setA x y, h.rb.other (x := ⟨p, 0, none⟩) (Nat.ne_of_lt h.ne.2) _, h.ne, h.bel.setCell (p := ⟨p, 0, none⟩) h.ne.1 _⟩
theorem Jb.below (h : Jb w p r l m A A' c c' W) (hb : Below W.heap.size W W') : Jb w p r l m A A' c c' W' := ⟨h.pb.up hb, h.rb.up hb, h.ne, h.bel.trans (hb.mono h.bel.size)⟩
theorem Jb.out (h : Jb w p r l m A A' c c' W) : LV w l A c (.returned (lv l A c)) (set5 W r l A c) := ⟨rfl, set5_below h.bel (by have := h.ne; omega) l A c⟩
end
set_option maxHeartbeats 2000000 in
set_option maxRecDepth 20000 in
theorem jpause_any (l : Lk) (A : Option Addr) (c : Nat) (w : World) (hs : l.sm) : Calls Try.prog 34 #[lv l A c] w (LV w (pzL l) A c) := by
  have H0 := Lib.hid (Jb.start w l A c)
  obtain ⟨p, hp⟩ : ∃ p, p = w.heap.size := ⟨_, rfl⟩
  obtain ⟨r, hr⟩ : ∃ r, r = w.heap.size + 1 := ⟨_, rfl⟩
  have HPP := Lib.hid (And.intro hp hr)
  rw [← hr] at H0
  have H0 := Lib.hid (show Jb w p r l zK A none c 0 _ from by rw [hp]; exact H0.out)
  have hw : IntKind.i64.wrap (l.wt - 1) = l.wt - 1 := IntWalk.i64_in _ (by have := hs.2.2; omega)
  obtain ⟨x, hx⟩ : ∃ x, x = l.wt - 1 := ⟨_, rfl⟩
  obtain ⟨M, hM⟩ : ∃ M, M = pzL l := ⟨_, rfl⟩
  have HM := Lib.hid (show M = ⟨l.cs, if x = 0 then 0 else l.ph, l.hv, l.tr, x⟩ from by rw [hM, hx]; rfl)
  rw [← hM]
  rw [← hx] at hw
  have HX := Lib.hid hx
  have hw2 : IntKind.i64.wrap (l.wt - 1) = x := by rw [← hx]; exact hw
  clear hp hr hs hM hx hw
  go_enter Try.func34, Try.ntmps34
  go_upto_region 1 with (fail)
  rw [← HPP.out.2, ← HPP.out.1]
  generalize ((w.alloc (.cells #[.slice A l.cs.length c, .int .i64 l.ph, .int .i64 l.hv, .int .i64 l.tr, .int .i64 l.wt] 28)).alloc (.cells #[.slice none 0 0, .int .i64 0, .int .i64 0, .int .i64 0, .int .i64 0] 28)) = w1 at *
  obtain ⟨y0, y1, y2, y3, y4⟩ := H0.out.pb.k
  have yl := H0.out.pb.lt
  obtain ⟨f0, f1, f2, f3, f4⟩ := H0.out.pb.free
  obtain ⟨r0, r1, r2, r3, r4⟩ := H0.out.rb.k
  have rl := H0.out.rb.lt
  obtain ⟨g0, g1, g2, g3, g4⟩ := H0.out.rb.free
  have hpr : ¬ p = r := by have := H0.out.ne; omega
  have hrp : ¬ r = p := fun e => hpr e.symm
  go_upto_region 2 with (fail)
  clear y0 y1 y2 y3 y4 yl f0 f1 f2 f3 f4 r0 r1 r2 r3 r4 rl g0 g1 g2 g3 g4 hpr hrp
  have H1 := Lib.hid (H0.out.setW x)
  clear H0 hw2
  generalize (w1.setCell ⟨p, 4, none⟩ (.int .i64 x)) = w2 at *
  obtain ⟨y0, y1, y2, y3, y4⟩ := H1.out.pb.k
  have yl := H1.out.pb.lt
  obtain ⟨f0, f1, f2, f3, f4⟩ := H1.out.pb.free
  obtain ⟨r0, r1, r2, r3, r4⟩ := H1.out.rb.k
  have rl := H1.out.rb.lt
  obtain ⟨g0, g1, g2, g3, g4⟩ := H1.out.rb.free
  have hpr : ¬ p = r := by have := H1.out.ne; omega
  have hrp : ¬ r = p := fun e => hpr e.symm
  by_cases h0 : x = 0
  · have HM := Lib.hid (show M = ⟨l.cs, 0, l.hv, l.tr, x⟩ from by rw [HM.out, if_pos h0])
    have hb : (x == 0) = true := by simp [h0]
    clear h0
    go_upto_region 4 with (fail)
    clear y0 y1 y2 y3 y4 yl f0 f1 f2 f3 f4 r0 r1 r2 r3 r4 rl g0 g1 g2 g3 g4 hpr hrp
    have H2 := Lib.hid (H1.out.setP 0)
    rw [← HM.out] at H2
    generalize (w2.setCell ⟨p, 1, none⟩ (.int .i64 0)) = w3 at *
    have HF := Lib.hid H2.out.out
    obtain ⟨y0, y1, y2, y3, y4⟩ := H2.out.pb.k
    have yl := H2.out.pb.lt
    obtain ⟨f0, f1, f2, f3, f4⟩ := H2.out.pb.free
    obtain ⟨r0, r1, r2, r3, r4⟩ := H2.out.rb.k
    have rl := H2.out.rb.lt
    obtain ⟨g0, g1, g2, g3, g4⟩ := H2.out.rb.free
    have hpr : ¬ p = r := by have := H2.out.ne; omega
    have hrp : ¬ r = p := fun e => hpr e.symm
    clear H1 H2
    go_wp2
    exact bodyPost_ret (v := lv M A c) (by simp only [results, Try.results34]; go_simp <;> rfl) rfl HF.out
  · have HM := Lib.hid (show M = ⟨l.cs, l.ph, l.hv, l.tr, x⟩ from by rw [HM.out, if_neg h0])
    have hb : (M.wt == 0) = false := by rw [HM.out]; simp [h0]
    rw [← HM.out] at H1
    clear h0
    clear y0 y1 y2 y3 y4 yl f0 f1 f2 f3 f4 r0 r1 r2 r3 r4 rl g0 g1 g2 g3 g4 hpr hrp
    have HF := Lib.hid H1.out.out
    obtain ⟨y0, y1, y2, y3, y4⟩ := H1.out.pb.k
    have yl := H1.out.pb.lt
    obtain ⟨f0, f1, f2, f3, f4⟩ := H1.out.pb.free
    obtain ⟨r0, r1, r2, r3, r4⟩ := H1.out.rb.k
    have rl := H1.out.rb.lt
    obtain ⟨g0, g1, g2, g3, g4⟩ := H1.out.rb.free
    have hpr : ¬ p = r := by have := H1.out.ne; omega
    have hrp : ¬ r = p := fun e => hpr e.symm
    clear H1
    go_wp2
    exact bodyPost_ret (v := lv M A c) (by simp only [results, Try.results34]; go_simp <;> rfl) rfl HF.out
end Go.Proofs.Ytommkhjgockpfaa
namespace Go.Proofs.Ytommkhjgockpfaa
open Go.RowKit
set_option linter.unusedVariables false

set_option maxHeartbeats 2000000 in
set_option maxRecDepth 20000 in
theorem jback_any (l : Lk) (A : Option Addr) (c : Nat) (w : World) (hs : -9 ≤ l.tr ∧ l.tr ≤ 1000000) : Calls Try.prog 51 #[lv l A c] w (LV w (boL l) A c) := by
  have H0 := Lib.hid (Jb.start w l A c)
  obtain ⟨p, hp⟩ : ∃ p, p = w.heap.size := ⟨_, rfl⟩
  obtain ⟨r, hr⟩ : ∃ r, r = w.heap.size + 1 := ⟨_, rfl⟩
  have HPP := Lib.hid (And.intro hp hr)
  rw [← hr] at H0
  have H0 := Lib.hid (show Jb w p r l zK A none c 0 _ from by rw [hp]; exact H0.out)
  have hw : IntKind.i64.wrap (l.tr + 1) = l.tr + 1 := IntWalk.i64_in _ (by omega)
  obtain ⟨x, hx⟩ : ∃ x, x = l.tr + 1 := ⟨_, rfl⟩
  obtain ⟨y, hy⟩ : ∃ y, y = min x 3 := ⟨_, rfl⟩
  obtain ⟨M, hM⟩ : ∃ M, M = boL l := ⟨_, rfl⟩
  have HM := Lib.hid (show M = ⟨l.cs, 2, l.hv, x, y⟩ from by rw [hM, hy, hx]; rfl)
  rw [← hM]
  have hw2 : IntKind.i64.wrap (l.tr + 1) = x := by rw [hx]; exact hw
  have hmin : min x 3 = y := hy.symm
  clear hp hr hs hM hx hw hy
  go_enter Try.func51, Try.ntmps51
  go_upto_region 1 with (fail)
  rw [← HPP.out.2, ← HPP.out.1]
  generalize ((w.alloc (.cells #[.slice A l.cs.length c, .int .i64 l.ph, .int .i64 l.hv, .int .i64 l.tr, .int .i64 l.wt] 28)).alloc (.cells #[.slice none 0 0, .int .i64 0, .int .i64 0, .int .i64 0, .int .i64 0] 28)) = w1 at *
  obtain ⟨y0, y1, y2, y3, y4⟩ := H0.out.pb.k
  have yl := H0.out.pb.lt
  obtain ⟨f0, f1, f2, f3, f4⟩ := H0.out.pb.free
  obtain ⟨r0, r1, r2, r3, r4⟩ := H0.out.rb.k
  have rl := H0.out.rb.lt
  obtain ⟨g0, g1, g2, g3, g4⟩ := H0.out.rb.free
  have hpr : ¬ p = r := by have := H0.out.ne; omega
  have hrp : ¬ r = p := fun e => hpr e.symm
  go_upto_region 2 with (fail)
  clear y0 y1 y2 y3 y4 yl f0 f1 f2 f3 f4 r0 r1 r2 r3 r4 rl g0 g1 g2 g3 g4 hpr hrp
  have H1 := Lib.hid (H0.out.setT x)
  clear H0 hw2
  generalize (w1.setCell ⟨p, 3, none⟩ (.int .i64 x)) = w2 at *
  obtain ⟨y0, y1, y2, y3, y4⟩ := H1.out.pb.k
  have yl := H1.out.pb.lt
  obtain ⟨f0, f1, f2, f3, f4⟩ := H1.out.pb.free
  obtain ⟨r0, r1, r2, r3, r4⟩ := H1.out.rb.k
  have rl := H1.out.rb.lt
  obtain ⟨g0, g1, g2, g3, g4⟩ := H1.out.rb.free
  have hpr : ¬ p = r := by have := H1.out.ne; omega
  have hrp : ¬ r = p := fun e => hpr e.symm
  go_upto_region 3 with (fail)
  clear y0 y1 y2 y3 y4 yl f0 f1 f2 f3 f4 r0 r1 r2 r3 r4 rl g0 g1 g2 g3 g4 hpr hrp
  have H2 := Lib.hid (H1.out.setW y)
  clear H1 hmin
  generalize (w2.setCell ⟨p, 4, none⟩ (.int .i64 y)) = w3 at *
  obtain ⟨y0, y1, y2, y3, y4⟩ := H2.out.pb.k
  have yl := H2.out.pb.lt
  obtain ⟨f0, f1, f2, f3, f4⟩ := H2.out.pb.free
  obtain ⟨r0, r1, r2, r3, r4⟩ := H2.out.rb.k
  have rl := H2.out.rb.lt
  obtain ⟨g0, g1, g2, g3, g4⟩ := H2.out.rb.free
  have hpr : ¬ p = r := by have := H2.out.ne; omega
  have hrp : ¬ r = p := fun e => hpr e.symm
  go_upto_region 4 with (fail)
  clear y0 y1 y2 y3 y4 yl f0 f1 f2 f3 f4 r0 r1 r2 r3 r4 rl g0 g1 g2 g3 g4 hpr hrp
  have H3 := Lib.hid (H2.out.setP 2)
  rw [← HM.out] at H3
  clear H2
  generalize (w3.setCell ⟨p, 1, none⟩ (.int .i64 2)) = w4 at *
  have HF := Lib.hid H3.out.out
  obtain ⟨y0, y1, y2, y3, y4⟩ := H3.out.pb.k
  have yl := H3.out.pb.lt
  obtain ⟨f0, f1, f2, f3, f4⟩ := H3.out.pb.free
  obtain ⟨r0, r1, r2, r3, r4⟩ := H3.out.rb.k
  have rl := H3.out.rb.lt
  obtain ⟨g0, g1, g2, g3, g4⟩ := H3.out.rb.free
  have hpr : ¬ p = r := by have := H3.out.ne; omega
  have hrp : ¬ r = p := fun e => hpr e.symm
  clear H3
  go_wp2
  exact bodyPost_ret (v := lv M A c) (by simp only [results, Try.results51]; go_simp <;> rfl) rfl HF.out
theorem Fl.alloc2 {w : World} {v : Value} {l : List Int} (h : Fl w w.heap.size v l) (o : Obj) : Fl (w.alloc o) (w.alloc o).heap.size v l := h.up ((Below.refl _ _).alloc (Nat.le_refl _) o)
theorem le_out {w W : World} {r : Nat} {l : Lk} {A : Option Addr} {c : Nat} (hr : w.heap.size ≤ r) (hb : Below w.heap.size w W) (hn : Nw (r + 1) A) (hl : Fl W W.heap.size (.slice A l.cs.length c) l.cs) (x : Int) : LE w l x (.returned (.tuple #[lv l A c, .int .i64 x])) (set5 W r l A c) :=
  ⟨A, c, rfl, nw_low hn (by omega), (hl.set5 (offb_nw hn (Nat.lt_succ_self r)) l A c).more (by rw [set5_size]; exact Nat.le_refl _), set5_below hb hr l A c⟩
set_option maxHeartbeats 2000000 in
set_option maxRecDepth 20000 in
theorem jfree_any (l : Lk) (A : Option Addr) (c : Nat) (w : World) (hf : Fl w w.heap.size (.slice A l.cs.length c) l.cs) (hs : l.cs.length ≤ 9) : Calls Try.prog 18 #[lv l A c] w (LE w (frL l) (frE l)) := by
  have H0 := Lib.hid (Jb.start w l A c)
  have HF0 := Lib.hid ((hf.alloc2 (.cells #[.slice A l.cs.length c, .int .i64 l.ph, .int .i64 l.hv, .int .i64 l.tr, .int .i64 l.wt] 28)).alloc2 (.cells #[.slice none 0 0, .int .i64 0, .int .i64 0, .int .i64 0, .int .i64 0] 28))
  have HCL := Lib.hid (fun W (k : Fl W W.heap.size (.slice A l.cs.length c) l.cs) => (niclone_any A l.cs.length c l.cs W k (by omega)).mono fun _ _ h => niclp_flv h)
  obtain ⟨p, hp⟩ : ∃ p, p = w.heap.size := ⟨_, rfl⟩
  obtain ⟨r, hr⟩ : ∃ r, r = w.heap.size + 1 := ⟨_, rfl⟩
  have HPP := Lib.hid (And.intro hp hr)
  rw [← hr] at H0
  have H0 := Lib.hid (show Jb w p r l zK A none c 0 _ from by rw [hp]; exact H0.out)
  obtain ⟨M, hM⟩ : ∃ M, M = frL l := ⟨_, rfl⟩
  obtain ⟨E, hE⟩ : ∃ E, E = frE l := ⟨_, rfl⟩
  rw [← hM, ← hE]
  by_cases h3 : l.ph = 3
  · have HM := Lib.hid (show M = ⟨l.cs, 4, l.hv, l.tr, l.wt⟩ from by rw [hM]; exact if_pos h3)
    have HE := Lib.hid (show E = 0 from by rw [hE]; exact if_pos h3)
    have hb : (l.ph != 3) = false := by simp [h3]
    clear hp hr hs hM hE h3 hf
    go_enter Try.func18, Try.ntmps18
    go_upto_region 1 with (fail)
    rw [← HPP.out.2, ← HPP.out.1]
    generalize ((w.alloc (.cells #[.slice A l.cs.length c, .int .i64 l.ph, .int .i64 l.hv, .int .i64 l.tr, .int .i64 l.wt] 28)).alloc (.cells #[.slice none 0 0, .int .i64 0, .int .i64 0, .int .i64 0, .int .i64 0] 28)) = w1 at *
    obtain ⟨y0, y1, y2, y3, y4⟩ := H0.out.pb.k
    have yl := H0.out.pb.lt
    obtain ⟨f0, f1, f2, f3, f4⟩ := H0.out.pb.free
    obtain ⟨r0, r1, r2, r3, r4⟩ := H0.out.rb.k
    have rl := H0.out.rb.lt
    obtain ⟨g0, g1, g2, g3, g4⟩ := H0.out.rb.free
    have hpr : ¬ p = r := by have := H0.out.ne; omega
    have hrp : ¬ r = p := fun e => hpr e.symm
    go_upto_region 3 with (fail)
    clear y0 y1 y2 y3 y4 yl f0 f1 f2 f3 f4 r0 r1 r2 r3 r4 rl g0 g1 g2 g3 g4 hpr hrp
    obtain ⟨y0, -⟩ := H0.out.pb.k
    have yl := H0.out.pb.lt
    go_wp2_with fail
    clear y0 yl hb
    refine (HCL.out _ HF0.out).mono ?_
    rintro e w2 ⟨A2, c2, rfl, hn, hl, hb⟩
    have H1 := Lib.hid (H0.out.below hb)
    have HN := Lib.hid (nw_low hn (show r + 1 ≤ _ from H0.out.rb.lt))
    have HL := Lib.hid (hl.offb (p := ⟨p, 0, none⟩) (offb_nw HN.out (by have := H0.out.ne; show p < r + 1; omega)) (.slice A2 l.cs.length c2))
    clear hn hl hb H0 HF0 HCL
    obtain ⟨y0, y1, y2, y3, y4⟩ := H1.out.pb.k
    have yl := H1.out.pb.lt
    obtain ⟨f0, f1, f2, f3, f4⟩ := H1.out.pb.free
    obtain ⟨r0, r1, r2, r3, r4⟩ := H1.out.rb.k
    have rl := H1.out.rb.lt
    obtain ⟨g0, g1, g2, g3, g4⟩ := H1.out.rb.free
    have hpr : ¬ p = r := by have := H1.out.ne; omega
    have hrp : ¬ r = p := fun e => hpr e.symm
    go_upto_region 4 with (fail)
    clear y0 y1 y2 y3 y4 yl f0 f1 f2 f3 f4 r0 r1 r2 r3 r4 rl g0 g1 g2 g3 g4 hpr hrp
    have H2 := Lib.hid (H1.out.setA A2 c2)
    have HL := Lib.hid (HL.out.more (B' := (w2.setCell ⟨p, 0, none⟩ (.slice A2 l.cs.length c2)).heap.size) (by simp))
    clear H1
    generalize (w2.setCell ⟨p, 0, none⟩ (.slice A2 l.cs.length c2)) = w3 at *
    obtain ⟨y0, y1, y2, y3, y4⟩ := H2.out.pb.k
    have yl := H2.out.pb.lt
    obtain ⟨f0, f1, f2, f3, f4⟩ := H2.out.pb.free
    obtain ⟨r0, r1, r2, r3, r4⟩ := H2.out.rb.k
    have rl := H2.out.rb.lt
    obtain ⟨g0, g1, g2, g3, g4⟩ := H2.out.rb.free
    have hpr : ¬ p = r := by have := H2.out.ne; omega
    have hrp : ¬ r = p := fun e => hpr e.symm
    go_upto_region 5 with (fail)
    clear y0 y1 y2 y3 y4 yl f0 f1 f2 f3 f4 r0 r1 r2 r3 r4 rl g0 g1 g2 g3 g4 hpr hrp
    have H3 := Lib.hid (H2.out.setP 4)
    have HL := Lib.hid ((HL.out.offb (p := ⟨p, 1, none⟩) (offb_nw HN.out (by have := H2.out.ne; show p < r + 1; omega)) (.int .i64 4)).more (B' := (w3.setCell ⟨p, 1, none⟩ (.int .i64 4)).heap.size) (by simp))
    rw [← HM.out] at H3
    have HL := Lib.hid (show Fl _ _ (.slice A2 M.cs.length c2) M.cs from by rw [HM.out]; exact HL.out)
    clear H2
    generalize (w3.setCell ⟨p, 1, none⟩ (.int .i64 4)) = w4 at *
    have HF := Lib.hid (show LE w M E (.returned (.tuple #[lv M A2 c2, .int .i64 0])) (set5 w4 r M A2 c2) from by rw [HE.out]; exact le_out (show w.heap.size ≤ r by have := H3.out.ne; omega) H3.out.bel HN.out HL.out 0)
    obtain ⟨y0, y1, y2, y3, y4⟩ := H3.out.pb.k
    have yl := H3.out.pb.lt
    obtain ⟨f0, f1, f2, f3, f4⟩ := H3.out.pb.free
    obtain ⟨r0, r1, r2, r3, r4⟩ := H3.out.rb.k
    have rl := H3.out.rb.lt
    obtain ⟨g0, g1, g2, g3, g4⟩ := H3.out.rb.free
    have hpr : ¬ p = r := by have := H3.out.ne; omega
    have hrp : ¬ r = p := fun e => hpr e.symm
    clear H3 HL HN
    go_wp2
    exact bodyPost_ret (v := .tuple #[lv M A2 c2, .int .i64 0]) (by simp only [results, Try.results18]; go_simp <;> rfl) rfl HF.out
  · have HM := Lib.hid (show M = zK from by rw [hM]; exact if_neg h3)
    have HE := Lib.hid (show E = 7 from by rw [hE]; exact if_neg h3)
    have hb : (l.ph != 3) = true := by simp [h3]
    clear hp hr hs hM hE h3 hf
    go_enter Try.func18, Try.ntmps18
    go_upto_region 1 with (fail)
    rw [← HPP.out.2, ← HPP.out.1]
    generalize ((w.alloc (.cells #[.slice A l.cs.length c, .int .i64 l.ph, .int .i64 l.hv, .int .i64 l.tr, .int .i64 l.wt] 28)).alloc (.cells #[.slice none 0 0, .int .i64 0, .int .i64 0, .int .i64 0, .int .i64 0] 28)) = w1 at *
    have HF := Lib.hid (show LE w M E (.returned (.tuple #[lv zK none 0, .int .i64 7])) (set5 w1 r zK none 0) from by rw [HE.out, HM.out]; exact le_out (l := zK) (show w.heap.size ≤ r by have := H0.out.ne; omega) H0.out.bel (nw_none (lo := r + 1)) (Fl.nil) 7)
    obtain ⟨y0, y1, y2, y3, y4⟩ := H0.out.pb.k
    have yl := H0.out.pb.lt
    obtain ⟨f0, f1, f2, f3, f4⟩ := H0.out.pb.free
    obtain ⟨r0, r1, r2, r3, r4⟩ := H0.out.rb.k
    have rl := H0.out.rb.lt
    obtain ⟨g0, g1, g2, g3, g4⟩ := H0.out.rb.free
    have hpr : ¬ p = r := by have := H0.out.ne; omega
    have hrp : ¬ r = p := fun e => hpr e.symm
    clear H0 HF0 HCL
    go_wp2
    exact bodyPost_ret (v := .tuple #[.agg #[.slice none 0 0, .int .i64 0, .int .i64 0, .int .i64 0, .int .i64 0], .int .i64 7]) (by simp only [results, Try.results18]; go_simp <;> rfl) rfl HF.out
end Go.Proofs.Ytommkhjgockpfaa
