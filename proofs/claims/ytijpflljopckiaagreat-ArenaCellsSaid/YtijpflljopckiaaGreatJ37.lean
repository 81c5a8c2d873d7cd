/- What is proved here: arena.Unlock by a contract; arena.LoadSlot, and StoreSlot by a task that has not locked the slot, by contracts; what the calls of the statement ArenaCells give on its arena. -/
import Derived.Test.YtijpflljopckiaaGreatJ36
import Derived.Deep.DeepCutAuto
import Derived.Deep.RegionHeld3
namespace Go.Proofs.YtijpflljopckiaaGreat
open Go.RowKit
set_option linter.unusedVariables false

/-- What Unlock gives. -/
def ulA (a : Ar) (k t : Int) : Ar := if owE a k t = 0 then a.setOwn k.toNat 0 else zA
theorem ow_nat {a : Ar} {k t : Int} (h : owE a k t = 0) : k = (k.toNat : Int) ∧ k.toNat ≤ a.sl.length := by
  unfold owE at h
  by_cases hl : lkE a.sl.length k t = 0
  · exact lk_nat hl
  · rw [if_neg hl] at h; exact absurd h hl
set_option maxHeartbeats 8000000 in
set_option maxRecDepth 20000 in
theorem aunlock_any (a : Ar) (Y : Ax) (k t : Int) (w : World) (har : AR w w.heap.size a Y) (hf : a.Few) : Calls Tryz.prog 13 #[av a Y, .int .i64 k, .int .i64 t] w (AE w (ulA a k t) (owE a k t)) := by
  obtain ⟨p, hp⟩ : ∃ p, p = w.heap.size := ⟨_, rfl⟩
  obtain ⟨r, hr⟩ : ∃ r, r = w.heap.size + 1 := ⟨_, rfl⟩
  have H0 := Lib.hid (show Ci12 w p r a Y _ from by rw [hr, hp]; exact Ci12.start har)
  have HPP := Lib.hid (And.intro hp hr)
  have HLK := Lib.hid (fun W (k' : Ci12 w p r a Y W) => aownererr_any a Y k t W (k'.ar.more k'.bel.size) hf)
  have HCL := Lib.hid (fun W (k : Ci12 w p r a Y W) => aclone_any a Y W (k.ar.more k.bel.size) hf)
  have HFW := Lib.hid hf
  obtain ⟨E, hE⟩ : ∃ E, E = owE a k t := ⟨_, rfl⟩
  rw [← hE] at HLK ⊢
  obtain ⟨TA, hTA⟩ : ∃ A, A = ulA a k t := ⟨_, rfl⟩
  have HTA := Lib.hid (show TA = if E = 0 then a.setOwn k.toNat 0 else zA from by rw [hTA, hE]; rfl)
  rw [← hTA]
  have HEE := Lib.hid hE
  clear hp hr har hf hTA hE
  go_enter Tryz.func13, Tryz.ntmps13
  go_upto_region 1 with (fail)
  rw [← HPP.out.2, ← HPP.out.1]
  generalize (w.alloc (.cells #[.slice Y.A a.sl.length Y.c, .slice Y.A2 a.st.length Y.c2, .int .i64 a.ow, .int .i64 a.cap, .slice Y.A3 a.dl.length Y.c3, .int .i64 a.dir.vn, .slice Y.D.A a.dir.l.length Y.D.c, .slice Y.D.A2 a.dir.F.length Y.D.c2, .int .i64 a.ep, .int .i64 a.ck, .int .i64 a.ni] 36)).alloc (.cells #[.slice none 0 0, .slice none 0 0, .int .i64 0, .int .i64 0, .slice none 0 0, .int .i64 0, .slice none 0 0, .slice none 0 0, .int .i64 0, .int .i64 0, .int .i64 0] 36) = w1 at *
  obtain ⟨y0, y1, y2, y3, y4, y5, y6, y7, y8, y9, y10⟩ := H0.out.pb.k
  have yl := H0.out.pb.lt
  go_wp2_with fail
  clear y0 y1 y2 y3 y4 y5 y6 y7 y8 y9 y10 yl
  refine (HLK.out _ H0.out).mono ?_
  rintro e w2 ⟨rfl, hb⟩
  have H1 := Lib.hid (H0.out.below hb)
  clear hb H0 HLK
  by_cases hE0 : E = 0
  · have HA2 := Lib.hid (HTA.out.trans (if_pos hE0))
    obtain ⟨n, hn⟩ : ∃ n : Nat, n = k.toNat := ⟨_, rfl⟩
    have HN := Lib.hid (show k = (n : Int) ∧ n ≤ a.sl.length from by rw [hn]; exact ow_nat (HEE.out.symm.trans hE0))
    rw [← hn] at HA2
    clear HTA HEE hn
    subst hE0
    obtain ⟨y0, y1, y2, y3, y4, y5, y6, y7, y8, y9, y10⟩ := H1.out.pb.k
    have yl := H1.out.pb.lt
    go_wp2_with fail
    clear y0 y1 y2 y3 y4 y5 y6 y7 y8 y9 y10 yl
    refine (HCL.out _ H1.out).mono ?_
    rintro e w3 ⟨Z, b, rfl, hnw, har, hb, ea, ec, hrow, o1, o2, o3, o4⟩
    have HC := Lib.hid (show Cb12 w p r b a Z (((((((((((w3.setCell ⟨p, 0, none⟩ (.slice Z.A a.sl.length Z.c)).setCell ⟨p, 1, none⟩ (.slice Z.A2 a.st.length Z.c2)).setCell ⟨p, 2, none⟩ (.int .i64 a.ow)).setCell ⟨p, 3, none⟩ (.int .i64 a.cap)).setCell ⟨p, 4, none⟩ (.slice Z.A3 a.dl.length Z.c3)).setCell ⟨p, 5, none⟩ (.int .i64 a.dir.vn)).setCell ⟨p, 6, none⟩ (.slice Z.D.A a.dir.l.length Z.D.c)).setCell ⟨p, 7, none⟩ (.slice Z.D.A2 a.dir.F.length Z.D.c2)).setCell ⟨p, 8, none⟩ (.int .i64 a.ep)).setCell ⟨p, 9, none⟩ (.int .i64 a.ck)).setCell ⟨p, 10, none⟩ (.int .i64 a.ni)) from H1.out.copied hb hnw har ea ec hrow o1 o2 o3 o4)
    have HNW := Lib.hid (hnw.low (show r + 1 ≤ _ from H1.out.rb.lt))
    have H2 := Lib.hid (H1.out.below hb)
    clear hnw har hb ea ec hrow o1 o2 o3 o4 H1 HCL
    obtain ⟨y0, y1, y2, y3, y4, y5, y6, y7, y8, y9, y10⟩ := H2.out.pb.k
    have yl := H2.out.pb.lt
    obtain ⟨f0, f1, f2, f3, f4, f5, f6, f7, f8, f9, f10⟩ := H2.out.pb.free
    go_upto_region 5 with (fail)
    clear y0 y1 y2 y3 y4 y5 y6 y7 y8 y9 y10 yl f0 f1 f2 f3 f4 f5 f6 f7 f8 f9 f10 H2
    generalize ((((((((((w3.setCell ⟨p, 0, none⟩ (.slice Z.A a.sl.length Z.c)).setCell ⟨p, 1, none⟩ (.slice Z.A2 a.st.length Z.c2)).setCell ⟨p, 2, none⟩ (.int .i64 a.ow)).setCell ⟨p, 3, none⟩ (.int .i64 a.cap)).setCell ⟨p, 4, none⟩ (.slice Z.A3 a.dl.length Z.c3)).setCell ⟨p, 5, none⟩ (.int .i64 a.dir.vn)).setCell ⟨p, 6, none⟩ (.slice Z.D.A a.dir.l.length Z.D.c)).setCell ⟨p, 7, none⟩ (.slice Z.D.A2 a.dir.F.length Z.D.c2)).setCell ⟨p, 8, none⟩ (.int .i64 a.ep)).setCell ⟨p, 9, none⟩ (.int .i64 a.ck)).setCell ⟨p, 10, none⟩ (.int .i64 a.ni) = w4 at *
    have hkn := HN.out.1
    have HOW := Lib.hid (aownerof_any a Z p b n w4 HC.out.pb HC.out.ea HC.out.ec.1 HN.out.2 HFW.out.sl.2)
    rw [← hkn] at HOW
    clear hkn
    go_wp2_with fail
    refine HOW.out.mono ?_
    rintro e w5 ⟨rfl, hb⟩
    have HC2 := Lib.hid (HC.out.below hb)
    obtain ⟨c1, c2, c3⟩ := HC2.out.at_ HN.out.2
    obtain ⟨Y', hcb, hny⟩ := HC2.out.own HN.out.2 0
    rw [← HA2.out] at hcb
    have HCB := Lib.hid hcb
    have HNY := Lib.hid (hny _ HNW.out)
    obtain ⟨P, hP⟩ : ∃ P, P = ownP p b a.sl.length n := ⟨_, rfl⟩
    rw [← hP] at HCB c1 c2 c3 ⊢
    generalize a.own n = x at *
    clear hb hP HOW HC HC2 HNW HA2 hcb hny
    go_upto_region 6 with (fail)
    clear c1 c2 c3
    generalize w5.setCell P (.int .i64 0) = w6 at *
    have HF := Lib.hid (ae_out (show w.heap.size ≤ r by have := HCB.out.ne; omega) HCB.out.bel HNY.out (Nat.le_refl r) HCB.out.ar 0)
    obtain ⟨y0, y1, y2, y3, y4, y5, y6, y7, y8, y9, y10⟩ := HCB.out.pb.k
    have yl := HCB.out.pb.lt
    obtain ⟨r0, r1, r2, r3, r4, r5, r6, r7, r8, r9, r10⟩ := HCB.out.rb.k
    have rl := HCB.out.rb.lt
    obtain ⟨f0, f1, f2, f3, f4, f5, f6, f7, f8, f9, f10⟩ := HCB.out.rb.free
    have hpr : ¬ p = r := by have := HCB.out.ne; omega
    have hrp : ¬ r = p := fun e => hpr e.symm
    clear HCB HNY
    go_wp2
    exact bodyPost_ret (v := .tuple #[av TA Y', .int .i64 0]) (by simp only [results, Tryz.results13]; go_simp <;> rfl) rfl HF.out
  · have hne : (E != 0) = true := bne_iff_ne.2 hE0
    have HA2 := Lib.hid (HTA.out.trans (if_neg hE0))
    have HF := Lib.hid (show AE w TA E (.returned (.tuple #[.agg #[.slice none 0 0, .slice none 0 0, .int .i64 0, .int .i64 0, .slice none 0 0, .int .i64 0, .slice none 0 0, .slice none 0 0, .int .i64 0, .int .i64 0, .int .i64 0], .int .i64 E])) (set11 w2 r zA zAx) from by
      rw [HA2.out]
      exact ae_out (show w.heap.size ≤ r by have := H1.out.ne; omega) H1.out.bel (zAx_nw _) (Nat.le_refl r) AR.zero E)
    obtain ⟨r0, r1, r2, r3, r4, r5, r6, r7, r8, r9, r10⟩ := H1.out.rb.k
    have rl := H1.out.rb.lt
    obtain ⟨f0, f1, f2, f3, f4, f5, f6, f7, f8, f9, f10⟩ := H1.out.rb.free
    clear HTA HEE HA2 H1 HCL hE0
    go_wp2
    exact bodyPost_ret (v := .tuple #[.agg #[.slice none 0 0, .slice none 0 0, .int .i64 0, .int .i64 0, .slice none 0 0, .int .i64 0, .slice none 0 0, .slice none 0 0, .int .i64 0, .int .i64 0, .int .i64 0], .int .i64 E]) (by simp only [results, Tryz.results13]; go_simp <;> rfl) rfl HF.out
end Go.Proofs.YtijpflljopckiaaGreat
namespace Go.Proofs.YtijpflljopckiaaGreat
open Go.RowKit
set_option linter.unusedVariables false

/-- What LoadSlot gives. -/
def ldS (a : Ar) (i : Int) : Sh := if islB a i = true then (og a.sl i.toNat).sh else zS
def ldE (a : Ar) (i : Int) : Int := if islB a i = true then 0 else 1
theorem isl_nat {a : Ar} {i : Int} (h : islB a i = true) : i = (i.toNat : Int) ∧ i.toNat < a.sl.length ∧ i.toNat < a.st.length := by
  have := wi_of h
  omega
/-- An arena's box and a result's of a shard. -/
structure Ls12 (w : World) (p r : Nat) (a : Ar) (Y : Ax) (W : World) : Prop where
  aw : Aw12 w p a Y W
  rb : SB8 W r zS zX
  rn : w.heap.size ≤ r ∧ p < r
theorem Ls12.below {w W W' : World} {p r : Nat} {a : Ar} {Y : Ax} (h : Ls12 w p r a Y W) (hb : Below W.heap.size W W') : Ls12 w p r a Y W' := ⟨h.aw.below hb, h.rb.up hb, h.rn⟩
theorem Ls12.start {w : World} {a : Ar} {Y : Ax} (har : AR w w.heap.size a Y) : Ls12 w w.heap.size (w.heap.size + 1) a Y ((w.alloc (.cells #[.slice Y.A a.sl.length Y.c, .slice Y.A2 a.st.length Y.c2, .int .i64 a.ow, .int .i64 a.cap, .slice Y.A3 a.dl.length Y.c3, .int .i64 a.dir.vn, .slice Y.D.A a.dir.l.length Y.D.c, .slice Y.D.A2 a.dir.F.length Y.D.c2, .int .i64 a.ep, .int .i64 a.ck, .int .i64 a.ni] 36)).alloc (.cells #[.bool false, .int .i64 0, .int .i64 0, .slice none 0 0, .int .i64 0, .int .i64 0, .slice none 0 0, .slice none 0 0] 54)) := by
  have h1 := SB8.zero (w.alloc (.cells #[.slice Y.A a.sl.length Y.c, .slice Y.A2 a.st.length Y.c2, .int .i64 a.ow, .int .i64 a.cap, .slice Y.A3 a.dl.length Y.c3, .int .i64 a.dir.vn, .slice Y.D.A a.dir.l.length Y.D.c, .slice Y.D.A2 a.dir.F.length Y.D.c2, .int .i64 a.ep, .int .i64 a.ck, .int .i64 a.ni] 36)) 54
  rw [show (w.alloc (.cells #[.slice Y.A a.sl.length Y.c, .slice Y.A2 a.st.length Y.c2, .int .i64 a.ow, .int .i64 a.cap, .slice Y.A3 a.dl.length Y.c3, .int .i64 a.dir.vn, .slice Y.D.A a.dir.l.length Y.D.c, .slice Y.D.A2 a.dir.F.length Y.D.c2, .int .i64 a.ep, .int .i64 a.ck, .int .i64 a.ni] 36)).heap.size = w.heap.size + 1 by simp] at h1
  exact ⟨(Aw12.start (Below.refl _ _) har).below ((Below.refl _ _).alloc (Nat.le_refl _) _), h1, by omega, by omega⟩
theorem se_out {w W : World} {r : Nat} {S : Sh} {D : Sx} (hr : w.heap.size ≤ r) (hb : Below w.heap.size w W) (hn : D.nw (r + 1)) (hs : SR W W.heap.size S D) (x : Int) : SE w S x (.returned (.tuple #[sv S D, .int .i64 x])) (set8s W r S D) :=
  ⟨D, rfl, hn.low (by omega), SR.sets (hn.off (Nat.lt_succ_self r)) (S.l8 D) 0 W hs, set8s_below hr hb S D⟩
set_option maxHeartbeats 8000000 in
set_option maxRecDepth 20000 in
theorem aloadslot_any (a : Ar) (Y : Ax) (i : Int) (w : World) (har : AR w w.heap.size a Y) (hf : a.Few) : Calls Tryz.prog 10 #[av a Y, .int .i64 i] w (SE w (ldS a i) (ldE a i)) := by
  obtain ⟨p, hp⟩ : ∃ p, p = w.heap.size := ⟨_, rfl⟩
  obtain ⟨r, hr⟩ : ∃ r, r = w.heap.size + 1 := ⟨_, rfl⟩
  have H0 := Lib.hid (show Ls12 w p r a Y _ from by rw [hr, hp]; exact Ls12.start har)
  have HPP := Lib.hid (And.intro hp hr)
  have HIS := Lib.hid (fun W => aisslot_any a Y i W hf)
  have HFW := Lib.hid hf
  obtain ⟨b, hb0⟩ : ∃ b, b = islB a i := ⟨_, rfl⟩
  obtain ⟨LS, hLS⟩ : ∃ L, L = ldS a i := ⟨_, rfl⟩
  obtain ⟨LE, hLE⟩ : ∃ L, L = ldE a i := ⟨_, rfl⟩
  have HLS := Lib.hid (show (LS = if b = true then (og a.sl i.toNat).sh else zS) ∧ LE = if b = true then 0 else 1 from ⟨by rw [hLS, hb0]; rfl, by rw [hLE, hb0]; rfl⟩)
  have HBB := Lib.hid hb0
  rw [← hb0] at HIS
  rw [← hLS, ← hLE]
  clear hp hr har hf hb0 hLS hLE
  go_enter Tryz.func10, Tryz.ntmps10
  go_upto_region 1 with (fail)
  rw [← HPP.out.2, ← HPP.out.1]
  generalize (w.alloc (.cells #[.slice Y.A a.sl.length Y.c, .slice Y.A2 a.st.length Y.c2, .int .i64 a.ow, .int .i64 a.cap, .slice Y.A3 a.dl.length Y.c3, .int .i64 a.dir.vn, .slice Y.D.A a.dir.l.length Y.D.c, .slice Y.D.A2 a.dir.F.length Y.D.c2, .int .i64 a.ep, .int .i64 a.ck, .int .i64 a.ni] 36)).alloc (.cells #[.bool false, .int .i64 0, .int .i64 0, .slice none 0 0, .int .i64 0, .int .i64 0, .slice none 0 0, .slice none 0 0] 54) = w1 at *
  obtain ⟨y0, y1, y2, y3, y4, y5, y6, y7, y8, y9, y10⟩ := H0.out.aw.qb.k
  have yl := H0.out.aw.qb.lt
  go_wp2_with fail
  clear y0 y1 y2 y3 y4 y5 y6 y7 y8 y9 y10 yl
  refine (HIS.out _).mono ?_
  rintro e w2 ⟨rfl, hb⟩
  have H1 := Lib.hid (H0.out.below hb)
  clear hb H0 HIS
  cases b with
  | true =>
    have HN := Lib.hid (isl_nat HBB.out.symm)
    obtain ⟨n, hn⟩ : ∃ n : Nat, n = i.toNat := ⟨_, rfl⟩
    have HS2 := Lib.hid (show LS = (og a.sl n).sh ∧ LE = 0 from ⟨by rw [hn]; exact HLS.out.1.trans (if_pos rfl), HLS.out.2.trans (if_pos rfl)⟩)
    rw [← hn] at HN
    obtain ⟨D, b, o, hA, hb, h9, hsr, -⟩ := H1.out.aw.ar.at2 HN.out.2.1
    have h3 := HFW.out.sh (og a.sl n) (by rw [og_get HN.out.2.1]; exact List.getElem_mem _)
    rw [← HS2.out.1] at h9 hsr h3
    generalize (og a.sl n).ow = x at *
    have HCS := Lib.hid (cshard_any LS D w2 hsr h3.1 h3.2.1 h3.2.2)
    obtain ⟨q0, q1, q2, q3, q4, q5, q6, q7, q8⟩ := h9
    simp only at q0 q1 q2 q3 q4 q5 q6 q7 q8
    have hin := HN.out.1
    have hlt := HN.out.2.1
    have hlt' : (n : Int) < (a.sl.length : Int) := by omega
    obtain ⟨y0, -⟩ := H1.out.aw.qb.k
    have yl := H1.out.aw.qb.lt
    rw [hA] at y0
    subst hin
    clear hn hA h3 hsr HLS HBB
    go_wp2_with fail
    clear q0 q1 q2 q3 q4 q5 q6 q7 q8 y0 yl hb
    refine HCS.out.mono ?_
    rintro e w3 ⟨E, rfl, hn, hr, hb⟩
    have H2 := Lib.hid (H1.out.below hb)
    have HF := Lib.hid (show SE w LS LE (.returned (.tuple #[sv LS E, .int .i64 0])) (set8s w3 r LS E) from by
      rw [HS2.out.2]
      exact se_out H2.out.rn.1 H2.out.aw.bel (hn.low H1.out.rb.lt) hr 0)
    obtain ⟨r0, r1, r2, r3, r4, r5, r6, r7, rl⟩ := H2.out.rb.facts
    obtain ⟨f0, f1, f2, f3, f4, f5, f6, f7⟩ := H2.out.rb.free
    clear hn hr hb H1 H2 HS2
    go_wp2
    exact bodyPost_ret (v := .tuple #[sv LS E, .int .i64 0]) (by simp only [results, Tryz.results10]; go_simp <;> rfl) rfl HF.out
  | false =>
    have HS2 := Lib.hid (show LS = zS ∧ LE = 1 from ⟨HLS.out.1.trans (if_neg (by decide)), HLS.out.2.trans (if_neg (by decide))⟩)
    have HF := Lib.hid (show SE w LS LE (.returned (.tuple #[.agg #[.bool false, .int .i64 0, .int .i64 0, .slice none 0 0, .int .i64 0, .int .i64 0, .slice none 0 0, .slice none 0 0], .int .i64 1])) (set8s w2 r zS zX) from by
      rw [HS2.out.1, HS2.out.2]
      exact se_out H1.out.rn.1 H1.out.aw.bel (zX_nw _) SR.zero 1)
    obtain ⟨r0, r1, r2, r3, r4, r5, r6, r7, rl⟩ := H1.out.rb.facts
    obtain ⟨f0, f1, f2, f3, f4, f5, f6, f7⟩ := H1.out.rb.free
    clear H1 HS2 HLS HBB
    go_wp2
    exact bodyPost_ret (v := .tuple #[.agg #[.bool false, .int .i64 0, .int .i64 0, .slice none 0 0, .int .i64 0, .int .i64 0, .slice none 0 0, .slice none 0 0], .int .i64 1]) (by simp only [results, Tryz.results10]; go_simp <;> rfl) rfl HF.out
end Go.Proofs.YtijpflljopckiaaGreat
namespace Go.Proofs.YtijpflljopckiaaGreat
open Go.RowKit
set_option linter.unusedVariables false

/-- What is known of the arena. -/
structure Ca12 (a : Ar) (n : Nat) : Prop where
  sl : a.sl.length = n
  st : a.st.length = n
  fw : a.Few
  sq : ∀ i, i < n → (tg a.st i).sq = 0
  ow : ∀ i, i < n → a.own i = 0
theorem ca_nw {s : Su} (hs : s.Ok) : nwAE s = 0 ∧ ∃ n, 0 < n ∧ n ≤ 6 ∧ Ca12 (nwA s) n := by
  have hb := suB_iff.2 hs
  refine ⟨if_pos hb, s.sl.toNat, ?_⟩
  have hf := few_nw hb
  have hok := hs
  unfold Su.Ok at hok
  have e : nwA s = grA s s.sl.toNat s.sl.toNat s.dd := if_pos hb
  rw [e] at hf ⊢
  refine ⟨by omega, by omega, grA_sl _ _ _ _, grA_st _ _ _ _, hf, fun i hi => ?_, fun i hi => ?_⟩
  · show ((List.replicate s.sl.toNat (stE s)).getD i zSt).sq = 0
    rw [List.getD_eq_getElem?_getD, List.getElem?_replicate, if_pos hi]
    rfl
  · unfold Ar.own
    rw [grA_sl, if_neg (by omega), og_get (by rw [grA_sl]; exact hi)]
    simp [grA, nwSl]
theorem lk_09 {n v : Nat} {t : Int} (hv : v ≤ n) (h1 : 1 ≤ t) (h2 : t ≤ 9) : lkE n (v : Int) t = 0 := by
  unfold lkE rgE
  rw [if_pos (wi_true (by omega) (by omega)), if_pos (wi_true h1 (by omega))]
section
variable {a : Ar} {n v : Nat} {t m : Int}
theorem own_put (h : v < a.sl.length) : (a.setOwn v m).own v = m ∧ (a.setOwn v m).sl.length = a.sl.length ∧ (a.setOwn v m).st = a.st := by
  have e : a.setOwn v m = ⟨a.sl.set v ⟨m, (og a.sl v).sh⟩, a.st, a.ow, a.cap, a.dl, a.dir, a.ep, a.ck, a.ni⟩ := if_neg (by omega)
  rw [e]
  refine ⟨?_, by simp, rfl⟩
  unfold Ar.own
  rw [if_neg (by simp; omega), og_get (by simpa using h)]
  simp
theorem isl_t (h1 : a.sl.length = n) (h2 : a.st.length = n) (hv : v < n) : islB a (v : Int) = true := wi_true (by omega) (by omega)
theorem ld_t (h1 : a.sl.length = n) (h2 : a.st.length = n) (hv : v < n) : ldS a (v : Int) = (og a.sl v).sh ∧ ldE a (v : Int) = 0 := ⟨if_pos (isl_t h1 h2 hv), if_pos (isl_t h1 h2 hv)⟩
theorem ow_t (h1 : a.sl.length = n) (hv : v < n) (t1 : 1 ≤ t) (t2 : t ≤ 9) : owE a (v : Int) t = if a.own v = t then 0 else 13 := by
  unfold owE
  rw [h1, if_pos (lk_09 (by omega) t1 t2)]
  rfl
theorem slE_t (h1 : a.sl.length = n) (h2 : a.st.length = n) (hv : v < n) (t1 : 1 ≤ t) (t2 : t ≤ 9) : slE a (v : Int) t = if a.own v = t then 0 else 13 := by
  unfold slE
  rw [if_pos (isl_t h1 h2 hv)]
  exact ow_t h1 hv t1 t2
theorem tl_t (h1 : a.sl.length = n) (hv : v < n) (t1 : 1 ≤ t) (t2 : t ≤ 9) (h0 : a.own v = 0) : tlA a (v : Int) t = a.setOwn v t ∧ tlB a (v : Int) t = true := by
  have hl := lk_09 (n := n) (v := v) (by omega) t1 t2
  refine ⟨?_, ?_⟩
  · unfold tlA
    rw [h1, if_pos hl]
    show a.setOwn v (if a.own v = 0 then t else a.own v) = _
    rw [if_pos h0]
  · unfold tlB
    rw [h1]
    exact decide_eq_true ⟨hl, h0⟩
theorem Ar.Few.stripe (h : a.Few) (i : Nat) (s : St) : (a.setSt i s).Few := ⟨h.sl, by show (a.st.set i s).length ≤ 1000; rw [List.length_set]; exact h.st, h.dl, h.dr, h.sh⟩
end
/-- What the statement's calls give. -/
structure Cc12 (A0 A1 Q C A5 ZA : Ar) (SF : Nat → Sh) (n v : Nat) (m o : Int) : Prop where
  l1 : A1.st.length = n ∧ A1.sl.length = n
  lb : Q.st.length = n ∧ Q.sl.length = n
  q1 : ∀ c, c < n → (tg A1.st c).sq = 0
  qb : ∀ c, c < n → (tg Q.st c).sq = if c = v then 5 else 0
  tl : ∀ Y W, AR W W.heap.size A0 Y → Calls Tryz.prog 9 #[av A0 Y, .int .i64 (v : Int), .int .i64 m] W (A3P W A1 true 0)
  ld : ∀ (c : Nat) Y W, c < n → AR W W.heap.size A1 Y → Calls Tryz.prog 10 #[av A1 Y, .int .i64 (c : Int)] W (SE W (SF c) 0)
  lq : ∀ (c : Nat) Y W, c < n → AR W W.heap.size Q Y → Calls Tryz.prog 10 #[av Q Y, .int .i64 (c : Int)] W (SE W (SF c) 0)
  ss : ∀ Y S D W, AR W W.heap.size A1 Y → Calls Tryz.prog 11 #[av A1 Y, .int .i64 (v : Int), .int .i64 o, sv S D] W (AE W ZA 13)
  sn : ∀ Y W, AR W W.heap.size A1 Y → Calls Tryz.prog 12 #[av A1 Y, .int .i64 (v : Int), .int .i64 o, .agg #[.int .i64 0, .int .i64 0, .int .i64 0, .int .i64 0]] W (AE W ZA 13)
  un : ∀ Y W, AR W W.heap.size A1 Y → Calls Tryz.prog 13 #[av A1 Y, .int .i64 (v : Int), .int .i64 o] W (AE W ZA 13)
  sy : ∀ Y W, AR W W.heap.size A1 Y → Calls Tryz.prog 12 #[av A1 Y, .int .i64 (v : Int), .int .i64 m, .agg #[.int .i64 5, .int .i64 0, .int .i64 0, .int .i64 0]] W (AE W Q 0)
  uy : ∀ Y W, AR W W.heap.size Q Y → Calls Tryz.prog 13 #[av Q Y, .int .i64 (v : Int), .int .i64 m] W (AE W C 0)
  ty : ∀ Y W, AR W W.heap.size C Y → Calls Tryz.prog 9 #[av C Y, .int .i64 (v : Int), .int .i64 o] W (A3P W A5 true 0)
theorem cc12 {A0 : Ar} {n v : Nat} {m o : Int} (h : Ca12 A0 n) (hv : v < n) (m1 : 1 ≤ m) (m2 : m ≤ 5) (o1 : 6 ≤ o) (o2 : o ≤ 9) : ∃ (A1 Q C A5 ZA : Ar) (SF : Nat → Sh), Cc12 A0 A1 Q C A5 ZA SF n v m o := by
  obtain ⟨p1, p2, p3⟩ := own_put (a := A0) (v := v) (m := m) (by rw [h.sl]; exact hv)
  have f1 := h.fw.own v m
  generalize hA1 : A0.setOwn v m = A1 at *
  have l1 : A1.sl.length = n := by rw [p2, h.sl]
  have k1 : A1.st.length = n := by rw [p3, h.st]
  have f2 := f1.stripe v ⟨5, 0, 0, 0⟩
  have qs : (A1.setSt v ⟨5, 0, 0, 0⟩).sl = A1.sl ∧ (A1.setSt v ⟨5, 0, 0, 0⟩).own v = A1.own v := ⟨rfl, rfl⟩
  have qt : (A1.setSt v ⟨5, 0, 0, 0⟩).st = A1.st.set v ⟨5, 0, 0, 0⟩ := rfl
  have es : ssA A1 (v : Int) m ⟨5, 0, 0, 0⟩ = A1.setSt v ⟨5, 0, 0, 0⟩ := by
    unfold ssA
    rw [if_pos (by rw [slE_t l1 k1 hv m1 (by omega), if_pos p1])]
    rfl
  generalize hQ : A1.setSt v ⟨5, 0, 0, 0⟩ = Q at *
  have l2 : Q.sl.length = n := by rw [qs.1, l1]
  have k2 : Q.st.length = n := by rw [qt, List.length_set, k1]
  have w2 : Q.own v = m := by rw [qs.2, p1]
  obtain ⟨r1, r2, r3⟩ := own_put (a := Q) (v := v) (m := 0) (by rw [l2]; exact hv)
  have f3 := f2.own v 0
  have eu : ulA Q (v : Int) m = Q.setOwn v 0 := by
    unfold ulA
    rw [if_pos (by rw [ow_t l2 hv m1 (by omega), if_pos w2])]
    rfl
  generalize hC : Q.setOwn v 0 = C at *
  have l3 : C.sl.length = n := by rw [r2, l2]
  have no : ¬ A1.own v = o := by rw [p1]; omega
  have e13 : slE A1 (v : Int) o = 13 := by rw [slE_t l1 k1 hv (by omega) (by omega), if_neg no]
  have o13 : owE A1 (v : Int) o = 13 := by rw [ow_t l1 hv (by omega) (by omega), if_neg no]
  refine ⟨A1, Q, C, tlA C (v : Int) o, zA, fun c => (og A1.sl c).sh, ⟨⟨k1, l1⟩, ⟨k2, l2⟩, fun c hc => by rw [p3]; exact h.sq c hc, fun c hc => ?_, fun Y W hr => ?_, fun c Y W hc hr => ?_, fun c Y W hc hr => ?_, fun Y S D W hr => ?_, fun Y W hr => ?_, fun Y W hr => ?_, fun Y W hr => ?_, fun Y W hr => ?_, fun Y W hr => ?_⟩⟩
  · rw [qt]
    unfold tg
    rw [List.getD_eq_getElem?_getD]
    by_cases e : c = v
    · subst e
      rw [if_pos rfl, List.getElem?_set_self (by rw [k1]; exact hc)]
      rfl
    · rw [if_neg e, List.getElem?_set_ne (fun e' => e e'.symm), ← List.getD_eq_getElem?_getD]
      show (tg A1.st c).sq = 0
      rw [p3]
      exact h.sq c hc
  · have g := atrylock_any A0 Y (v : Int) m W hr h.fw
    rw [(tl_t h.sl hv m1 (by omega) (h.ow v hv)).1, (tl_t h.sl hv m1 (by omega) (h.ow v hv)).2, h.sl, lk_09 (by omega) m1 (by omega), hA1] at g
    exact g
  · have g := aloadslot_any A1 Y (c : Int) W hr f1
    rw [(ld_t l1 k1 hc).1, (ld_t l1 k1 hc).2] at g
    exact g
  · have g := aloadslot_any Q Y (c : Int) W hr f2
    rw [(ld_t l2 k2 hc).1, (ld_t l2 k2 hc).2, qs.1] at g
    exact g
  · have g := astoreslot_no A1 Y (v : Int) o S D W hr f1 (by rw [e13]; decide)
    rw [e13] at g
    exact g
  · have g := astorestripe_any A1 Y (v : Int) o ⟨0, 0, 0, 0⟩ W hr f1 ⟨by decide, by decide, by decide, by decide⟩
    rw [show ssA A1 (v : Int) o ⟨0, 0, 0, 0⟩ = zA from if_neg (by rw [e13]; decide), e13] at g
    exact g
  · have g := aunlock_any A1 Y (v : Int) o W hr f1
    rw [show ulA A1 (v : Int) o = zA from if_neg (by rw [o13]; decide), o13] at g
    exact g
  · have g := astorestripe_any A1 Y (v : Int) m ⟨5, 0, 0, 0⟩ W hr f1 ⟨by decide, by decide, by decide, by decide⟩
    rw [es, show slE A1 (v : Int) m = 0 by rw [slE_t l1 k1 hv m1 (by omega), if_pos p1]] at g
    exact g
  · have g := aunlock_any Q Y (v : Int) m W hr f2
    rw [eu, show owE Q (v : Int) m = 0 by rw [ow_t l2 hv m1 (by omega), if_pos w2]] at g
    exact g
  · have g := atrylock_any C Y (v : Int) o W hr f3
    rw [(tl_t l3 hv (by omega) (by omega) r1).2, l3, lk_09 (by omega) (by omega) (by omega)] at g
    exact g
end Go.Proofs.YtijpflljopckiaaGreat
