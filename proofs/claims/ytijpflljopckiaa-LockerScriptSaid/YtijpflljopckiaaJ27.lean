/- What is proved here: arena.firstShard by a contract; setups in memory; Setup of the statements' base makes a valid setup; arena.within, arena.isSetup, ref12.in by contracts; stripe.isOdd, isNumber, within, Begin and ref11.Begin, counted by contracts; ref07.Counts by a contract. -/
import Derived.Test.YtijpflljopckiaaJ25
import Derived.Test.YtijpflljopckiaaJ26
import Derived.Deep.DeepCutAuto
import Derived.Test.YtijpflljopckiaaJ13
import Derived.Deep.RegionHeld3
import Derived.Test.YtijpflljopckiaaJ02
import Derived.Test.YtijpflljopckiaaJ12
import Derived.Test.YtijpflljopckiaaRows
import Derived.WalkKit
import Derived.Outline
import Derived.IntWalk
import Derived.Test.YtijpflljopckiaaJ20
import Derived.Test.YtijpflljopckiaaJ18
import Derived.Deep.QuietTactic
namespace Go.Proofs.Ytijpflljopckiaa
open Go.RowKit
set_option linter.unusedVariables false

/-- The first shard of a slot. -/
noncomputable def ffS (d : Dd) (j : Int) (k : Nat) : Sh := if spnB d j = true then neS (k : Int) (spnD d j).lo (spnD d j).hi else frS k
/-- A directory's box, a result box of a shard. -/
structure Fs12 (w : World) (p r : Nat) (d : Dd) (X : Dx) (W : World) : Prop where
  da : DAt w p d X W
  rb : SB8 W r zS zX
  rn : w.heap.size ≤ r
section
variable {w W W' : World} {p r : Nat} {d : Dd} {X : Dx}
theorem Fs12.below (h : Fs12 w p r d X W) (hb : Below W.heap.size W W') : Fs12 w p r d X W' := ⟨h.da.below hb, h.rb.up hb, h.rn⟩
theorem Fs12.start (hd : DR w w.heap.size d X) : Fs12 w w.heap.size (w.heap.size + 1) d X ((w.alloc (.cells #[.int .i64 d.vn, .slice X.A d.l.length X.c, .slice X.A2 d.F.length X.c2] 34)).alloc (.cells #[.bool false, .int .i64 0, .int .i64 0, .slice none 0 0, .int .i64 0, .int .i64 0, .slice none 0 0, .slice none 0 0] 85)) := by
  have h1 := SB8.zero (w.alloc (.cells #[.int .i64 d.vn, .slice X.A d.l.length X.c, .slice X.A2 d.F.length X.c2] 34)) 85
  rw [show (w.alloc (.cells #[.int .i64 d.vn, .slice X.A d.l.length X.c, .slice X.A2 d.F.length X.c2] 34)).heap.size = w.heap.size + 1 by simp] at h1
  exact ⟨(DAt.start _ hd).below ((Below.refl _ _).alloc (Nat.le_refl _) _), h1, by omega⟩
/-- A shard stored as the result. -/
theorem sv_out {w W : World} {r : Nat} {S : Sh} {D : Sx} (hr : w.heap.size ≤ r) (hb : Below w.heap.size w W) (hn : D.nw (r + 1)) (hs : SR W W.heap.size S D) : SV w S (.returned (sv S D)) (set8s W r S D) :=
  ⟨D, rfl, hn.low (by omega), SR.sets (hn.off (Nat.lt_succ_self r)) (S.l8 D) 0 W hs, set8s_below hr hb S D⟩
end
set_option maxHeartbeats 8000000 in
set_option maxRecDepth 20000 in
theorem fshard_any (d : Dd) (X : Dx) (j : Int) (k : Nat) (w : World) (hd : DR w w.heap.size d X) (h1 : 1 ≤ k) (h2 : k ≤ 12) :
    Calls Try.prog 35 #[dv d X, .int .i64 j, .int .i64 (k : Int)] w (SV w (ffS d j k)) := by
  have H0 := Lib.hid (Fs12.start hd)
  have HSP := Lib.hid (fun p r W (k : Fs12 w p r d X W) => dspan_any d X j W k.da.dr)
  have HFR := Lib.hid (fun W => sfree_any k W h1 h2)
  obtain ⟨FF, hFF⟩ : ∃ FF, FF = ffS d j k := ⟨_, rfl⟩
  have HFF := Lib.hid (show FF = if spnB d j = true then neS (k : Int) (spnD d j).lo (spnD d j).hi else frS k from hFF)
  obtain ⟨S, hS⟩ : ∃ S, S = spnD d j := ⟨_, rfl⟩
  obtain ⟨b, hb0⟩ : ∃ b, b = spnB d j := ⟨_, rfl⟩
  have HNE := Lib.hid (fun W => snew_any (k : Int) S.lo S.hi W)
  rw [← hS, ← hb0] at HFF
  rw [← hFF]
  rw [← hS, ← hb0] at HSP
  obtain ⟨p, hp⟩ : ∃ p, p = w.heap.size := ⟨_, rfl⟩
  obtain ⟨r, hr⟩ : ∃ r, r = w.heap.size + 1 := ⟨_, rfl⟩
  have HPP := Lib.hid (And.intro hp hr)
  clear hFF hS hb0 hp hr hd h1 h2
  go_enter Try.func35, Try.ntmps35
  obtain ⟨⟨x0, x1, x2, xl⟩, -⟩ := H0.out.da.db.all
  go_wp2_with fail
  clear x0 x1 x2 xl
  rw [← HPP.out.2, ← HPP.out.1] at H0
  generalize (w.alloc (.cells #[.int .i64 d.vn, .slice X.A d.l.length X.c, .slice X.A2 d.F.length X.c2] 34)).alloc (.cells #[.bool false, .int .i64 0, .int .i64 0, .slice none 0 0, .int .i64 0, .int .i64 0, .slice none 0 0, .slice none 0 0] 85) = w2 at *
  rw [← HPP.out.2, ← HPP.out.1]
  refine (HSP.out _ _ _ H0.out).mono ?_
  rintro e w3 ⟨rfl, hb⟩
  have H1 := Lib.hid ((H0.out.below hb).below ((Below.refl _ _).alloc (Nat.le_refl _) (.cells #[.int .i64 S.lo, .int .i64 S.hi, .int .i64 S.sh] 115)))
  have HS1 := Lib.hid (SpB10.start w3 S 115)
  clear hb H0
  go_upto_region 2 with (fail)
  obtain ⟨s, hs⟩ : ∃ p, p = w3.heap.size := ⟨_, rfl⟩
  rw [← hs] at HS1 ⊢
  clear hs
  generalize w3.alloc (.cells #[.int .i64 S.lo, .int .i64 S.hi, .int .i64 S.sh] 115) = w4 at *
  cases b with
  | false =>
    have HFF2 := Lib.hid (HFF.out.trans (if_neg (by decide)))
    go_wp2_with fail
    skip
    refine (HFR.out _).mono ?_
    rintro e w5 ⟨D, rfl, hn, hr, hb⟩
    rw [← HFF2.out] at hr ⊢
    have HN := Lib.hid (hn.low (show r + 1 ≤ _ from H1.out.rb.lt))
    have HRZ := Lib.hid (show r < w5.heap.size from Nat.lt_of_lt_of_le H1.out.rb.lt hb.size)
    have HA := (Below.refl w5.heap.size w5).alloc (Nat.le_refl _) (.cells #[.bool FF.lv, .int .i64 FF.lo, .int .i64 FF.hi, .slice D.A FF.cs.length D.c, .int .i64 FF.hd, .int .i64 FF.sz, .slice D.A2 FF.l.length D.c2, .slice D.A3 FF.h.length D.c3] 85)
    have H2 := Lib.hid ((H1.out.below hb).below HA)
    have HB2 := Lib.hid (SB8.start w5 FF D 85)
    have HR2 := Lib.hid (hr.up HA)
    clear hn hr hb HA H1 HS1 HFF HFF2
    go_upto_region 4 with (fail)
    obtain ⟨z, hz⟩ : ∃ p, p = w5.heap.size := ⟨_, rfl⟩
    rw [← hz] at HB2 HRZ ⊢
    clear hz
    generalize w5.alloc (.cells #[.bool FF.lv, .int .i64 FF.lo, .int .i64 FF.hi, .slice D.A FF.cs.length D.c, .int .i64 FF.hd, .int .i64 FF.sz, .slice D.A2 FF.l.length D.c2, .slice D.A3 FF.h.length D.c3] 85) = w6 at *
    obtain ⟨c0, c1, c2, c3, c4, c5, c6, c7, cl⟩ := HB2.out.facts
    obtain ⟨r0, r1, r2, r3, r4, r5, r6, r7, rl⟩ := H2.out.rb.facts
    obtain ⟨f0, f1, f2, f3, f4, f5, f6, f7⟩ := H2.out.rb.free
    have n1 : ¬ z = r := by have := HRZ.out; omega
    have n2 : ¬ r = z := by have := HRZ.out; omega
    have HF := Lib.hid (sv_out H2.out.rn H2.out.da.bel HN.out HR2.out)
    go_wp2
    exact bodyPost_ret (v := sv FF D) (by simp only [results, Try.results35]; go_simp <;> rfl) rfl HF.out
  | true =>
    have HFF2 := Lib.hid (HFF.out.trans (if_pos rfl))
    obtain ⟨⟨c0, c1, c2⟩, cl⟩ := HS1.out
    go_wp2_with fail
    clear c0 c1 c2 cl
    refine (HNE.out _).mono ?_
    rintro e w5 ⟨D, rfl, hn, hr, hb⟩
    rw [← HFF2.out] at hr ⊢
    have HN := Lib.hid (hn.low (show r + 1 ≤ _ from H1.out.rb.lt))
    have HRZ := Lib.hid (show r < w5.heap.size from Nat.lt_of_lt_of_le H1.out.rb.lt hb.size)
    have HA := (Below.refl w5.heap.size w5).alloc (Nat.le_refl _) (.cells #[.bool FF.lv, .int .i64 FF.lo, .int .i64 FF.hi, .slice D.A FF.cs.length D.c, .int .i64 FF.hd, .int .i64 FF.sz, .slice D.A2 FF.l.length D.c2, .slice D.A3 FF.h.length D.c3] 85)
    have H2 := Lib.hid ((H1.out.below hb).below HA)
    have HB2 := Lib.hid (SB8.start w5 FF D 85)
    have HR2 := Lib.hid (hr.up HA)
    clear hn hr hb HA H1 HS1 HFF HFF2
    go_upto_region 6 with (fail)
    obtain ⟨z, hz⟩ : ∃ p, p = w5.heap.size := ⟨_, rfl⟩
    rw [← hz] at HB2 HRZ ⊢
    clear hz
    generalize w5.alloc (.cells #[.bool FF.lv, .int .i64 FF.lo, .int .i64 FF.hi, .slice D.A FF.cs.length D.c, .int .i64 FF.hd, .int .i64 FF.sz, .slice D.A2 FF.l.length D.c2, .slice D.A3 FF.h.length D.c3] 85) = w6 at *
    obtain ⟨c0, c1, c2, c3, c4, c5, c6, c7, cl⟩ := HB2.out.facts
    obtain ⟨r0, r1, r2, r3, r4, r5, r6, r7, rl⟩ := H2.out.rb.facts
    obtain ⟨f0, f1, f2, f3, f4, f5, f6, f7⟩ := H2.out.rb.free
    have n1 : ¬ z = r := by have := HRZ.out; omega
    have n2 : ¬ r = z := by have := HRZ.out; omega
    have HF := Lib.hid (sv_out H2.out.rn H2.out.da.bel HN.out HR2.out)
    go_wp2
    exact bodyPost_ret (v := sv FF D) (by simp only [results, Try.results35]; go_simp <;> rfl) rfl HF.out
end Go.Proofs.Ytijpflljopckiaa
namespace Go.Proofs.Ytijpflljopckiaa
open Go.RowKit
set_option linter.unusedVariables false

/-- A setup. -/
structure Su where
  sl : Int
  lv : Int
  cp : Int
  dd : Int
  lm : Int
  ck : Int
  ni : Int
  ep : Int
def zSu : Su := ⟨0, 0, 0, 0, 0, 0, 0, 0⟩
abbrev Su.v (s : Su) : Value := .agg #[.int .i64 s.sl, .int .i64 s.lv, .int .i64 s.cp, .int .i64 s.dd, .int .i64 s.lm, .int .i64 s.ck, .int .i64 s.ni, .int .i64 s.ep]
/-- Its numbers are in their ranges. -/
def Su.Ok (s : Su) : Prop := (1 ≤ s.sl ∧ s.sl ≤ 6) ∧ (1 ≤ s.lv ∧ s.lv ≤ s.sl) ∧ (1 ≤ s.cp ∧ s.cp ≤ 12) ∧ (1 ≤ s.dd ∧ s.dd ≤ 24) ∧ (1 ≤ s.lm ∧ s.lm ≤ 8) ∧ (0 ≤ s.ck ∧ s.ck ≤ 1073741824) ∧ (1 ≤ s.ni ∧ s.ni ≤ 1073741824) ∧ (0 ≤ s.ep ∧ s.ep ≤ 65536)
instance (s : Su) : Decidable s.Ok := by unfold Su.Ok; infer_instance
/-- Block p holds a setup, and may be written. -/
abbrev KSu (p : Nat) (s : Su) (W : World) : Prop := W.cell? ⟨p, 0, none⟩ = some (.int .i64 s.sl) ∧ W.cell? ⟨p, 1, none⟩ = some (.int .i64 s.lv) ∧ W.cell? ⟨p, 2, none⟩ = some (.int .i64 s.cp) ∧ W.cell? ⟨p, 3, none⟩ = some (.int .i64 s.dd) ∧ W.cell? ⟨p, 4, none⟩ = some (.int .i64 s.lm) ∧ W.cell? ⟨p, 5, none⟩ = some (.int .i64 s.ck) ∧ W.cell? ⟨p, 6, none⟩ = some (.int .i64 s.ni) ∧ W.cell? ⟨p, 7, none⟩ = some (.int .i64 s.ep)
structure SuB (W : World) (p : Nat) (s : Su) : Prop where
  k : KSu p s W
  fr : ∀ o, W.frozen? ⟨p, o, none⟩ = false
  lt : p < W.heap.size
section
variable {W W' : World} {p g : Nat} {s : Su}
theorem SuB.keep (h : SuB W p s) (hc : ∀ o, W'.cell? ⟨p, o, none⟩ = W.cell? ⟨p, o, none⟩) (hf : ∀ o, W'.frozen? ⟨p, o, none⟩ = W.frozen? ⟨p, o, none⟩) (hs : W.heap.size ≤ W'.heap.size) : SuB W' p s := by
  obtain ⟨⟨k0, k1, k2, k3, k4, k5, k6, k7⟩, fr, lt⟩ := h
  exact ⟨⟨(hc 0).trans k0, (hc 1).trans k1, (hc 2).trans k2, (hc 3).trans k3, (hc 4).trans k4, (hc 5).trans k5, (hc 6).trans k6, (hc 7).trans k7⟩, fun o => (hf o).trans (fr o), Nat.lt_of_lt_of_le lt hs⟩
theorem SuB.up (h : SuB W p s) (hb : Below W.heap.size W W') : SuB W' p s := h.keep (fun o => hb.cell (p := ⟨p, o, none⟩) h.lt) (fun o => hb.frozen (p := ⟨p, o, none⟩) h.lt) hb.size
theorem SuB.alloc (h : SuB W p s) (o : Obj) : SuB (W.alloc o) p s := h.up ((Below.refl _ _).alloc (Nat.le_refl _) o)
theorem SuB.other (h : SuB W p s) {x : Addr} (hne : x.block ≠ p) (v : Value) : SuB (W.setCell x v) p s :=
  h.keep (fun o => World.cell?_setCell_other W x ⟨p, o, none⟩ v (fun e => hne (by rw [e]))) (fun o => by simp [go_sem]) (by simp)
theorem SuB.grown (h : SuB W p s) (hg : W.grownBy W' (some g)) (hne : p ≠ g) : SuB W' p s := h.keep (fun o => hg.cell_far ⟨p, o, none⟩ h.lt (fun e => by injection e with e; exact hne e)) (fun o => hg.frozen_far ⟨p, o, none⟩ h.lt (fun e => by injection e with e; exact hne e)) hg.size
theorem SuB.start (w : World) (s : Su) (t : TypeId) : SuB (w.alloc (.cells #[.int .i64 s.sl, .int .i64 s.lv, .int .i64 s.cp, .int .i64 s.dd, .int .i64 s.lm, .int .i64 s.ck, .int .i64 s.ni, .int .i64 s.ep] t)) w.heap.size s :=
  ⟨⟨by simp [go_sem], by simp [go_sem], by simp [go_sem], by simp [go_sem], by simp [go_sem], by simp [go_sem], by simp [go_sem], by simp [go_sem]⟩, fun o => by simp [go_sem], by simp⟩
theorem SuB.free (h : SuB W p s) : W.frozen? ⟨p, 0, none⟩ = false ∧ W.frozen? ⟨p, 1, none⟩ = false ∧ W.frozen? ⟨p, 2, none⟩ = false ∧ W.frozen? ⟨p, 3, none⟩ = false ∧ W.frozen? ⟨p, 4, none⟩ = false ∧ W.frozen? ⟨p, 5, none⟩ = false ∧ W.frozen? ⟨p, 6, none⟩ = false ∧ W.frozen? ⟨p, 7, none⟩ = false := ⟨h.fr 0, h.fr 1, h.fr 2, h.fr 3, h.fr 4, h.fr 5, h.fr 6, h.fr 7⟩
end
/-- The eight stores. -/
abbrev setS8 (W : World) (r : Nat) (s : Su) : World := (((((((W.setCell ⟨r, 0, none⟩ (.int .i64 s.sl)).setCell ⟨r, 1, none⟩ (.int .i64 s.lv)).setCell ⟨r, 2, none⟩ (.int .i64 s.cp)).setCell ⟨r, 3, none⟩ (.int .i64 s.dd)).setCell ⟨r, 4, none⟩ (.int .i64 s.lm)).setCell ⟨r, 5, none⟩ (.int .i64 s.ck)).setCell ⟨r, 6, none⟩ (.int .i64 s.ni)).setCell ⟨r, 7, none⟩ (.int .i64 s.ep)
/-- A source turned and a valid setup as a result: few slots, small capacities. -/
def SrSetup (B g : Nat) (w : World) (e : Ending) (w' : World) : Prop := ∃ s : Su, e = .returned s.v ∧ s.Ok ∧ SrcAt w' B g ∧ w.grownBy w' (some g)
/-- A source, the result's box, the setup's box. -/
structure SuAt (w : World) (B g r k : Nat) (s : Su) (W : World) : Prop where
  src : SrcAt W B g
  rb : SuB W r zSu
  kb : SuB W k s
  gr : w.grownBy W (some g)
  ne : g < w.heap.size ∧ w.heap.size ≤ r ∧ r < k
section
variable {w W W' : World} {B g r k : Nat} {s : Su}
theorem SuAt.turn (h : SuAt w B g r k s W) (hs : SrcAt W' B g) (hg : W.grownBy W' (some g)) : SuAt w B g r k s W' :=
  ⟨hs, h.rb.grown hg (by have := h.ne; omega), h.kb.grown hg (by have := h.ne; omega), h.gr.trans hg, h.ne⟩
theorem SuAt.put (h : SuAt w B g r k s W) {j : Nat} {x : Int} {s' : Su} (hk : SuB (W.setCell ⟨k, j, none⟩ (.int .i64 x)) k s') : SuAt w B g r k s' (W.setCell ⟨k, j, none⟩ (.int .i64 x)) := by
  have hn := h.ne
  have hB := h.src.1
  exact ⟨h.src.other (p := ⟨k, j, none⟩) (show k ≠ g by omega) (show B ≤ k by omega) _, h.rb.other (x := ⟨k, j, none⟩) (show k ≠ r by omega) _, hk, only_set h.gr (p := ⟨k, j, none⟩) (.inr (show w.heap.size ≤ k by omega)) _, h.ne⟩
theorem SuB.p1 (h : SuB W k s) (x : Int) : SuB (W.setCell ⟨k, 1, none⟩ (.int .i64 x)) k ⟨s.sl, x, s.cp, s.dd, s.lm, s.ck, s.ni, s.ep⟩ := by
  obtain ⟨⟨k0, k1, k2, k3, k4, k5, k6, k7⟩, fr, lt⟩ := h
  exact ⟨⟨by simp [go_sem, k0], by simp [go_sem, k1], by simp [go_sem, k2], by simp [go_sem, k3], by simp [go_sem, k4], by simp [go_sem, k5], by simp [go_sem, k6], by simp [go_sem, k7]⟩, fun o => by simp [go_sem, fr o], by simp [lt]⟩
theorem SuB.p5 (h : SuB W k s) (x : Int) : SuB (W.setCell ⟨k, 5, none⟩ (.int .i64 x)) k ⟨s.sl, s.lv, s.cp, s.dd, s.lm, x, s.ni, s.ep⟩ := by
  obtain ⟨⟨k0, k1, k2, k3, k4, k5, k6, k7⟩, fr, lt⟩ := h
  exact ⟨⟨by simp [go_sem, k0], by simp [go_sem, k1], by simp [go_sem, k2], by simp [go_sem, k3], by simp [go_sem, k4], by simp [go_sem, k5], by simp [go_sem, k6], by simp [go_sem, k7]⟩, fun o => by simp [go_sem, fr o], by simp [lt]⟩
theorem SuB.p6 (h : SuB W k s) (x : Int) : SuB (W.setCell ⟨k, 6, none⟩ (.int .i64 x)) k ⟨s.sl, s.lv, s.cp, s.dd, s.lm, s.ck, x, s.ep⟩ := by
  obtain ⟨⟨k0, k1, k2, k3, k4, k5, k6, k7⟩, fr, lt⟩ := h
  exact ⟨⟨by simp [go_sem, k0], by simp [go_sem, k1], by simp [go_sem, k2], by simp [go_sem, k3], by simp [go_sem, k4], by simp [go_sem, k5], by simp [go_sem, k6], by simp [go_sem, k7]⟩, fun o => by simp [go_sem, fr o], by simp [lt]⟩
theorem SuB.p7 (h : SuB W k s) (x : Int) : SuB (W.setCell ⟨k, 7, none⟩ (.int .i64 x)) k ⟨s.sl, s.lv, s.cp, s.dd, s.lm, s.ck, s.ni, x⟩ := by
  obtain ⟨⟨k0, k1, k2, k3, k4, k5, k6, k7⟩, fr, lt⟩ := h
  exact ⟨⟨by simp [go_sem, k0], by simp [go_sem, k1], by simp [go_sem, k2], by simp [go_sem, k3], by simp [go_sem, k4], by simp [go_sem, k5], by simp [go_sem, k6], by simp [go_sem, k7]⟩, fun o => by simp [go_sem, fr o], by simp [lt]⟩
theorem SuAt.out (h : SuAt w B g r k s W) (ho : s.Ok) : SrSetup B g w (.returned s.v) (setS8 W r s) := by
  have hn := h.ne
  have hB : B ≤ r := by have := h.src.1; omega
  have hg : r ≠ g := by omega
  exact ⟨s, rfl, ho, (((((((h.src.other (p := ⟨r, 0, none⟩) hg hB _).other (p := ⟨r, 1, none⟩) hg hB _).other (p := ⟨r, 2, none⟩) hg hB _).other (p := ⟨r, 3, none⟩) hg hB _).other (p := ⟨r, 4, none⟩) hg hB _).other (p := ⟨r, 5, none⟩) hg hB _).other (p := ⟨r, 6, none⟩) hg hB _).other (p := ⟨r, 7, none⟩) hg hB _,
    only_set (only_set (only_set (only_set (only_set (only_set (only_set (only_set h.gr (p := ⟨r, 0, none⟩) (.inr hn.2.1) _) (p := ⟨r, 1, none⟩) (.inr hn.2.1) _) (p := ⟨r, 2, none⟩) (.inr hn.2.1) _) (p := ⟨r, 3, none⟩) (.inr hn.2.1) _) (p := ⟨r, 4, none⟩) (.inr hn.2.1) _) (p := ⟨r, 5, none⟩) (.inr hn.2.1) _) (p := ⟨r, 6, none⟩) (.inr hn.2.1) _) (p := ⟨r, 7, none⟩) (.inr hn.2.1) _⟩
end
set_option maxHeartbeats 8000000 in
set_option maxRecDepth 20000 in
theorem setup_any (B g : Nat) (w : World) (h : SrcAt w B g) : Calls Try.prog 16 #[.pointer (some ⟨g, 0, none⟩)] w (SrSetup B g w) := by
  have HGW := Lib.hid (show g < w.heap.size from h.2.1)
  have HR0 := Lib.hid (SuB.start w zSu 41)
  have HS0 := Lib.hid (h.alloc (.cells #[.int .i64 0, .int .i64 0, .int .i64 0, .int .i64 0, .int .i64 0, .int .i64 0, .int .i64 0, .int .i64 0] 41))
  have HG0 := Lib.hid (only_alloc (World.grownBy.refl w (some g)) (.cells #[.int .i64 0, .int .i64 0, .int .i64 0, .int .i64 0, .int .i64 0, .int .i64 0, .int .i64 0, .int .i64 0] 41))
  obtain ⟨r, hr⟩ : ∃ r, r = w.heap.size := ⟨_, rfl⟩
  have HRG := Lib.hid (show w.heap.size ≤ r ∧ r ≠ g by have := h.2.1; omega)
  have HR0 := Lib.hid (show SuB (w.alloc (.cells #[.int .i64 0, .int .i64 0, .int .i64 0, .int .i64 0, .int .i64 0, .int .i64 0, .int .i64 0, .int .i64 0] 41)) r zSu by rw [hr]; exact HR0.out)
  clear h
  go_enter Try.func16, Try.ntmps16
  go_wp2_with fail
  rw [← hr]
  generalize w.alloc (.cells #[.int .i64 0, .int .i64 0, .int .i64 0, .int .i64 0, .int .i64 0, .int .i64 0, .int .i64 0, .int .i64 0] 41) = w1 at *
  clear hr
  refine (range_any B g _ HS0.out 1 4 (by omega) (by omega) (by omega)).mono ?_
  rintro e w2 ⟨a, rfl, a1, a2, hs, hg⟩
  have HA := Lib.hid (And.intro a1 a2)
  have HS2 := Lib.hid hs
  have HG2 := Lib.hid (HG0.out.trans hg)
  have HR2 := Lib.hid (HR0.out.grown hg HRG.out.2)
  clear hs hg a1 a2 HS0 HG0 HR0
  go_wp2_with fail
  refine (range_any B g _ HS2.out 1 5 (by omega) (by omega) (by omega)).mono ?_
  rintro e w3 ⟨b, rfl, b1, b2, hs, hg⟩
  have HB := Lib.hid (And.intro b1 b2)
  have HS3 := Lib.hid hs
  have HG3 := Lib.hid (HG2.out.trans hg)
  have HR3 := Lib.hid (HR2.out.grown hg HRG.out.2)
  clear hs hg b1 b2 HS2 HG2 HR2
  go_wp2_with fail
  refine (range_any B g _ HS3.out 1 4 (by omega) (by omega) (by omega)).mono ?_
  rintro e w4 ⟨c, rfl, c1, c2, hs, hg⟩
  have HC := Lib.hid (And.intro c1 c2)
  have HS4 := Lib.hid hs
  have HG4 := Lib.hid (HG3.out.trans hg)
  have HR4 := Lib.hid (HR3.out.grown hg HRG.out.2)
  clear hs hg c1 c2 HS3 HG3 HR3
  go_wp2_with fail
  refine (range_any B g _ HS4.out 1 3 (by omega) (by omega) (by omega)).mono ?_
  rintro e w5 ⟨d, rfl, d1, d2, hs, hg⟩
  have HT0 := Lib.hid (show SuAt w B g r w5.heap.size ⟨a, 0, b, c, d, 0, 1, 0⟩ (w5.alloc (.cells #[.int .i64 a, .int .i64 0, .int .i64 b, .int .i64 c, .int .i64 d, .int .i64 0, .int .i64 1, .int .i64 0] 41)) from
    ⟨hs.alloc _, (HR4.out.grown hg HRG.out.2).alloc _, SuB.start w5 ⟨a, 0, b, c, d, 0, 1, 0⟩ _, only_alloc (HG4.out.trans hg) _, HGW.out, HRG.out.1, (HR4.out.grown hg HRG.out.2).lt⟩)
  have HOK := Lib.hid (show (1 ≤ a ∧ a ≤ 4) ∧ (1 ≤ b ∧ b ≤ 5) ∧ (1 ≤ c ∧ c ≤ 4) ∧ (1 ≤ d ∧ d ≤ 3) from ⟨HA.out, HB.out, HC.out, d1, d2⟩)
  clear hs hg d1 d2 HS4 HG4 HR4 HA HB HC
  go_upto_region 2 with (fail)
  obtain ⟨k, hk⟩ : ∃ k, k = w5.heap.size := ⟨_, rfl⟩
  rw [← hk] at HT0 ⊢
  clear hk
  generalize w5.alloc (.cells #[.int .i64 a, .int .i64 0, .int .i64 b, .int .i64 c, .int .i64 d, .int .i64 0, .int .i64 1, .int .i64 0] 41) = w6 at *
  obtain ⟨k0, k1, k2, k3, k4, k5, k6, k7⟩ := HT0.out.kb.k
  have kl := HT0.out.kb.lt
  go_wp2_with fail
  clear k0 k1 k2 k3 k4 k5 k6 k7 kl
  refine (range_any B g _ HT0.out.src 1 a (by omega) HOK.out.1.1 (by have := HOK.out; omega)).mono ?_
  rintro e w7 ⟨m, rfl, m1, m2, hs, hg⟩
  have HM := Lib.hid (And.intro m1 m2)
  have HT1 := Lib.hid (HT0.out.turn hs hg)
  clear hs hg m1 m2 HT0
  have HT2 := Lib.hid (HT1.out.put (HT1.out.kb.p1 m))
  obtain ⟨k0, k1, k2, k3, k4, k5, k6, k7⟩ := HT1.out.kb.k
  obtain ⟨f0, f1, f2, f3, f4, f5, f6, f7⟩ := HT1.out.kb.free
  have kl := HT1.out.kb.lt
  go_upto_region 3 with (fail)
  clear k0 k1 k2 k3 k4 k5 k6 k7 kl f0 f1 f2 f3 f4 f5 f6 f7 HT1
  generalize w7.setCell ⟨k, 1, none⟩ (.int .i64 m) = w8 at *
  go_wp2_with fail
  refine (n_any B g _ HT2.out.src 12 (by omega) (by omega)).mono ?_
  rintro e w9 ⟨v, rfl, v0, v1, hs, hg⟩
  have HT := Lib.hid (HT2.out.turn hs hg)
  clear hs hg HT2
  have hrk := HT.out.ne
  by_cases h9 : v = 9
  · subst h9
    go_wp2_with fail
    refine (n_any B g _ HT.out.src 200 (by omega) (by omega)).mono ?_
    rintro e w10 ⟨x, rfl, x0, x1, hs, hg⟩
    have HX := Lib.hid (And.intro x0 x1)
    have HT3 := Lib.hid (HT.out.turn hs hg)
    have hwx : IntKind.i64.wrap (1073741824 - x) = 1073741824 - x := IntWalk.i64_in _ (by omega)
    have HT4 := Lib.hid (HT3.out.put (HT3.out.kb.p5 (1073741824 - x)))
    clear hs hg x0 x1 HT
    obtain ⟨k0, k1, k2, k3, k4, k5, k6, k7⟩ := HT3.out.kb.k
    obtain ⟨f0, f1, f2, f3, f4, f5, f6, f7⟩ := HT3.out.kb.free
    have kl := HT3.out.kb.lt
    go_upto_region 10 with (fail)
    clear k0 k1 k2 k3 k4 k5 k6 k7 kl f0 f1 f2 f3 f4 f5 f6 f7 HT3 hwx
    generalize w10.setCell ⟨k, 5, none⟩ (.int .i64 (1073741824 - x)) = w11 at *
    have HF := Lib.hid (HT4.out.out (by have h1 := HOK.out; have h2 := HM.out; unfold Su.Ok; dsimp only; have h3 := HX.out; omega))
    obtain ⟨k0, k1, k2, k3, k4, k5, k6, k7⟩ := HT4.out.kb.k
    obtain ⟨r0, r1, r2, r3, r4, r5, r6, r7⟩ := HT4.out.rb.k
    obtain ⟨f0, f1, f2, f3, f4, f5, f6, f7⟩ := HT4.out.rb.free
    have kl := HT4.out.kb.lt
    have rl := HT4.out.rb.lt
    have hkr : ¬ k = r := by omega
    have hrk2 : ¬ r = k := by omega
    dsimp only at k0 k1 k2 k3 k4 k5 k6 k7
    clear hrk
    go_wp2
    exact bodyPost_ret (v := (⟨a, m, b, c, d, 1073741824 - x, 1, 0⟩ : Su).v) (by simp only [results, Try.results16]; go_simp <;> rfl) rfl HF.out
  · by_cases h10 : v = 10
    · subst h10
      go_wp2_with fail
      refine (n_any B g _ HT.out.src 4 (by omega) (by omega)).mono ?_
      rintro e w10 ⟨x, rfl, x0, x1, hs, hg⟩
      have HX := Lib.hid (And.intro x0 x1)
      have HT3 := Lib.hid (HT.out.turn hs hg)
      have hwx : IntKind.i64.wrap (1073741824 - x) = 1073741824 - x := IntWalk.i64_in _ (by omega)
      have HT4 := Lib.hid (HT3.out.put (HT3.out.kb.p6 (1073741824 - x)))
      clear hs hg x0 x1 HT
      obtain ⟨k0, k1, k2, k3, k4, k5, k6, k7⟩ := HT3.out.kb.k
      obtain ⟨f0, f1, f2, f3, f4, f5, f6, f7⟩ := HT3.out.kb.free
      have kl := HT3.out.kb.lt
      go_upto_region 10 with (fail)
      clear k0 k1 k2 k3 k4 k5 k6 k7 kl f0 f1 f2 f3 f4 f5 f6 f7 HT3 hwx
      generalize w10.setCell ⟨k, 6, none⟩ (.int .i64 (1073741824 - x)) = w11 at *
      have HF := Lib.hid (HT4.out.out (by have h1 := HOK.out; have h2 := HM.out; unfold Su.Ok; dsimp only; have h3 := HX.out; omega))
      obtain ⟨k0, k1, k2, k3, k4, k5, k6, k7⟩ := HT4.out.kb.k
      obtain ⟨r0, r1, r2, r3, r4, r5, r6, r7⟩ := HT4.out.rb.k
      obtain ⟨f0, f1, f2, f3, f4, f5, f6, f7⟩ := HT4.out.rb.free
      have kl := HT4.out.kb.lt
      have rl := HT4.out.rb.lt
      have hkr : ¬ k = r := by omega
      have hrk2 : ¬ r = k := by omega
      dsimp only at k0 k1 k2 k3 k4 k5 k6 k7
      clear hrk
      go_wp2
      exact bodyPost_ret (v := (⟨a, m, b, c, d, 0, 1073741824 - x, 0⟩ : Su).v) (by simp only [results, Try.results16]; go_simp <;> rfl) rfl HF.out
    · by_cases h11 : v = 11
      · subst h11
        go_wp2_with fail
        refine (n_any B g _ HT.out.src 3 (by omega) (by omega)).mono ?_
        rintro e w10 ⟨x, rfl, x0, x1, hs, hg⟩
        have HX := Lib.hid (And.intro x0 x1)
        have HT3 := Lib.hid (HT.out.turn hs hg)
        have hwx : IntKind.i64.wrap (65536 - x) = 65536 - x := IntWalk.i64_in _ (by omega)
        have HT4 := Lib.hid (HT3.out.put (HT3.out.kb.p7 (65536 - x)))
        clear hs hg x0 x1 HT
        obtain ⟨k0, k1, k2, k3, k4, k5, k6, k7⟩ := HT3.out.kb.k
        obtain ⟨f0, f1, f2, f3, f4, f5, f6, f7⟩ := HT3.out.kb.free
        have kl := HT3.out.kb.lt
        go_upto_region 10 with (fail)
        clear k0 k1 k2 k3 k4 k5 k6 k7 kl f0 f1 f2 f3 f4 f5 f6 f7 HT3 hwx
        generalize w10.setCell ⟨k, 7, none⟩ (.int .i64 (65536 - x)) = w11 at *
        have HF := Lib.hid (HT4.out.out (by have h1 := HOK.out; have h2 := HM.out; unfold Su.Ok; dsimp only; have h3 := HX.out; omega))
        obtain ⟨k0, k1, k2, k3, k4, k5, k6, k7⟩ := HT4.out.kb.k
        obtain ⟨r0, r1, r2, r3, r4, r5, r6, r7⟩ := HT4.out.rb.k
        obtain ⟨f0, f1, f2, f3, f4, f5, f6, f7⟩ := HT4.out.rb.free
        have kl := HT4.out.kb.lt
        have rl := HT4.out.rb.lt
        have hkr : ¬ k = r := by omega
        have hrk2 : ¬ r = k := by omega
        dsimp only at k0 k1 k2 k3 k4 k5 k6 k7
        clear hrk
        go_wp2
        exact bodyPost_ret (v := (⟨a, m, b, c, d, 0, 1, 65536 - x⟩ : Su).v) (by simp only [results, Try.results16]; go_simp <;> rfl) rfl HF.out
      · have HF := Lib.hid (HT.out.out (by have h1 := HOK.out; have h2 := HM.out; unfold Su.Ok; dsimp only;  omega))
        obtain ⟨k0, k1, k2, k3, k4, k5, k6, k7⟩ := HT.out.kb.k
        obtain ⟨r0, r1, r2, r3, r4, r5, r6, r7⟩ := HT.out.rb.k
        obtain ⟨f0, f1, f2, f3, f4, f5, f6, f7⟩ := HT.out.rb.free
        have kl := HT.out.kb.lt
        have rl := HT.out.rb.lt
        have hkr : ¬ k = r := by omega
        have hrk2 : ¬ r = k := by omega
        dsimp only at k0 k1 k2 k3 k4 k5 k6 k7
        clear hrk
        go_wp2
        exact bodyPost_ret (v := (⟨a, m, b, c, d, 0, 1, 0⟩ : Su).v) (by simp only [results, Try.results16]; go_simp <;> rfl) rfl HF.out
end Go.Proofs.Ytijpflljopckiaa
namespace Go.Proofs.Ytijpflljopckiaa
open Go.RowKit
set_option linter.unusedVariables false

theorem awithin_any (n lo hi : Int) (w : World) : Calls Try.prog 63 #[.int .i64 n, .int .i64 lo, .int .i64 hi] w fun e w' => e = .returned (.bool (wi n lo hi)) ∧ w = w' := by
  by_cases h1 : lo ≤ n
  · by_cases h2 : n ≤ hi
    · have H := Lib.hid (wi_true h1 h2)
      go_enter Try.func63, Try.ntmps63
      go_wp2
      go_ret
      exact ⟨by rw [H.out]; rfl, rfl⟩
    · have H := Lib.hid (show wi n lo hi = false from decide_eq_false (fun h => h2 h.2))
      go_enter Try.func63, Try.ntmps63
      go_wp2
      go_ret
      exact ⟨by rw [H.out]; rfl, rfl⟩
  · have H := Lib.hid (show wi n lo hi = false from decide_eq_false (fun h => h1 h.1))
    go_enter Try.func63, Try.ntmps63
    go_wp2
    go_ret
    exact ⟨by rw [H.out]; rfl, rfl⟩

/-- Whether the numbers of a setup are in their ranges. -/
def suB (s : Su) : Bool := (((((((wi s.sl 1 6 && wi s.lv 1 s.sl) && wi s.cp 1 12) && wi s.dd 1 24) && wi s.lm 1 8) && wi s.ck 0 1073741824) && wi s.ni 1 1073741824) && wi s.ep 0 65536)
theorem suB_ok (s : Su) : suB s = decide s.Ok := by
  unfold suB wi Su.Ok
  rw [Bool.eq_iff_iff]
  simp only [Bool.and_eq_true, decide_eq_true_eq, and_assoc]
theorem suB_iff {s : Su} : suB s = true ↔ s.Ok := by rw [suB_ok, decide_eq_true_eq]
set_option maxHeartbeats 4000000 in
set_option maxRecDepth 20000 in
theorem isset_any (s : Su) (w : World) : Calls Try.prog 32 #[s.v] w fun e w' => e = .returned (.bool (suB s)) ∧ Below w.heap.size w w' := by
  have HWI := Lib.hid (fun n lo hi W => awithin_any n lo hi W)
  have HSB := Lib.hid (SuB.start w s 41)
  have HBL := Lib.hid ((Below.refl w.heap.size w).alloc (Nat.le_refl _) (.cells #[.int .i64 s.sl, .int .i64 s.lv, .int .i64 s.cp, .int .i64 s.dd, .int .i64 s.lm, .int .i64 s.ck, .int .i64 s.ni, .int .i64 s.ep] 41))
  obtain ⟨p, hp⟩ : ∃ p, p = w.heap.size := ⟨_, rfl⟩
  have HPP := Lib.hid hp
  clear hp
  obtain ⟨b0, hb0⟩ : ∃ b, b = wi s.sl 1 6 := ⟨_, rfl⟩
  have H0 := Lib.hid hb0.symm
  clear hb0
  obtain ⟨b1, hb1⟩ : ∃ b, b = wi s.lv 1 s.sl := ⟨_, rfl⟩
  have H1 := Lib.hid hb1.symm
  clear hb1
  obtain ⟨b2, hb2⟩ : ∃ b, b = wi s.cp 1 12 := ⟨_, rfl⟩
  have H2 := Lib.hid hb2.symm
  clear hb2
  obtain ⟨b3, hb3⟩ : ∃ b, b = wi s.dd 1 24 := ⟨_, rfl⟩
  have H3 := Lib.hid hb3.symm
  clear hb3
  obtain ⟨b4, hb4⟩ : ∃ b, b = wi s.lm 1 8 := ⟨_, rfl⟩
  have H4 := Lib.hid hb4.symm
  clear hb4
  obtain ⟨b5, hb5⟩ : ∃ b, b = wi s.ck 0 1073741824 := ⟨_, rfl⟩
  have H5 := Lib.hid hb5.symm
  clear hb5
  obtain ⟨b6, hb6⟩ : ∃ b, b = wi s.ni 1 1073741824 := ⟨_, rfl⟩
  have H6 := Lib.hid hb6.symm
  clear hb6
  obtain ⟨b7, hb7⟩ : ∃ b, b = wi s.ep 0 65536 := ⟨_, rfl⟩
  have H7 := Lib.hid hb7.symm
  clear hb7
  have HSU := Lib.hid (show suB s = (((((((b0 && b1) && b2) && b3) && b4) && b5) && b6) && b7) from by unfold suB; rw [H0.out, H1.out, H2.out, H3.out, H4.out, H5.out, H6.out, H7.out])
  go_enter Try.func32, Try.ntmps32
  go_wp2_with fail
  rw [← HPP.out] at HSB ⊢
  generalize w.alloc (.cells #[.int .i64 s.sl, .int .i64 s.lv, .int .i64 s.cp, .int .i64 s.dd, .int .i64 s.lm, .int .i64 s.ck, .int .i64 s.ni, .int .i64 s.ep] 41) = w0 at *
  obtain ⟨k0, k1, k2, k3, k4, k5, k6, k7⟩ := HSB.out.k
  have kl := HSB.out.lt
  go_wp2_with fail
  refine (HWI.out _ _ _ _).mono ?_
  rintro e w1 ⟨rfl, rfl⟩
  rw [H0.out]
  cases b0 with
  | false =>
    go_wp2
    go_ret
    exact ⟨by rw [HSU.out]; simp, HBL.out⟩
  | true =>
    go_wp2_with fail
    refine (HWI.out _ _ _ _).mono ?_
    rintro e w1 ⟨rfl, rfl⟩
    rw [H1.out]
    cases b1 with
    | false =>
      go_wp2
      go_ret
      exact ⟨by rw [HSU.out]; simp, HBL.out⟩
    | true =>
      go_wp2_with fail
      refine (HWI.out _ _ _ _).mono ?_
      rintro e w1 ⟨rfl, rfl⟩
      rw [H2.out]
      cases b2 with
      | false =>
        go_wp2
        go_ret
        exact ⟨by rw [HSU.out]; simp, HBL.out⟩
      | true =>
        go_wp2_with fail
        refine (HWI.out _ _ _ _).mono ?_
        rintro e w1 ⟨rfl, rfl⟩
        rw [H3.out]
        cases b3 with
        | false =>
          go_wp2
          go_ret
          exact ⟨by rw [HSU.out]; simp, HBL.out⟩
        | true =>
          go_wp2_with fail
          refine (HWI.out _ _ _ _).mono ?_
          rintro e w1 ⟨rfl, rfl⟩
          rw [H4.out]
          cases b4 with
          | false =>
            go_wp2
            go_ret
            exact ⟨by rw [HSU.out]; simp, HBL.out⟩
          | true =>
            go_wp2_with fail
            refine (HWI.out _ _ _ _).mono ?_
            rintro e w1 ⟨rfl, rfl⟩
            rw [H5.out]
            cases b5 with
            | false =>
              go_wp2
              go_ret
              exact ⟨by rw [HSU.out]; simp, HBL.out⟩
            | true =>
              go_wp2_with fail
              refine (HWI.out _ _ _ _).mono ?_
              rintro e w1 ⟨rfl, rfl⟩
              rw [H6.out]
              cases b6 with
              | false =>
                go_wp2
                go_ret
                exact ⟨by rw [HSU.out]; simp, HBL.out⟩
              | true =>
                go_wp2_with fail
                refine (HWI.out _ _ _ _).mono ?_
                rintro e w1 ⟨rfl, rfl⟩
                rw [H7.out]
                cases b7 with
                | false =>
                  go_wp2
                  go_ret
                  exact ⟨by rw [HSU.out]; simp, HBL.out⟩
                | true =>
                  go_wp2
                  go_ret
                  exact ⟨by rw [HSU.out]; rfl, HBL.out⟩
end Go.Proofs.Ytijpflljopckiaa
namespace Go.Proofs.Ytijpflljopckiaa
open Go.RowKit
set_option linter.unusedVariables false

theorem below4 {w W : World} {B r : Nat} (h : Below B w W) (hr : B ≤ r) (a b c d : Value) : Below B w ((((W.setCell ⟨r, 0, none⟩ a).setCell ⟨r, 1, none⟩ b).setCell ⟨r, 2, none⟩ c).setCell ⟨r, 3, none⟩ d) :=
  (((h.setCell (p := ⟨r, 0, none⟩) hr _).setCell (p := ⟨r, 1, none⟩) hr _).setCell (p := ⟨r, 2, none⟩) hr _).setCell (p := ⟨r, 3, none⟩) hr _
end Go.Proofs.Ytijpflljopckiaa
namespace Go.Proofs.Ytijpflljopckiaa
open Go.RowKit
set_option linter.unusedVariables false

/-- A list of messages beside the shard. -/
structure CtAt (w : World) (p : Nat) (S : Sh) (D : Sx) (v v' : Value) (L L' : List Msg) (W : World) : Prop where
  sa : SAt w p S D W
  ls : Ls W W.heap.size v L
  ls' : Ls W W.heap.size v' L'
theorem CtAt.below {w W W' : World} {p : Nat} {S : Sh} {D : Sx} {v v' : Value} {L L' : List Msg} (h : CtAt w p S D v v' L L' W) (hb : Below W.heap.size W W') : CtAt w p S D v v' L L' W' := ⟨h.sa.below hb, h.ls.upz hb, h.ls'.upz hb⟩
end Go.Proofs.Ytijpflljopckiaa
