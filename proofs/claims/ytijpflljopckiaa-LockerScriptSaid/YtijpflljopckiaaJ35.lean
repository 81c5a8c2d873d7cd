/- What is proved here: ref12.Same says yes to equal arenas; the methods of an atomic number, arena.swap by contracts; arena.rangeError, deadCell, lockError, ownerOf by contracts; (lemmas) what a change of an owner leaves of a copied arena; arena.TryLock by a contract. -/
import Derived.Test.YtijpflljopckiaaJ13
import Derived.Test.YtijpflljopckiaaJ33
import Derived.Test.YtijpflljopckiaaJ34
import Derived.Test.YtijpflljopckiaaJ26
import Derived.Deep.RegionHeld3
import Derived.Deep.DeepCutAuto
import Derived.Test.YtijpflljopckiaaJ02
import Derived.Test.YtijpflljopckiaaRows
import Derived.WalkKit
import Derived.Outline
import Derived.IntWalk
import Derived.Test.YtijpflljopckiaaJ12
import Derived.Laws.LoneSync
namespace Go.Proofs.Ytijpflljopckiaa
open Go.RowKit
set_option linter.unusedVariables false

/-- The slot at place k. -/
def og (l : List So) (k : Nat) : So := l.getD k ⟨0, zS⟩
theorem og_get {l : List So} {k : Nat} (h : k < l.length) : og l k = l[k] := by simp [og, List.getD, h]
theorem AR.at2 {W : World} {B : Nat} {a : Ar} {Y : Ax} {k : Nat} (h : AR W B a Y) (hk : k < a.sl.length) : ∃ (D : Sx) (b o : Nat), Y.A = some ⟨b, o, none⟩ ∧ b < B ∧ Q9 W b (o + k * 9) ⟨(og a.sl k).ow, (og a.sl k).sh, D⟩ ∧ SR W B (og a.sl k).sh D ∧ Y.q[k]? = some ⟨(og a.sl k).ow, (og a.sl k).sh, D⟩ := by
  obtain ⟨s, b, o, hq, hs, hA, hb, h9, hr⟩ := h.atg hk
  rw [og_get hk]
  obtain ⟨e1, e2⟩ := sl_so hs
  cases s with
  | mk x y z =>
    simp only at e1 e2
    subst e1 e2
    exact ⟨z, b, o, hA, hb, h9, hr, hq⟩
/-- Two equal arenas in boxes. -/
structure Ts12 (w : World) (p q : Nat) (a : Ar) (Y Z : Ax) (W : World) : Prop where
  pb : QB W p a Y
  qb : QB W q a Z
  pr : AR W W.heap.size a Y
  qr : AR W W.heap.size a Z
  bel : Below w.heap.size w W
section
variable {w W W' : World} {p q : Nat} {a : Ar} {Y Z : Ax}
theorem Ts12.below (h : Ts12 w p q a Y Z W) (hb : Below W.heap.size W W') : Ts12 w p q a Y Z W' := ⟨h.pb.up hb, h.qb.up hb, h.pr.up hb, h.qr.up hb, h.bel.trans (hb.mono h.bel.size)⟩
theorem Ts12.drew (h : Ts12 w p q a Y Z W) : Ts12 w p q a Y Z W.drew := h.below (Below.refl _ _).drew
theorem Ts12.start (w : World) (a : Ar) (Y Z : Ax) (hy : AR w w.heap.size a Y) (hz : AR w w.heap.size a Z) : Ts12 w w.heap.size (w.heap.size + 1) a Y Z ((w.alloc (.cells (acl a Y) 36)).alloc (.cells (acl a Z) 36)) := by
  have h1 := QB.start (w.alloc (.cells (acl a Y) 36)) a Z 36
  rw [show (w.alloc (.cells (acl a Y) 36)).heap.size = w.heap.size + 1 by simp] at h1
  exact ⟨(QB.start w a Y _).alloc _, h1, (hy.alloc _).alloc _, (hz.alloc _).alloc _, ((Below.refl _ _).alloc (Nat.le_refl _) _).alloc (by simp) _⟩
end
theorem q9_up {W W' : World} {b o : Nat} {s : Sl} (h : Q9 W b o s) (hl : b < W.heap.size) (hb : Below W.heap.size W W') : Q9 W' b o s := by
  have g : ∀ k, W'.cell? ⟨b, k, none⟩ = W.cell? ⟨b, k, none⟩ := fun k => hb.cell (p := ⟨b, k, none⟩) hl
  obtain ⟨k0, k1, k2, k3, k4, k5, k6, k7, k8⟩ := h
  exact ⟨(g _).trans k0, (g _).trans k1, (g _).trans k2, (g _).trans k3, (g _).trans k4, (g _).trans k5, (g _).trans k6, (g _).trans k7, (g _).trans k8⟩
/-- .. and a slot of each. -/
structure Tv12 (w : World) (p q : Nat) (a : Ar) (Y Z : Ax) (x y b o b' o' : Nat) (s s' : Sl) (W : World) : Prop where
  ts : Ts12 w p q a Y Z W
  ea : Y.A = some ⟨b, o, none⟩
  ez : Z.A = some ⟨b', o', none⟩
  ys : Q9 W b x s
  zs : Q9 W b' y s'
  bl : b < W.heap.size
  bl' : b' < W.heap.size
  sr : SR W W.heap.size s.sh s.sx
  sr' : SR W W.heap.size s'.sh s'.sx
abbrev C20 (p q : Nat) (n c n' c' x y b o b' o' : Nat) (s s' : Sl) (W : World) : Prop := (W.cell? ⟨p, 0, none⟩ = some (.slice (some ⟨b, o, none⟩) n c) ∧ W.cell? ⟨q, 0, none⟩ = some (.slice (some ⟨b', o', none⟩) n' c')) ∧ Q9 W b x s ∧ Q9 W b' y s'
section
variable {w W W' : World} {p q x y b o b' o' : Nat} {a : Ar} {Y Z : Ax} {s s' : Sl}
theorem Tv12.below (h : Tv12 w p q a Y Z x y b o b' o' s s' W) (hb : Below W.heap.size W W') : Tv12 w p q a Y Z x y b o b' o' s s' W' :=
  ⟨h.ts.below hb, h.ea, h.ez, q9_up h.ys h.bl hb, q9_up h.zs h.bl' hb, Nat.lt_of_lt_of_le h.bl hb.size, Nat.lt_of_lt_of_le h.bl' hb.size, h.sr.up hb, h.sr'.up hb⟩
theorem Tv12.drew (h : Tv12 w p q a Y Z x y b o b' o' s s' W) : Tv12 w p q a Y Z x y b o b' o' s s' W.drew := h.below (Below.refl _ _).drew
theorem Tv12.c (h : Tv12 w p q a Y Z x y b o b' o' s s' W) : C20 p q a.sl.length Y.c a.sl.length Z.c x y b o b' o' s s' W :=
  ⟨⟨by rw [← h.ea]; exact h.ts.pb.k.1, by rw [← h.ez]; exact h.ts.qb.k.1⟩, h.ys, h.zs⟩
end
set_option maxHeartbeats 8000000 in
set_option maxRecDepth 20000 in
theorem rsame12_yes (a : Ar) (Y Z : Ax) (w : World) (hy : AR w w.heap.size a Y) (hz : AR w w.heap.size a Z) (h100 : a.sl.length ≤ 1000) :
    Calls Try.prog 26 #[av a Y, av a Z] w fun e w' => e = .returned (.bool true) ∧ Below w.heap.size w w' := by
  have H0 := Lib.hid (Ts12.start w a Y Z hy hz)
  have HS1 := Lib.hid (fun p q W (k : Ts12 w p q a Y Z W) => rsame11_any Y.A2 Z.A2 a.st.length a.st.length Y.c2 Z.c2 a.st a.st W k.pr.tl k.qr.tl)
  have HS2 := Lib.hid (fun p q W (k : Ts12 w p q a Y Z W) => rsame8_yes a.cap Y.A3 Z.A3 a.dl.length a.dl.length Y.c3 Z.c3 a.dl W k.pr.ls k.qr.ls)
  have HS3 := Lib.hid (fun p q W (k : Ts12 w p q a Y Z W) => rsame10_yes a.dir Y.D Z.D W k.pr.dr k.qr.dr)
  rw [sm_self] at HS1
  have HLN := Lib.hid h100
  obtain ⟨p, hp⟩ : ∃ p, p = w.heap.size := ⟨_, rfl⟩
  obtain ⟨q, hq⟩ : ∃ q, q = w.heap.size + 1 := ⟨_, rfl⟩
  have HPP := Lib.hid (And.intro hp hq)
  clear hp hq hy hz h100
  go_enter Try.func26, Try.ntmps26
  go_upto_region 1 with (fail)
  rw [← HPP.out.2, ← HPP.out.1] at H0
  generalize (w.alloc (.cells (acl a Y) 36)).alloc (.cells (acl a Z) 36) = w1 at *
  rw [← HPP.out.2, ← HPP.out.1]
  obtain ⟨y0, y1, y2, y3, y4, y5, y6, y7, y8, y9, y10⟩ := H0.out.pb.k
  obtain ⟨z0, z1, z2, z3, z4, z5, z6, z7, z8, z9, z10⟩ := H0.out.qb.k
  have yl := H0.out.pb.lt
  have zl := H0.out.qb.lt
  go_wp2_with fail
  clear y0 y1 y2 y3 y4 y5 y6 y7 y8 y9 y10 yl z0 z1 z2 z3 z4 z5 z6 z7 z8 z9 z10 zl
  refine (HS1.out _ _ _ H0.out).mono ?_
  rintro e w2 ⟨rfl, hb⟩
  have H1 := Lib.hid (H0.out.below hb)
  clear hb H0
  obtain ⟨y0, y1, y2, y3, y4, y5, y6, y7, y8, y9, y10⟩ := H1.out.pb.k
  obtain ⟨z0, z1, z2, z3, z4, z5, z6, z7, z8, z9, z10⟩ := H1.out.qb.k
  have yl := H1.out.pb.lt
  have zl := H1.out.qb.lt
  go_wp2_with fail
  clear y0 y1 y2 y3 y4 y5 y6 y7 y8 y9 y10 yl z0 z1 z2 z3 z4 z5 z6 z7 z8 z9 z10 zl
  refine (HS2.out _ _ _ H1.out).mono ?_
  rintro e w3 ⟨rfl, hb⟩
  have H2 := Lib.hid (H1.out.below hb)
  clear hb H1
  obtain ⟨y0, y1, y2, y3, y4, y5, y6, y7, y8, y9, y10⟩ := H2.out.pb.k
  obtain ⟨z0, z1, z2, z3, z4, z5, z6, z7, z8, z9, z10⟩ := H2.out.qb.k
  have yl := H2.out.pb.lt
  have zl := H2.out.qb.lt
  go_wp2_with fail
  clear y0 y1 y2 y3 y4 y5 y6 y7 y8 y9 y10 yl z0 z1 z2 z3 z4 z5 z6 z7 z8 z9 z10 zl
  refine (HS3.out _ _ _ H2.out).mono ?_
  rintro e w4 ⟨rfl, hb⟩
  have H3 := Lib.hid (H2.out.below hb)
  clear hb H2 HS1 HS2 HS3
  obtain ⟨y0, y1, y2, y3, y4, y5, y6, y7, y8, y9, y10⟩ := H3.out.pb.k
  obtain ⟨z0, z1, z2, z3, z4, z5, z6, z7, z8, z9, z10⟩ := H3.out.qb.k
  have yl := H3.out.pb.lt
  have zl := H3.out.qb.lt
  go_wp2_with fail
  clear y0 y1 y2 y3 y4 y5 y6 y7 y8 y9 y10 yl z0 z1 z2 z3 z4 z5 z6 z7 z8 z9 z10 zl
  go_loopw [5] (fun iv wr => ∃ i : Nat, iv = .int .i64 i ∧ i ≤ a.sl.length ∧ Hid (Ts12 w p q a Y Z wr)) (fun iv _ => a.sl.length - (intOf iv).toNat)
  case atStart => exact ⟨0, rfl, Nat.zero_le _, H3⟩
  case round =>
    clear H3
    obtain ⟨i, rfl, hi, H⟩ := hrel
    obtain ⟨y0, y1, y2, y3, y4, y5, y6, y7, y8, y9, y10⟩ := H.out.pb.k
    have yl := H.out.pb.lt
    by_cases hlt : i < a.sl.length
    · have hlt' : (i : Int) < (a.sl.length : Int) := by omega
      have hw2 : IntKind.i64.wrap ((i : Int) + 1) = (i : Int) + 1 := IntWalk.i64_in _ (by have := HLN.out; omega)
      have hbb : ∃ (D E : Sx) (b o b' o' : Nat), Tv12 w p q a Y Z (o + i * 9) (o' + i * 9) b o b' o' ⟨(og a.sl i).ow, (og a.sl i).sh, D⟩ ⟨(og a.sl i).ow, (og a.sl i).sh, E⟩ wr := by
        obtain ⟨D, b, o, hA, hb, h9, hr, -⟩ := H.out.pr.at2 hlt
        obtain ⟨E, b', o', hA', hb', h9', hr', -⟩ := H.out.qr.at2 hlt
        exact ⟨D, E, b, o, b', o', H.out, hA, hA', h9, h9', hb, hb', hr, hr'⟩
      obtain ⟨D, E, b, o, b', o', hv⟩ := hbb
      have HM := Lib.hid hv.drew
      have HS := Lib.hid HM.out.c
      have HS7 := Lib.hid (fun W (k : Tv12 w p q a Y Z (o + i * 9) (o' + i * 9) b o b' o' ⟨(og a.sl i).ow, (og a.sl i).sh, D⟩ ⟨(og a.sl i).ow, (og a.sl i).sh, E⟩ W) => rsame7_yes (og a.sl i).sh D E W k.sr k.sr')
      clear hv H
      generalize og a.sl i = T at *
      obtain ⟨t, S⟩ := T
      simp only at HM HS HS7
      go_wp2
      trace_state
      go_region_held3 (fun W => C20 p q a.sl.length Y.c a.sl.length Z.c (o + i * 9) (o' + i * 9) b o b' o' ⟨t, S, D⟩ ⟨t, S, E⟩ W)
        (first | with_reducible exact HS.out)
        (first | (go_at_call 56; (with_reducible refine (HS7.out _ HM.out).mono ?_); rintro e w5 ⟨rfl, hb⟩; have HM := Lib.hid (HM.out.below hb); have HS := Lib.hid HM.out.c; clear hb))
      all_goals
        have HF := Lib.hid HM.out.ts
        clear HS HM HS7
        go_wp2
        go_roundw
        case rel => exact ⟨i + 1, by go_num, by omega, HF⟩
        case measure => simp [intOf]; omega
    · obtain rfl : i = a.sl.length := by omega
      go_wp2
      go_ret
      exact ⟨rfl, H.out.bel⟩
end Go.Proofs.Ytijpflljopckiaa
namespace Go.Proofs.Ytijpflljopckiaa
open Go.RowKit
set_option linter.unusedVariables false

set_option maxRecDepth 20000 in
theorem atstore_any (b : Nat) (x y : Int) (w : World) (hc : w.cell? ⟨b, 0, none⟩ = some (.int .i64 x)) (hz : w.frozen? ⟨b, 0, none⟩ = false) :
    Calls Try.prog 77 #[.pointer (some ⟨b, 0, none⟩), .int .i64 y] w fun e w' => e = .returned (.tuple #[]) ∧ w' = w.setCell ⟨b, 0, none⟩ (.int .i64 y) := by
  have hst := run_call_store (P := Try.prog) Try.func101 (by kernel_rfl) (by kernel_rfl) (by kernel_rfl) (by kernel_rfl) (k := .i64) (y := y) hc hz
  go_enter Try.func77, Try.ntmps77
  go_wp2
  first
    | go_end0
    | refine bodyPost_ret (results_none rfl _ _ _) rfl ?_
  all_goals exact ⟨rfl, rfl⟩
set_option maxRecDepth 20000 in
theorem atload_any (b : Nat) (x : Int) (w : World) (hc : w.cell? ⟨b, 0, none⟩ = some (.int .i64 x)) :
    Calls Try.prog 79 #[.pointer (some ⟨b, 0, none⟩)] w fun e w' => e = .returned (.int .i64 x) ∧ w' = w := by
  have hst := run_call_load (P := Try.prog) Try.func103 (by kernel_rfl) (by kernel_rfl) (by kernel_rfl) .i64 (by kernel_rfl) hc
  go_enter Try.func79, Try.ntmps79
  go_wp2
  go_ret
  exact ⟨rfl, rfl⟩
set_option maxRecDepth 20000 in
theorem atcas_any (b : Nat) (x o y : Int) (w : World) (hc : w.cell? ⟨b, 0, none⟩ = some (.int .i64 x)) (hz : w.frozen? ⟨b, 0, none⟩ = false) :
    Calls Try.prog 78 #[.pointer (some ⟨b, 0, none⟩), .int .i64 o, .int .i64 y] w fun e w' => e = .returned (.bool (decide (x = o))) ∧ w' = if x = o then w.setCell ⟨b, 0, none⟩ (.int .i64 y) else w := by
  by_cases h : x = o
  · subst h
    have hst := run_call_cas_hit (P := Try.prog) Try.func102 (by kernel_rfl) (by kernel_rfl) (by kernel_rfl) .i64 (by kernel_rfl) (y := y) hc hz
    rw [if_pos rfl, decide_eq_true rfl]
    go_enter Try.func78, Try.ntmps78
    go_wp2
    go_ret
    exact ⟨rfl, rfl⟩
  · have hst := run_call_cas_miss (P := Try.prog) Try.func102 (by kernel_rfl) (by kernel_rfl) (by kernel_rfl) .i64 (by kernel_rfl) (o := o) (y := y) hc hz h
    rw [if_neg h, decide_eq_false h]
    clear h
    go_enter Try.func78, Try.ntmps78
    go_wp2
    go_ret
    exact ⟨rfl, rfl⟩
/-- What a swap leaves: a number in a place, all else as it was. -/
def SwP (w : World) (p : Addr) (x o y : Int) (e : Ending) (w' : World) : Prop := e = .returned (.bool (decide (x = o))) ∧ ∃ w1, Below w.heap.size w w1 ∧ w' = w1.setCell p (.int .i64 (if x = o then y else x))
set_option maxHeartbeats 4000000 in
set_option maxRecDepth 20000 in
theorem swap_any (p : Addr) (x o y : Int) (w : World) (hc : w.cell? p = some (.int .i64 x)) (hz : w.frozen? p = false) (hp : p.block < w.heap.size) :
    Calls Try.prog 43 #[.pointer (some p), .int .i64 o, .int .i64 y] w (SwP w p x o y) := by
  have HC := Lib.hid (And.intro hc (And.intro hz hp))
  have HB0 := Lib.hid ((Below.refl w.heap.size w).alloc (Nat.le_refl _) (.cells #[.int .i64 0] 131))
  have HQ0 := Lib.hid (show (w.alloc (.cells #[.int .i64 0] 131)).cell? ⟨w.heap.size, 0, none⟩ = some (.int .i64 0) ∧ (w.alloc (.cells #[.int .i64 0] 131)).frozen? ⟨w.heap.size, 0, none⟩ = false from ⟨by simp [go_sem], by simp [go_sem]⟩)
  obtain ⟨q, hq⟩ : ∃ q, q = w.heap.size := ⟨_, rfl⟩
  have HQ := Lib.hid hq
  clear hc hz hp hq
  go_enter Try.func43, Try.ntmps43
  go_upto_region 2 with (fail)
  rw [← HQ.out] at HQ0 ⊢
  generalize w.alloc (.cells #[.int .i64 0] 131) = w1 at *
  have hc1 := (HB0.out.cell HC.out.2.2).trans HC.out.1
  go_wp2_with fail
  clear hc1
  refine (atstore_any q 0 x _ HQ0.out.1 HQ0.out.2).mono ?_
  rintro e w2 ⟨rfl, hw⟩
  have HB2 := Lib.hid (show Below w.heap.size w w2 from by rw [hw]; exact HB0.out.setCell (p := ⟨q, 0, none⟩) (show w.heap.size ≤ q from by rw [HQ.out]; exact Nat.le_refl _) _)
  have HQ2 := Lib.hid (show w2.cell? ⟨q, 0, none⟩ = some (.int .i64 x) ∧ w2.frozen? ⟨q, 0, none⟩ = false from by
    rw [hw]
    exact ⟨World.cell?_setCell_same' _ _ _ (by rw [HQ0.out.1]; rfl), by rw [World.frozen?_setCell]; exact HQ0.out.2⟩)
  clear hw HB0 HQ0
  go_wp2_with fail
  refine (atcas_any q x o y _ HQ2.out.1 HQ2.out.2).mono ?_
  rintro e w3 ⟨rfl, hw⟩
  obtain ⟨v, hv⟩ : ∃ v, v = if x = o then y else x := ⟨_, rfl⟩
  have HV := Lib.hid hv
  have HB3 := Lib.hid (show Below w.heap.size w w3 from by
    rw [hw]
    split
    · exact HB2.out.setCell (p := ⟨q, 0, none⟩) (show w.heap.size ≤ q from by rw [HQ.out]; exact Nat.le_refl _) _
    · exact HB2.out)
  have HQ3 := Lib.hid (show w3.cell? ⟨q, 0, none⟩ = some (.int .i64 v) from by
    rw [hw, hv]
    split
    · exact World.cell?_setCell_same' _ _ _ (by rw [HQ2.out.1]; rfl)
    · exact HQ2.out.1)
  clear hw hv HB2 HQ2
  obtain ⟨d, hd⟩ : ∃ d, d = decide (x = o) := ⟨_, rfl⟩
  rw [← hd]
  have HDD := Lib.hid hd
  clear hd
  go_wp2_with fail
  refine (atload_any q v _ HQ3.out).mono ?_
  rintro e w4 ⟨rfl, hw⟩
  replace hw := hw.symm
  subst hw
  have hc1 := (HB3.out.cell HC.out.2.2).trans HC.out.1
  have hz1 := (HB3.out.frozen HC.out.2.2).trans HC.out.2.1
  have HF := Lib.hid (show ∃ w1, Below w.heap.size w w1 ∧ w3.setCell p (.int .i64 v) = w1.setCell p (.int .i64 (if x = o then y else x)) from ⟨w3, HB3.out, by rw [HV.out]⟩)
  clear HB3 HQ3 HV
  go_wp2
  go_ret
  exact ⟨by rw [← HDD.out]; rfl, HF.out⟩
end Go.Proofs.Ytijpflljopckiaa
namespace Go.Proofs.Ytijpflljopckiaa
open Go.RowKit
set_option linter.unusedVariables false

/-- The error of a number out of a range. -/
def rgE (n lo hi : Int) : Int := if wi n lo hi = true then 0 else 1
theorem arange_any (n lo hi : Int) (w : World) : Calls Try.prog 71 #[.int .i64 n, .int .i64 lo, .int .i64 hi] w fun e w' => e = .returned (.int .i64 (rgE n lo hi)) ∧ w = w' := by
  have HW := Lib.hid (fun W => awithin_any n lo hi W)
  cases h : wi n lo hi with
  | true =>
    have HE := Lib.hid (show rgE n lo hi = 0 from if_pos h)
    rw [h] at HW
    clear h
    go_enter Try.func71, Try.ntmps71
    go_wp2_with fail
    refine (HW.out _).mono ?_
    rintro e w1 ⟨rfl, rfl⟩
    go_wp2
    go_ret
    exact ⟨by rw [HE.out]; rfl, rfl⟩
  | false =>
    have HE := Lib.hid (show rgE n lo hi = 1 from if_neg (by rw [h]; decide))
    rw [h] at HW
    clear h
    go_enter Try.func71, Try.ntmps71
    go_wp2_with fail
    refine (HW.out _).mono ?_
    rintro e w1 ⟨rfl, rfl⟩
    go_wp2
    go_ret
    exact ⟨by rw [HE.out]; rfl, rfl⟩
set_option maxHeartbeats 2000000 in
set_option maxRecDepth 20000 in
theorem adeadcell_any (a : Ar) (Y : Ax) (w : World) : Calls Try.prog 107 #[av a Y] w fun e w' => e = .returned (.int .i64 (a.sl.length : Int)) ∧ Below w.heap.size w w' := by
  have HB := Lib.hid (QB.start w a Y 36)
  have HW := Lib.hid ((Below.refl w.heap.size w).alloc (Nat.le_refl _) (.cells #[.slice Y.A a.sl.length Y.c, .slice Y.A2 a.st.length Y.c2, .int .i64 a.ow, .int .i64 a.cap, .slice Y.A3 a.dl.length Y.c3, .int .i64 a.dir.vn, .slice Y.D.A a.dir.l.length Y.D.c, .slice Y.D.A2 a.dir.F.length Y.D.c2, .int .i64 a.ep, .int .i64 a.ck, .int .i64 a.ni] 36))
  go_enter Try.func107, Try.ntmps107
  obtain ⟨y0, -⟩ := HB.out.k
  have yl := HB.out.lt
  go_wp2
  go_ret
  exact ⟨rfl, HW.out⟩
/-- The error of a cell and a task. -/
def lkE (n : Nat) (k t : Int) : Int := if wi k 0 n = true then rgE t 1 200 else 1
set_option maxHeartbeats 4000000 in
set_option maxRecDepth 20000 in
theorem alockerr_any (a : Ar) (Y : Ax) (k t : Int) (w : World) : Calls Try.prog 90 #[av a Y, .int .i64 k, .int .i64 t] w fun e w' => e = .returned (.int .i64 (lkE a.sl.length k t)) ∧ Below w.heap.size w w' := by
  have HB := Lib.hid (QB.start w a Y 36)
  have HW := Lib.hid ((Below.refl w.heap.size w).alloc (Nat.le_refl _) (.cells #[.slice Y.A a.sl.length Y.c, .slice Y.A2 a.st.length Y.c2, .int .i64 a.ow, .int .i64 a.cap, .slice Y.A3 a.dl.length Y.c3, .int .i64 a.dir.vn, .slice Y.D.A a.dir.l.length Y.D.c, .slice Y.D.A2 a.dir.F.length Y.D.c2, .int .i64 a.ep, .int .i64 a.ck, .int .i64 a.ni] 36))
  have HD := Lib.hid (fun W => adeadcell_any a Y W)
  have HR1 := Lib.hid (fun W => arange_any k 0 (a.sl.length : Int) W)
  have HR2 := Lib.hid (fun W => arange_any t 1 200 W)
  obtain ⟨E2, hE2⟩ : ∃ E, E = rgE t 1 200 := ⟨_, rfl⟩
  obtain ⟨LE, hLE⟩ : ∃ E, E = lkE a.sl.length k t := ⟨_, rfl⟩
  have HLE := Lib.hid (show LE = if wi k 0 a.sl.length = true then E2 else 1 from by rw [hLE, hE2]; rfl)
  rw [← hE2] at HR2
  rw [← hLE]
  obtain ⟨p, hp⟩ : ∃ p, p = w.heap.size := ⟨_, rfl⟩
  have HPP := Lib.hid hp
  clear hE2 hLE hp
  cases h : wi k 0 (a.sl.length : Int) with
  | true =>
    have HL2 := Lib.hid (HLE.out.trans (if_pos h))
    have HR1 := Lib.hid (show ∀ W, Calls Try.prog 71 #[.int .i64 k, .int .i64 0, .int .i64 (a.sl.length : Int)] W fun e w' => e = .returned (.int .i64 0) ∧ W = w' from fun W => by
      have h1 := HR1.out W
      rwa [show rgE k 0 (a.sl.length : Int) = 0 from if_pos h] at h1)
    clear h HLE
    go_enter Try.func90, Try.ntmps90
    obtain ⟨y0, y1, y2, y3, y4, y5, y6, y7, y8, y9, y10⟩ := HB.out.k
    have yl := HB.out.lt
    go_wp2_with fail
    clear y0 y1 y2 y3 y4 y5 y6 y7 y8 y9 y10 yl
    refine (HD.out _).mono ?_
    rintro e w2 ⟨rfl, hb⟩
    have HW2 := Lib.hid (HW.out.trans (hb.mono HW.out.size))
    clear hb
    go_wp2_with fail
    refine (HR1.out _).mono ?_
    rintro e w3 ⟨rfl, rfl⟩
    go_wp2_with fail
    refine (HR2.out _).mono ?_
    rintro e w4 ⟨rfl, rfl⟩
    go_wp2
    go_ret
    exact ⟨by rw [HL2.out]; rfl, HW2.out⟩
  | false =>
    have HL2 := Lib.hid (HLE.out.trans (if_neg (by rw [h]; decide)))
    have HR1 := Lib.hid (show ∀ W, Calls Try.prog 71 #[.int .i64 k, .int .i64 0, .int .i64 (a.sl.length : Int)] W fun e w' => e = .returned (.int .i64 1) ∧ W = w' from fun W => by
      have h1 := HR1.out W
      rwa [show rgE k 0 (a.sl.length : Int) = 1 from if_neg (by rw [h]; decide)] at h1)
    clear h HLE
    go_enter Try.func90, Try.ntmps90
    obtain ⟨y0, y1, y2, y3, y4, y5, y6, y7, y8, y9, y10⟩ := HB.out.k
    have yl := HB.out.lt
    go_wp2_with fail
    clear y0 y1 y2 y3 y4 y5 y6 y7 y8 y9 y10 yl
    refine (HD.out _).mono ?_
    rintro e w2 ⟨rfl, hb⟩
    have HW2 := Lib.hid (HW.out.trans (hb.mono HW.out.size))
    clear hb
    go_wp2_with fail
    refine (HR1.out _).mono ?_
    rintro e w3 ⟨rfl, rfl⟩
    go_wp2
    go_ret
    exact ⟨by rw [HL2.out]; rfl, HW2.out⟩
/-- The owner of a cell, the place where it lies, an arena with another owner of it. -/
def Ar.own (a : Ar) (k : Nat) : Int := if k = a.sl.length then a.ow else (og a.sl k).ow
def ownP (p b n k : Nat) : Addr := if k = n then ⟨p, 2, none⟩ else ⟨b, k * 9, none⟩
def Ar.setOwn (a : Ar) (k : Nat) (v : Int) : Ar := if k = a.sl.length then ⟨a.sl, a.st, v, a.cap, a.dl, a.dir, a.ep, a.ck, a.ni⟩ else ⟨a.sl.set k ⟨v, (og a.sl k).sh⟩, a.st, a.ow, a.cap, a.dl, a.dir, a.ep, a.ck, a.ni⟩
set_option maxHeartbeats 4000000 in
set_option maxRecDepth 20000 in
theorem aownerof_any (a : Ar) (Y : Ax) (p b k : Nat) (w : World) (hq : QB w p a Y) (hA : Y.A = some ⟨b, 0, none⟩) (hc : a.sl.length ≤ Y.c) (hk : k ≤ a.sl.length) (h1 : a.sl.length ≤ 1000) :
    Calls Try.prog 91 #[.pointer (some ⟨p, 0, none⟩), .int .i64 (k : Int)] w fun e w' => e = .returned (.pointer (some (ownP p b a.sl.length k))) ∧ Below w.heap.size w w' := by
  have HQ := Lib.hid hq
  have HD := Lib.hid (fun W => adeadcell_any a Y W)
  have HA := Lib.hid hA
  by_cases hkn : k = a.sl.length
  · have HP := Lib.hid (show ownP p b a.sl.length k = ⟨p, 2, none⟩ from if_pos hkn)
    have hk1 : ((k : Int) == (a.sl.length : Int)) = true := by simpa using (show (k : Int) = (a.sl.length : Int) by omega)
    clear hq hA hkn hk h1 hc
    go_enter Try.func91, Try.ntmps91
    obtain ⟨y0, y1, y2, y3, y4, y5, y6, y7, y8, y9, y10⟩ := HQ.out.k
    have yl := HQ.out.lt
    go_wp2_with fail
    refine (HD.out _).mono ?_
    rintro e w2 ⟨rfl, hb⟩
    have HB := Lib.hid hb
    clear hb y0 y1 y2 y3 y4 y5 y6 y7 y8 y9 y10
    go_wp2
    go_ret
    exact ⟨by rw [HP.out]; rfl, HB.out⟩
  · have HP := Lib.hid (show ownP p b a.sl.length k = ⟨b, k * 9, none⟩ from if_neg hkn)
    have hk1 : ((k : Int) == (a.sl.length : Int)) = false := by simpa using (show ¬ (k : Int) = (a.sl.length : Int) by omega)
    have hlt : k < a.sl.length := by omega
    have hlt' : (k : Int) < (a.sl.length : Int) := by omega
    clear hq hkn hk hA
    go_enter Try.func91, Try.ntmps91
    obtain ⟨y0, y1, y2, y3, y4, y5, y6, y7, y8, y9, y10⟩ := HQ.out.k
    have yl := HQ.out.lt
    go_wp2_with fail
    refine (HD.out _).mono ?_
    rintro e w2 ⟨rfl, hb⟩
    have HB := Lib.hid hb
    clear y0 y1 y2 y3 y4 y5 y6 y7 y8 y9 y10 yl
    obtain ⟨y0, -⟩ := (HQ.out.up hb).k
    have yl := (HQ.out.up hb).lt
    rw [HA.out] at y0
    clear hb
    go_wp2
    go_ret
    exact ⟨by rw [HP.out]; simp, HB.out⟩
end Go.Proofs.Ytijpflljopckiaa
namespace Go.Proofs.Ytijpflljopckiaa
open Go.RowKit
set_option linter.unusedVariables false

theorem qcs_setow (Q : List Sl) (i : Nat) (x v : Int) (S : Sh) (D : Sx) (h : Q[i]? = some ⟨x, S, D⟩) : (qcs Q).set (i * 9) (.int .i64 v) = qcs (Q.set i ⟨v, S, D⟩) := by
  induction Q generalizing i with
  | nil => simp at h
  | cons s Q ih =>
    cases i with
    | zero =>
      simp only [List.getElem?_cons_zero, Option.some.injEq] at h
      subst h
      rfl
    | succ i =>
      simp only [List.getElem?_cons_succ] at h
      rw [qcs_cons, List.set_cons_succ, qcs_cons, ← ih i h, show (i + 1) * 9 = 9 + i * 9 by omega, sl_app_set]
section
variable {w W W' : World} {p r b : Nat} {a : Ar} {Y : Ax}
/-- The place of an owner. -/
theorem Cb12.at_ (h : Cb12 w p r b a Y W) {k : Nat} (hk : k ≤ a.sl.length) : W.cell? (ownP p b a.sl.length k) = some (.int .i64 (a.own k)) ∧ W.frozen? (ownP p b a.sl.length k) = false ∧ (ownP p b a.sl.length k).block < W.heap.size := by
  unfold ownP Ar.own
  by_cases e : k = a.sl.length
  · rw [if_pos e, if_pos e]
    exact ⟨h.pb.k.2.2.1, h.pb.fr 2, h.pb.lt⟩
  · rw [if_neg e, if_neg e]
    have hl : k < Y.q.length := by rw [h.len]; omega
    have h9 := h.ro.q9 (List.getElem?_eq_getElem hl)
    have e2 : Y.q[k].ow = (og a.sl k).ow := by
      rw [og_get (show k < a.sl.length by omega)]
      have : a.sl[k]'(by omega) = Y.q[k].so := by simp [← h.so]
      rw [this]; rfl
    rw [← e2]
    exact ⟨h9.1, h.ro.f _, h.ro.lt⟩
/-- Another owner is stored. -/
theorem Cb12.own (h : Cb12 w p r b a Y W) {k : Nat} (hk : k ≤ a.sl.length) (v : Int) : ∃ Y' : Ax, Cb12 w p r b (a.setOwn k v) Y' (W.setCell (ownP p b a.sl.length k) (.int .i64 v)) ∧ ∀ lo, Y.nw lo → Y'.nw lo := by
  have hne := h.ne
  unfold ownP Ar.setOwn
  by_cases e : k = a.sl.length
  · rw [if_pos e, if_pos e]
    obtain ⟨k1, k2, k3, k4, k5, k6, k7⟩ := h.keep 2 (.int .i64 v)
    obtain ⟨⟨y0, y1, y2, y3, y4, y5, y6, y7, y8, y9, y10⟩, fr, lt⟩ := h.pb
    exact ⟨Y, ⟨⟨⟨by simp [go_sem, y0], by simp [go_sem, y1], by simp [go_sem, y2], by simp [go_sem, y3], by simp [go_sem, y4], by simp [go_sem, y5], by simp [go_sem, y6], by simp [go_sem, y7], by simp [go_sem, y8], by simp [go_sem, y9], by simp [go_sem, y10]⟩, fun o => by simp [go_sem, fr o], by simp [lt]⟩, k5, k6, h.ea, h.ec, h.so, fun t ht => ⟨k1 t ht, (h.sr t ht).2⟩, ⟨k2, h.tl.2⟩, ⟨k3, h.ls.2⟩, ⟨k4, h.dr.2⟩, h.ne, k7⟩, fun _ hn => hn⟩
  · rw [if_neg e, if_neg e]
    have hl : k < Y.q.length := by rw [h.len]; omega
    obtain ⟨t, ht⟩ : ∃ t, Y.q[k]? = some t := ⟨_, List.getElem?_eq_getElem hl⟩
    have e2 : t.sh = (og a.sl k).sh := by
      rw [og_get (show k < a.sl.length by omega)]
      have h1 : (Y.q.map Sl.so)[k]? = some t.so := by rw [List.getElem?_map, ht]; rfl
      rw [h.so] at h1
      obtain ⟨_, h2⟩ := List.getElem?_eq_some_iff.1 h1
      rw [h2]; rfl
    obtain ⟨x, S, D⟩ := t
    simp only at e2
    rw [← e2]
    have hm := h.sr _ (List.mem_of_getElem? ht)
    have h2 := h.ro.set (j := k * 9) (by rw [qcs_len]; omega) (.int .i64 v)
    rw [qcs_setow Y.q k x v S D ht] at h2
    have hpb := h.pb.other (x := ⟨b, k * 9, none⟩) (show b ≠ p by omega) (.int .i64 v)
    have hmem : ∀ s ∈ Y.q.set k ⟨v, S, D⟩, s ∈ Y.q ∨ s = ⟨v, S, D⟩ := fun s hs => by
      rcases List.mem_or_eq_of_mem_set hs with h1 | h1
      · exact .inl h1
      · exact .inr h1
    refine ⟨⟨Y.A, Y.c, Y.q.set k ⟨v, S, D⟩, Y.A2, Y.c2, Y.A3, Y.c3, Y.D⟩, ⟨⟨?_, hpb.fr, hpb.lt⟩, h.rb.other (x := ⟨b, k * 9, none⟩) (show b ≠ r by omega) _, h2, h.ea, by simpa using h.ec, ?_, fun s hs => ?_, ⟨(h.tl.1.offb (p := ⟨b, k * 9, none⟩) h.tl.2.1 _).more (by simp), h.tl.2⟩, ⟨(h.ls.1.offp (p := ⟨b, k * 9, none⟩) h.ls.2.1 _).more (by simp), h.ls.2⟩, ⟨(h.dr.1.offp (q := ⟨b, k * 9, none⟩) h.dr.2.1 _).more (by simp), h.dr.2⟩, h.ne, h.bel.setCell (p := ⟨b, k * 9, none⟩) (show w.heap.size ≤ b by omega) _⟩, fun lo hn => ⟨hn.n1, fun s hs => ?_, hn.n2, hn.n3, hn.n4⟩⟩
    · obtain ⟨y0, y1, y2, y3, y4, y5, y6, y7, y8, y9, y10⟩ := hpb.k
      exact ⟨by simpa using y0, y1, y2, y3, y4, y5, y6, y7, y8, y9, y10⟩
    · show (Y.q.set k ⟨v, S, D⟩).map Sl.so = a.sl.set k ⟨v, S⟩
      rw [List.map_set, h.so]
      rfl
    · rcases hmem s hs with h1 | rfl
      · exact ⟨((h.sr s h1).1.offp (p := ⟨b, k * 9, none⟩) (h.sr s h1).2.1 _).more (by simp), (h.sr s h1).2⟩
      · exact ⟨(hm.1.offp (p := ⟨b, k * 9, none⟩) hm.2.1 _).more (by simp), hm.2⟩
    · rcases hmem s hs with h1 | rfl
      · exact hn.ns s h1
      · exact (show D.nw lo from hn.ns ⟨x, S, D⟩ (List.mem_of_getElem? ht))
theorem QB.far11 {q : Nat} {a' : Ar} {Y' : Ax} (h : QB W q a Y) (hq : p ≠ q) : QB (set11 W p a' Y') q a Y :=
  ((((((((((h.other (x := ⟨p, 0, none⟩) hq _).other (x := ⟨p, 1, none⟩) hq _).other (x := ⟨p, 2, none⟩) hq _).other (x := ⟨p, 3, none⟩) hq _).other (x := ⟨p, 4, none⟩) hq _).other (x := ⟨p, 5, none⟩) hq _).other (x := ⟨p, 6, none⟩) hq _).other (x := ⟨p, 7, none⟩) hq _).other (x := ⟨p, 8, none⟩) hq _).other (x := ⟨p, 9, none⟩) hq _).other (x := ⟨p, 10, none⟩) hq _
/-- A copy is stored into the box of its original. -/
theorem Ci12.copied (h : Ci12 w p r a Y W) {Z : Ax} (hb : Below W.heap.size W W') (hn : Z.nw W.heap.size) (har : AR W' W'.heap.size a Z) (ea : Z.A = some ⟨b, 0, none⟩) (ec : a.sl.length ≤ Z.c ∧ Z.c ≤ maxLen) (hr : Rb W' b (qcs Z.q)) (o1 : ∀ t ∈ Z.q, SOff t.sh t.sx b) (o2 : OffB b a.st.length Z.A2) (o3 : OffB b a.dl.length Z.A3) (o4 : DOff a.dir Z.D b) : Cb12 w p r b a Z (set11 W' p a Z) := by
  have h' := h.below hb
  have hne := h.ne
  have hpl := h.pb.lt
  have hrl := h.rb.lt
  have hbl : W.heap.size ≤ b := hn.n1 _ ea
  have hp := hn.off (a := a) hpl
  have hrr := hn.off (a := a) hrl
  have h11 := (har.set11 hp a Z).more (B' := (set11 W' p a Z).heap.size) (by rw [set11_size]; exact Nat.le_refl _)
  exact ⟨h'.pb.set a Z, h'.rb.far11 (by omega), hr.set11 (by omega) a Z, ea, ec, har.so, fun t ht => ⟨h11.sr t ht, o1 t ht, hp.os t ht, hrr.os t ht⟩, ⟨h11.tl, o2, hp.o2, hrr.o2⟩, ⟨h11.ls, o3, hp.o3, hrr.o3⟩, ⟨h11.dr, o4, hp.o4, hrr.o4⟩, ⟨hne.1, hne.2, by omega⟩, set11_below h'.bel hne.1 a Z⟩
end
end Go.Proofs.Ytijpflljopckiaa
namespace Go.Proofs.Ytijpflljopckiaa
open Go.RowKit
set_option linter.unusedVariables false

/-- An arena, whether it was locked, and an error as a result: its lists are new. -/
def A3P (w : World) (a : Ar) (ok : Bool) (x : Int) (e : Ending) (w' : World) : Prop := ∃ Y, e = .returned (.tuple #[av a Y, .bool ok, .int .i64 x]) ∧ Y.nw w.heap.size ∧ AR w' w'.heap.size a Y ∧ Below w.heap.size w w'
theorem a3_out {w W : World} {r : Nat} {a : Ar} {Y : Ax} (hr : w.heap.size ≤ r) (hb : Below w.heap.size w W) (hn : Y.nw (r + 1)) (hs : AR W W.heap.size a Y) (ok : Bool) (x : Int) : A3P w a ok x (.returned (.tuple #[av a Y, .bool ok, .int .i64 x])) (set11 W r a Y) :=
  ⟨Y, rfl, hn.low (by omega), (hs.set11 (hn.off (Nat.lt_succ_self r)) a Y).more (by rw [set11_size]; exact Nat.le_refl _), set11_below hb hr a Y⟩
/-- What TryLock gives. -/
def tlA (a : Ar) (k t : Int) : Ar := if lkE a.sl.length k t = 0 then a.setOwn k.toNat (if a.own k.toNat = 0 then t else a.own k.toNat) else zA
def tlB (a : Ar) (k t : Int) : Bool := decide (lkE a.sl.length k t = 0 ∧ a.own k.toNat = 0)
set_option maxHeartbeats 8000000 in
set_option maxRecDepth 20000 in
theorem atrylock_any (a : Ar) (Y : Ax) (k t : Int) (w : World) (har : AR w w.heap.size a Y) (hf : a.Few) : Calls Try.prog 62 #[av a Y, .int .i64 k, .int .i64 t] w (A3P w (tlA a k t) (tlB a k t) (lkE a.sl.length k t)) := by
  obtain ⟨p, hp⟩ : ∃ p, p = w.heap.size := ⟨_, rfl⟩
  obtain ⟨r, hr⟩ : ∃ r, r = w.heap.size + 1 := ⟨_, rfl⟩
  have H0 := Lib.hid (show Ci12 w p r a Y _ from by rw [hr, hp]; exact Ci12.start har)
  have HPP := Lib.hid (And.intro hp hr)
  have HLK := Lib.hid (fun W => alockerr_any a Y k t W)
  have HCL := Lib.hid (fun W (k : Ci12 w p r a Y W) => aclone_any a Y W (k.ar.more k.bel.size) hf)
  have HFW := Lib.hid hf
  obtain ⟨E, hE⟩ : ∃ E, E = lkE a.sl.length k t := ⟨_, rfl⟩
  rw [← hE] at HLK ⊢
  obtain ⟨TA, hTA⟩ : ∃ A, A = tlA a k t := ⟨_, rfl⟩
  obtain ⟨TB, hTB⟩ : ∃ A, A = tlB a k t := ⟨_, rfl⟩
  have HTA := Lib.hid (show TA = if E = 0 then a.setOwn k.toNat (if a.own k.toNat = 0 then t else a.own k.toNat) else zA from by rw [hTA, hE]; rfl)
  have HTB := Lib.hid (show TB = decide (E = 0 ∧ a.own k.toNat = 0) from by rw [hTB, hE]; rfl)
  rw [← hTA, ← hTB]
  have HEE := Lib.hid hE
  clear hp hr har hf hTA hTB hE
  go_enter Try.func62, Try.ntmps62
  go_upto_region 1 with (fail)
  rw [← HPP.out.2, ← HPP.out.1]
  generalize (w.alloc (.cells #[.slice Y.A a.sl.length Y.c, .slice Y.A2 a.st.length Y.c2, .int .i64 a.ow, .int .i64 a.cap, .slice Y.A3 a.dl.length Y.c3, .int .i64 a.dir.vn, .slice Y.D.A a.dir.l.length Y.D.c, .slice Y.D.A2 a.dir.F.length Y.D.c2, .int .i64 a.ep, .int .i64 a.ck, .int .i64 a.ni] 36)).alloc (.cells #[.slice none 0 0, .slice none 0 0, .int .i64 0, .int .i64 0, .slice none 0 0, .int .i64 0, .slice none 0 0, .slice none 0 0, .int .i64 0, .int .i64 0, .int .i64 0] 36) = w1 at *
  obtain ⟨y0, y1, y2, y3, y4, y5, y6, y7, y8, y9, y10⟩ := H0.out.pb.k
  have yl := H0.out.pb.lt
  go_wp2_with fail
  clear y0 y1 y2 y3 y4 y5 y6 y7 y8 y9 y10 yl
  refine (HLK.out _).mono ?_
  rintro e w2 ⟨rfl, hb⟩
  have H1 := Lib.hid (H0.out.below hb)
  clear hb H0 HLK
  by_cases hE0 : E = 0
  · have HA2 := Lib.hid (HTA.out.trans (if_pos hE0))
    have HB2 := Lib.hid (show TB = decide (a.own k.toNat = 0) from by rw [HTB.out]; simp [hE0])
    obtain ⟨n, hn⟩ : ∃ n : Nat, n = k.toNat := ⟨_, rfl⟩
    have HN := Lib.hid (show k = (n : Int) ∧ n ≤ a.sl.length from by
      have h := HEE.out
      rw [hE0] at h
      unfold lkE at h
      by_cases hw : wi k 0 (a.sl.length : Int) = true
      · have := wi_of hw; omega
      · rw [if_neg hw] at h; exact absurd h (by decide))
    rw [← hn] at HA2 HB2
    clear HTA HTB HEE hn
    subst hE0
    obtain ⟨y0, y1, y2, y3, y4, y5, y6, y7, y8, y9, y10⟩ := H1.out.pb.k
    have yl := H1.out.pb.lt
    go_wp2_with fail
    clear y0 y1 y2 y3 y4 y5 y6 y7 y8 y9 y10 yl
    refine (HCL.out _ H1.out).mono ?_
    rintro e w3 ⟨Z, b, rfl, hnw, har, hb, ea, ec, hrow, o1, o2, o3, o4⟩
    have HC := Lib.hid (show Cb12 w p r b a Z (((((((((((w3.setCell ⟨p, 0, none⟩ (.slice Z.A a.sl.length Z.c)).setCell ⟨p, 1, none⟩ (.slice Z.A2 a.st.length Z.c2)).setCell ⟨p, 2, none⟩ (.int .i64 a.ow)).setCell ⟨p, 3, none⟩ (.int .i64 a.cap)).setCell ⟨p, 4, none⟩ (.slice Z.A3 a.dl.length Z.c3)).setCell ⟨p, 5, none⟩ (.int .i64 a.dir.vn)).setCell ⟨p, 6, none⟩ (.slice Z.D.A a.dir.l.length Z.D.c)).setCell ⟨p, 7, none⟩ (.slice Z.D.A2 a.dir.F.length Z.D.c2)).setCell ⟨p, 8, none⟩ (.int .i64 a.ep)).setCell ⟨p, 9, none⟩ (.int .i64 a.ck)).setCell ⟨p, 10, none⟩ (.int .i64 a.ni)) from H1.out.copied hb hnw har ea ec hrow o1 o2 o3 o4)
    have HNW := Lib.hid (hnw.low (show r + 1 ≤ _ from H1.out.rb.lt))
    have H2 := Lib.hid (H1.out.below hb)
    clear hnw har hb ea ec hrow o1 o2 o3 o4 H1 HCL
    obtain ⟨y0, y1, y2, y3, y4, y5, y6, y7, y8, y9, y10⟩ := H2.out.pb.k
    have yl := H2.out.pb.lt
    obtain ⟨f0, f1, f2, f3, f4, f5, f6, f7, f8, f9, f10⟩ := H2.out.pb.free
    go_upto_region 5 with (fail)
    clear y0 y1 y2 y3 y4 y5 y6 y7 y8 y9 y10 yl f0 f1 f2 f3 f4 f5 f6 f7 f8 f9 f10 H2
    generalize ((((((((((w3.setCell ⟨p, 0, none⟩ (.slice Z.A a.sl.length Z.c)).setCell ⟨p, 1, none⟩ (.slice Z.A2 a.st.length Z.c2)).setCell ⟨p, 2, none⟩ (.int .i64 a.ow)).setCell ⟨p, 3, none⟩ (.int .i64 a.cap)).setCell ⟨p, 4, none⟩ (.slice Z.A3 a.dl.length Z.c3)).setCell ⟨p, 5, none⟩ (.int .i64 a.dir.vn)).setCell ⟨p, 6, none⟩ (.slice Z.D.A a.dir.l.length Z.D.c)).setCell ⟨p, 7, none⟩ (.slice Z.D.A2 a.dir.F.length Z.D.c2)).setCell ⟨p, 8, none⟩ (.int .i64 a.ep)).setCell ⟨p, 9, none⟩ (.int .i64 a.ck)).setCell ⟨p, 10, none⟩ (.int .i64 a.ni) = w4 at *
    have hkn := HN.out.1
    have HOW := Lib.hid (aownerof_any a Z p b n w4 HC.out.pb HC.out.ea HC.out.ec.1 HN.out.2 HFW.out.sl.2)
    rw [← hkn] at HOW
    clear hkn
    go_wp2_with fail
    refine HOW.out.mono ?_
    rintro e w5 ⟨rfl, hb⟩
    have HC2 := Lib.hid (HC.out.below hb)
    obtain ⟨c1, c2, c3⟩ := HC2.out.at_ HN.out.2
    have HSW := Lib.hid (swap_any (ownP p b a.sl.length n) (a.own n) 0 t w5 c1 c2 c3)
    have HOK := Lib.hid (fun W (k : Cb12 w p r b a Z W) (v : Int) => k.own HN.out.2 v)
    obtain ⟨P, hP⟩ : ∃ P, P = ownP p b a.sl.length n := ⟨_, rfl⟩
    rw [← hP] at HSW HOK ⊢
    obtain ⟨x, hx⟩ : ∃ x, x = a.own n := ⟨_, rfl⟩
    rw [← hx] at HSW HA2 HB2
    clear hb c1 c2 c3 hP hx HOW HC
    go_wp2_with fail
    refine HSW.out.mono ?_
    rintro e w6 ⟨rfl, w7, hb, hw6⟩
    have HX := Lib.hid (show ∃ Y' : Ax, Cb12 w p r b TA Y' w6 ∧ Y'.nw (r + 1) from by
      obtain ⟨Y', h1, h2⟩ := HOK.out w7 (HC2.out.below hb) (if x = 0 then t else x)
      exact ⟨Y', by rw [hw6, HA2.out]; exact h1, h2 _ HNW.out⟩)
    rw [← HB2.out]
    clear hb hw6 HC2 HOK HSW HNW HA2 HB2
    obtain ⟨Y', hcb, hny⟩ := HX.out
    have HCB := Lib.hid hcb
    have HNY := Lib.hid hny
    clear hcb hny HX
    have HF := Lib.hid (a3_out (show w.heap.size ≤ r by have := HCB.out.ne; omega) HCB.out.bel HNY.out HCB.out.ar TB 0)
    obtain ⟨y0, y1, y2, y3, y4, y5, y6, y7, y8, y9, y10⟩ := HCB.out.pb.k
    have yl := HCB.out.pb.lt
    obtain ⟨r0, r1, r2, r3, r4, r5, r6, r7, r8, r9, r10⟩ := HCB.out.rb.k
    have rl := HCB.out.rb.lt
    obtain ⟨f0, f1, f2, f3, f4, f5, f6, f7, f8, f9, f10⟩ := HCB.out.rb.free
    have hpr : ¬ p = r := by have := HCB.out.ne; omega
    have hrp : ¬ r = p := fun e => hpr e.symm
    clear HCB HNY
    go_wp2
    exact bodyPost_ret (v := .tuple #[av TA Y', .bool TB, .int .i64 0]) (by simp only [results, Try.results62]; go_simp <;> rfl) rfl HF.out
  · have hne : (E != 0) = true := bne_iff_ne.2 hE0
    have HA2 := Lib.hid (HTA.out.trans (if_neg hE0))
    have HB2 := Lib.hid (show TB = false from by rw [HTB.out]; simp [hE0])
    have HF := Lib.hid (show A3P w TA TB E (.returned (.tuple #[.agg #[.slice none 0 0, .slice none 0 0, .int .i64 0, .int .i64 0, .slice none 0 0, .int .i64 0, .slice none 0 0, .slice none 0 0, .int .i64 0, .int .i64 0, .int .i64 0], .bool false, .int .i64 E])) (set11 w2 r zA zAx) from by
      rw [HA2.out, HB2.out]
      exact a3_out (show w.heap.size ≤ r by have := H1.out.ne; omega) H1.out.bel (zAx_nw _) AR.zero false E)
    obtain ⟨r0, r1, r2, r3, r4, r5, r6, r7, r8, r9, r10⟩ := H1.out.rb.k
    have rl := H1.out.rb.lt
    obtain ⟨f0, f1, f2, f3, f4, f5, f6, f7, f8, f9, f10⟩ := H1.out.rb.free
    clear HTA HTB HEE HA2 HB2 H1 HCL hE0
    go_wp2
    exact bodyPost_ret (v := .tuple #[.agg #[.slice none 0 0, .slice none 0 0, .int .i64 0, .int .i64 0, .slice none 0 0, .int .i64 0, .slice none 0 0, .slice none 0 0, .int .i64 0, .int .i64 0, .int .i64 0], .bool false, .int .i64 E]) (by simp only [results, Try.results62]; go_simp <;> rfl) rfl HF.out
end Go.Proofs.Ytijpflljopckiaa
