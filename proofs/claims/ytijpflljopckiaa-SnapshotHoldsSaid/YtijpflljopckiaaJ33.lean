/- What is proved here: '==' and '!=' of a lease and itself; ref07.Same of two shards of one content is true; ref12.Same says yes to equal arenas; the methods of an atomic number, arena.swap by contracts; arena.rangeError, deadCell, lockError, ownerOf by contracts. -/
import Derived.Test.YtijpflljopckiaaJ08
import Derived.Test.YtijpflljopckiaaJ02
import Derived.Laws.StructEq
import Derived.KernelRfl
import Derived.Test.YtijpflljopckiaaJ06
import Derived.Test.YtijpflljopckiaaJ03
import Derived.Test.YtijpflljopckiaaRows
import Derived.WalkKit
import Derived.Outline
import Derived.IntWalk
import Derived.Deep.QuietTactic
import Derived.BigQuiet
import Derived.Test.YtijpflljopckiaaJ10
import Derived.Test.YtijpflljopckiaaJ09
import Derived.Test.YtijpflljopckiaaJ25
import Derived.Test.YtijpflljopckiaaJ12
import Derived.Test.YtijpflljopckiaaJ13
import Derived.Test.YtijpflljopckiaaJ32
import Derived.Deep.RegionHeld3
import Derived.Deep.DeepCutAuto
import Derived.Laws.LoneSync
namespace Go.Proofs.Ytijpflljopckiaa
open Go.RowKit
set_option linter.unusedVariables false

theorem eqm_fuel (M : Msg) (f : Nat) (W : World) : (Op.equalIn (f + 2) 151 M.v M.v).run Try.prog W = .ok true W := by
  have u3 := Try.underlying3
  have u9 := Try.underlying9
  have hS : Try.prog.underlying 151 = some (.struct (Try.prog.fieldsOf 151)) := by kernel_rfl
  have hp : Try.prog.stoodInHeld 151 = false := by kernel_rfl
  rw [show f + 2 = (f + 1) + 1 from rfl, run_equalIn_agg W (f + 1) 151 _ _ hS hp]
  simp only [Program.fieldsOf, Try.underlying151]
  go_simp
theorem eql_in (x : Le) (W : World) : (Op.equalIn 10000 154 x.v x.v).run Try.prog W = .ok true W := by
  have u3 := Try.underlying3
  have hS : Try.prog.underlying 154 = some (.struct (Try.prog.fieldsOf 154)) := by kernel_rfl
  have hp : Try.prog.stoodInHeld 154 = false := by kernel_rfl
  have hM := fun W => eqm_fuel x.m 9997 W
  rw [show (10000 : Nat) = 9999 + 1 from rfl, run_equalIn_agg W 9999 154 _ _ hS hp]
  simp only [Program.fieldsOf, Try.underlying154]
  go_simp
theorem eql (x : Le) : ∀ W, (binOp .eql 154 x.v x.v).run Try.prog W = .ok (.bool true) W := fun W => by
  rw [run_eql_struct, eql_in]; rfl
end Go.Proofs.Ytijpflljopckiaa
namespace Go.Proofs.Ytijpflljopckiaa
open Go.RowKit
set_option linter.unusedVariables false

/-- Two boxes of shards, read only. -/
structure TwAt7 (w : World) (p q : Nat) (S : Sh) (D E : Sx) (W : World) : Prop where
  a : SAt w p S D W
  b : SAt w q S E W
theorem TwAt7.below {w W W' : World} {p q : Nat} {S : Sh} {D E : Sx} (h : TwAt7 w p q S D E W) (hb : Below W.heap.size W W') : TwAt7 w p q S D E W' := ⟨h.a.below hb, h.b.below hb⟩
theorem SAt.from7 {w w1 : World} {p : Nat} {S : Sh} {D : Sx} {W : World} (h : SAt w1 p S D W) (hw : Below w.heap.size w w1) : SAt w p S D W := ⟨h.s8, h.sr, h.off, hw.trans (h.bel.mono hw.size), Nat.le_trans hw.size h.old⟩
theorem TwAt7.start (w : World) (S : Sh) (D E : Sx) (hs : SR w w.heap.size S D) (ht : SR w w.heap.size S E) : TwAt7 w w.heap.size (w.heap.size + 1) S D E ((w.alloc (.cells #[.bool S.lv, .int .i64 S.lo, .int .i64 S.hi, .slice D.A S.cs.length D.c, .int .i64 S.hd, .int .i64 S.sz, .slice D.A2 S.l.length D.c2, .slice D.A3 S.h.length D.c3] 85)).alloc (.cells #[.bool S.lv, .int .i64 S.lo, .int .i64 S.hi, .slice E.A S.cs.length E.c, .int .i64 S.hd, .int .i64 S.sz, .slice E.A2 S.l.length E.c2, .slice E.A3 S.h.length E.c3] 85)) := by
  have hb := (Below.refl w.heap.size w).alloc (Nat.le_refl _) (.cells #[.bool S.lv, .int .i64 S.lo, .int .i64 S.hi, .slice D.A S.cs.length D.c, .int .i64 S.hd, .int .i64 S.sz, .slice D.A2 S.l.length D.c2, .slice D.A3 S.h.length D.c3] 85)
  have h1 := SAt.from7 (SAt.start 85 (ht.up hb)) hb
  rw [show (w.alloc (.cells #[.bool S.lv, .int .i64 S.lo, .int .i64 S.hi, .slice D.A S.cs.length D.c, .int .i64 S.hd, .int .i64 S.sz, .slice D.A2 S.l.length D.c2, .slice D.A3 S.h.length D.c3] 85)).heap.size = w.heap.size + 1 by simp] at h1
  exact ⟨(SAt.start 85 hs).alloc _, h1⟩
end Go.Proofs.Ytijpflljopckiaa
namespace Go.Proofs.Ytijpflljopckiaa
open Go.RowKit
set_option linter.unusedVariables false

/-- The slot at place k. -/
def og (l : List So) (k : Nat) : So := l.getD k ⟨0, zS⟩
theorem og_get {l : List So} {k : Nat} (h : k < l.length) : og l k = l[k] := by simp [og, List.getD, h]
theorem AR.at2 {W : World} {B : Nat} {a : Ar} {Y : Ax} {k : Nat} (h : AR W B a Y) (hk : k < a.sl.length) : ∃ (D : Sx) (b o : Nat), Y.A = some ⟨b, o, none⟩ ∧ b < B ∧ Q9 W b (o + k * 9) ⟨(og a.sl k).ow, (og a.sl k).sh, D⟩ ∧ SR W B (og a.sl k).sh D ∧ Y.q[k]? = some ⟨(og a.sl k).ow, (og a.sl k).sh, D⟩ := by
  obtain ⟨s, b, o, hq, hs, hA, hb, h9, hr⟩ := h.atg hk
  rw [og_get hk]
  obtain ⟨e1, e2⟩ := sl_so hs
  cases s with
  | mk x y z =>
    simp only at e1 e2
    subst e1 e2
    exact ⟨z, b, o, hA, hb, h9, hr, hq⟩
/-- Two equal arenas in boxes. -/
structure Ts12 (w : World) (p q : Nat) (a : Ar) (Y Z : Ax) (W : World) : Prop where
  pb : QB W p a Y
  qb : QB W q a Z
  pr : AR W W.heap.size a Y
  qr : AR W W.heap.size a Z
  bel : Below w.heap.size w W
section
variable {w W W' : World} {p q : Nat} {a : Ar} {Y Z : Ax}
theorem Ts12.below (h : Ts12 w p q a Y Z W) (hb : Below W.heap.size W W') : Ts12 w p q a Y Z W' := ⟨h.pb.up hb, h.qb.up hb, h.pr.up hb, h.qr.up hb, h.bel.trans (hb.mono h.bel.size)⟩
theorem Ts12.drew (h : Ts12 w p q a Y Z W) : Ts12 w p q a Y Z W.drew := h.below (Below.refl _ _).drew
theorem Ts12.start (w : World) (a : Ar) (Y Z : Ax) (hy : AR w w.heap.size a Y) (hz : AR w w.heap.size a Z) : Ts12 w w.heap.size (w.heap.size + 1) a Y Z ((w.alloc (.cells (acl a Y) 36)).alloc (.cells (acl a Z) 36)) := by
  have h1 := QB.start (w.alloc (.cells (acl a Y) 36)) a Z 36
  rw [show (w.alloc (.cells (acl a Y) 36)).heap.size = w.heap.size + 1 by simp] at h1
  exact ⟨(QB.start w a Y _).alloc _, h1, (hy.alloc _).alloc _, (hz.alloc _).alloc _, ((Below.refl _ _).alloc (Nat.le_refl _) _).alloc (by simp) _⟩
end
theorem q9_up {W W' : World} {b o : Nat} {s : Sl} (h : Q9 W b o s) (hl : b < W.heap.size) (hb : Below W.heap.size W W') : Q9 W' b o s := by
  have g : ∀ k, W'.cell? ⟨b, k, none⟩ = W.cell? ⟨b, k, none⟩ := fun k => hb.cell (p := ⟨b, k, none⟩) hl
  obtain ⟨k0, k1, k2, k3, k4, k5, k6, k7, k8⟩ := h
  exact ⟨(g _).trans k0, (g _).trans k1, (g _).trans k2, (g _).trans k3, (g _).trans k4, (g _).trans k5, (g _).trans k6, (g _).trans k7, (g _).trans k8⟩
/-- .. and a slot of each. -/
structure Tv12 (w : World) (p q : Nat) (a : Ar) (Y Z : Ax) (x y b o b' o' : Nat) (s s' : Sl) (W : World) : Prop where
  ts : Ts12 w p q a Y Z W
  ea : Y.A = some ⟨b, o, none⟩
  ez : Z.A = some ⟨b', o', none⟩
  ys : Q9 W b x s
  zs : Q9 W b' y s'
  bl : b < W.heap.size
  bl' : b' < W.heap.size
  sr : SR W W.heap.size s.sh s.sx
  sr' : SR W W.heap.size s'.sh s'.sx
abbrev C20 (p q : Nat) (n c n' c' x y b o b' o' : Nat) (s s' : Sl) (W : World) : Prop := (W.cell? ⟨p, 0, none⟩ = some (.slice (some ⟨b, o, none⟩) n c) ∧ W.cell? ⟨q, 0, none⟩ = some (.slice (some ⟨b', o', none⟩) n' c')) ∧ Q9 W b x s ∧ Q9 W b' y s'
section
variable {w W W' : World} {p q x y b o b' o' : Nat} {a : Ar} {Y Z : Ax} {s s' : Sl}
theorem Tv12.below (h : Tv12 w p q a Y Z x y b o b' o' s s' W) (hb : Below W.heap.size W W') : Tv12 w p q a Y Z x y b o b' o' s s' W' :=
  ⟨h.ts.below hb, h.ea, h.ez, q9_up h.ys h.bl hb, q9_up h.zs h.bl' hb, Nat.lt_of_lt_of_le h.bl hb.size, Nat.lt_of_lt_of_le h.bl' hb.size, h.sr.up hb, h.sr'.up hb⟩
theorem Tv12.drew (h : Tv12 w p q a Y Z x y b o b' o' s s' W) : Tv12 w p q a Y Z x y b o b' o' s s' W.drew := h.below (Below.refl _ _).drew
theorem Tv12.c (h : Tv12 w p q a Y Z x y b o b' o' s s' W) : C20 p q a.sl.length Y.c a.sl.length Z.c x y b o b' o' s s' W :=
  ⟨⟨by rw [← h.ea]; exact h.ts.pb.k.1, by rw [← h.ez]; exact h.ts.qb.k.1⟩, h.ys, h.zs⟩
end
end Go.Proofs.Ytijpflljopckiaa
namespace Go.Proofs.Ytijpflljopckiaa
open Go.RowKit
set_option linter.unusedVariables false

set_option maxRecDepth 20000 in
theorem atstore_any (b : Nat) (x y : Int) (w : World) (hc : w.cell? ⟨b, 0, none⟩ = some (.int .i64 x)) (hz : w.frozen? ⟨b, 0, none⟩ = false) :
    Calls Try.prog 77 #[.pointer (some ⟨b, 0, none⟩), .int .i64 y] w fun e w' => e = .returned (.tuple #[]) ∧ w' = w.setCell ⟨b, 0, none⟩ (.int .i64 y) := by
  have hst := run_call_store (P := Try.prog) Try.func101 (by kernel_rfl) (by kernel_rfl) (by kernel_rfl) (by kernel_rfl) (k := .i64) (y := y) hc hz
  go_enter Try.func77, Try.ntmps77
  go_wp2
  first
    | go_end0
    | refine bodyPost_ret (results_none rfl _ _ _) rfl ?_
  all_goals exact ⟨rfl, rfl⟩
set_option maxRecDepth 20000 in
theorem atload_any (b : Nat) (x : Int) (w : World) (hc : w.cell? ⟨b, 0, none⟩ = some (.int .i64 x)) :
    Calls Try.prog 79 #[.pointer (some ⟨b, 0, none⟩)] w fun e w' => e = .returned (.int .i64 x) ∧ w' = w := by
  have hst := run_call_load (P := Try.prog) Try.func103 (by kernel_rfl) (by kernel_rfl) (by kernel_rfl) .i64 (by kernel_rfl) hc
  go_enter Try.func79, Try.ntmps79
  go_wp2
  go_ret
  exact ⟨rfl, rfl⟩
set_option maxRecDepth 20000 in
theorem atcas_any (b : Nat) (x o y : Int) (w : World) (hc : w.cell? ⟨b, 0, none⟩ = some (.int .i64 x)) (hz : w.frozen? ⟨b, 0, none⟩ = false) :
    Calls Try.prog 78 #[.pointer (some ⟨b, 0, none⟩), .int .i64 o, .int .i64 y] w fun e w' => e = .returned (.bool (decide (x = o))) ∧ w' = if x = o then w.setCell ⟨b, 0, none⟩ (.int .i64 y) else w := by
  by_cases h : x = o
  · subst h
    have hst := run_call_cas_hit (P := Try.prog) Try.func102 (by kernel_rfl) (by kernel_rfl) (by kernel_rfl) .i64 (by kernel_rfl) (y := y) hc hz
    rw [if_pos rfl, decide_eq_true rfl]
    go_enter Try.func78, Try.ntmps78
    go_wp2
    go_ret
    exact ⟨rfl, rfl⟩
  · have hst := run_call_cas_miss (P := Try.prog) Try.func102 (by kernel_rfl) (by kernel_rfl) (by kernel_rfl) .i64 (by kernel_rfl) (o := o) (y := y) hc hz h
    rw [if_neg h, decide_eq_false h]
    clear h
    go_enter Try.func78, Try.ntmps78
    go_wp2
    go_ret
    exact ⟨rfl, rfl⟩
/-- What a swap leaves: a number in a place, all else as it was. -/
def SwP (w : World) (p : Addr) (x o y : Int) (e : Ending) (w' : World) : Prop := e = .returned (.bool (decide (x = o))) ∧ ∃ w1, Below w.heap.size w w1 ∧ w' = w1.setCell p (.int .i64 (if x = o then y else x))
set_option maxHeartbeats 4000000 in
set_option maxRecDepth 20000 in
theorem swap_any (p : Addr) (x o y : Int) (w : World) (hc : w.cell? p = some (.int .i64 x)) (hz : w.frozen? p = false) (hp : p.block < w.heap.size) :
    Calls Try.prog 43 #[.pointer (some p), .int .i64 o, .int .i64 y] w (SwP w p x o y) := by
  have HC := Lib.hid (And.intro hc (And.intro hz hp))
  have HB0 := Lib.hid ((Below.refl w.heap.size w).alloc (Nat.le_refl _) (.cells #[.int .i64 0] 131))
  have HQ0 := Lib.hid (show (w.alloc (.cells #[.int .i64 0] 131)).cell? ⟨w.heap.size, 0, none⟩ = some (.int .i64 0) ∧ (w.alloc (.cells #[.int .i64 0] 131)).frozen? ⟨w.heap.size, 0, none⟩ = false from ⟨by simp [go_sem], by simp [go_sem]⟩)
  obtain ⟨q, hq⟩ : ∃ q, q = w.heap.size := ⟨_, rfl⟩
  have HQ := Lib.hid hq
  clear hc hz hp hq
  go_enter Try.func43, Try.ntmps43
  go_upto_region 2 with (fail)
  rw [← HQ.out] at HQ0 ⊢
  generalize w.alloc (.cells #[.int .i64 0] 131) = w1 at *
  have hc1 := (HB0.out.cell HC.out.2.2).trans HC.out.1
  go_wp2_with fail
  clear hc1
  refine (atstore_any q 0 x _ HQ0.out.1 HQ0.out.2).mono ?_
  rintro e w2 ⟨rfl, hw⟩
  have HB2 := Lib.hid (show Below w.heap.size w w2 from by rw [hw]; exact HB0.out.setCell (p := ⟨q, 0, none⟩) (show w.heap.size ≤ q from by rw [HQ.out]; exact Nat.le_refl _) _)
  have HQ2 := Lib.hid (show w2.cell? ⟨q, 0, none⟩ = some (.int .i64 x) ∧ w2.frozen? ⟨q, 0, none⟩ = false from by
    rw [hw]
    exact ⟨World.cell?_setCell_same' _ _ _ (by rw [HQ0.out.1]; rfl), by rw [World.frozen?_setCell]; exact HQ0.out.2⟩)
  clear hw HB0 HQ0
  go_wp2_with fail
  refine (atcas_any q x o y _ HQ2.out.1 HQ2.out.2).mono ?_
  rintro e w3 ⟨rfl, hw⟩
  obtain ⟨v, hv⟩ : ∃ v, v = if x = o then y else x := ⟨_, rfl⟩
  have HV := Lib.hid hv
  have HB3 := Lib.hid (show Below w.heap.size w w3 from by
    rw [hw]
    split
    · exact HB2.out.setCell (p := ⟨q, 0, none⟩) (show w.heap.size ≤ q from by rw [HQ.out]; exact Nat.le_refl _) _
    · exact HB2.out)
  have HQ3 := Lib.hid (show w3.cell? ⟨q, 0, none⟩ = some (.int .i64 v) from by
    rw [hw, hv]
    split
    · exact World.cell?_setCell_same' _ _ _ (by rw [HQ2.out.1]; rfl)
    · exact HQ2.out.1)
  clear hw hv HB2 HQ2
  obtain ⟨d, hd⟩ : ∃ d, d = decide (x = o) := ⟨_, rfl⟩
  rw [← hd]
  have HDD := Lib.hid hd
  clear hd
  go_wp2_with fail
  refine (atload_any q v _ HQ3.out).mono ?_
  rintro e w4 ⟨rfl, hw⟩
  replace hw := hw.symm
  subst hw
  have hc1 := (HB3.out.cell HC.out.2.2).trans HC.out.1
  have hz1 := (HB3.out.frozen HC.out.2.2).trans HC.out.2.1
  have HF := Lib.hid (show ∃ w1, Below w.heap.size w w1 ∧ w3.setCell p (.int .i64 v) = w1.setCell p (.int .i64 (if x = o then y else x)) from ⟨w3, HB3.out, by rw [HV.out]⟩)
  clear HB3 HQ3 HV
  go_wp2
  go_ret
  exact ⟨by rw [← HDD.out]; rfl, HF.out⟩
end Go.Proofs.Ytijpflljopckiaa
namespace Go.Proofs.Ytijpflljopckiaa
open Go.RowKit
set_option linter.unusedVariables false

/-- The error of a number out of a range. -/
def rgE (n lo hi : Int) : Int := if wi n lo hi = true then 0 else 1
theorem arange_any (n lo hi : Int) (w : World) : Calls Try.prog 71 #[.int .i64 n, .int .i64 lo, .int .i64 hi] w fun e w' => e = .returned (.int .i64 (rgE n lo hi)) ∧ w = w' := by
  have HW := Lib.hid (fun W => awithin_any n lo hi W)
  cases h : wi n lo hi with
  | true =>
    have HE := Lib.hid (show rgE n lo hi = 0 from if_pos h)
    rw [h] at HW
    clear h
    go_enter Try.func71, Try.ntmps71
    go_wp2_with fail
    refine (HW.out _).mono ?_
    rintro e w1 ⟨rfl, rfl⟩
    go_wp2
    go_ret
    exact ⟨by rw [HE.out]; rfl, rfl⟩
  | false =>
    have HE := Lib.hid (show rgE n lo hi = 1 from if_neg (by rw [h]; decide))
    rw [h] at HW
    clear h
    go_enter Try.func71, Try.ntmps71
    go_wp2_with fail
    refine (HW.out _).mono ?_
    rintro e w1 ⟨rfl, rfl⟩
    go_wp2
    go_ret
    exact ⟨by rw [HE.out]; rfl, rfl⟩
/-- The owner of a cell, the place where it lies, an arena with another owner of it. -/
def Ar.own (a : Ar) (k : Nat) : Int := if k = a.sl.length then a.ow else (og a.sl k).ow
def ownP (p b n k : Nat) : Addr := if k = n then ⟨p, 2, none⟩ else ⟨b, k * 9, none⟩
def Ar.setOwn (a : Ar) (k : Nat) (v : Int) : Ar := if k = a.sl.length then ⟨a.sl, a.st, v, a.cap, a.dl, a.dir, a.ep, a.ck, a.ni⟩ else ⟨a.sl.set k ⟨v, (og a.sl k).sh⟩, a.st, a.ow, a.cap, a.dl, a.dir, a.ep, a.ck, a.ni⟩
end Go.Proofs.Ytijpflljopckiaa
