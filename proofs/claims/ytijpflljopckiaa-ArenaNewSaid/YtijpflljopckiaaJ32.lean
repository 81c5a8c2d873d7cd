/- What is proved here: a set of numbers that is kept as a map with bool elements: what a look-up gives, what a store leaves; dead.hasSameID by one contract; dead.isCapacity, dead.New, dead.Validate, dead.Room, dead.examine by contracts; (lemmas for) arena.New and ref12.New; (lemmas) an arena that is copied in its box: its slots' row, its other lists. -/
import Derived.Test.YtijpflljopckiaaRows
import Derived.Test.YtijpflljopckiaaJ02
import Derived.WalkKit
import Derived.Outline
import Derived.IntWalk
import Derived.Maps.OwnOps
import Derived.Maps.Views
import Derived.Carry
import Derived.Test.YtijpflljopckiaaJ31
import Derived.Test.YtijpflljopckiaaJ16
import Derived.Deep.DeepCutAuto
import Derived.Deep.RegionHeld3
import Derived.Test.YtijpflljopckiaaJ13
import Derived.Test.YtijpflljopckiaaJ18
namespace Go.Proofs.Ytijpflljopckiaa
open Go.RowKit
set_option linter.unusedVariables false

/-- Block b is the set of the numbers ks. -/
def MetAt (w : World) (b : Nat) (ks : List Int) : Prop := ∃ D : DataW Unit, w.ownsMap Try.prog 3 (plainElem Try.prog 4) b ks.length D ∧ Maps.IsMap D ∧ ∀ x : Int, D.atKey (.int .i64 x) (.lit (.bool false)) = .lit (.bool (ks.contains x))
theorem MetAt.lt {w : World} {b : Nat} {ks : List Int} (h : MetAt w b ks) : b < w.heap.size := by obtain ⟨D, ho, _⟩ := h; exact ho.lt
theorem MetAt.below {w w' : World} {b : Nat} {ks : List Int} (h : MetAt w b ks) (hb : Below w.heap.size w w') : MetAt w' b ks := by
  have hl := h.lt
  obtain ⟨D, ⟨es, clock, he, r⟩, hD, ha⟩ := h
  exact ⟨D, ⟨es, clock, (hb.block b hl).trans he, r⟩, hD, ha⟩
end Go.Proofs.Ytijpflljopckiaa
namespace Go.Proofs.Ytijpflljopckiaa
open Go.RowKit
set_option linter.unusedVariables false

/-- The IDs of the first k messages, the last one first. -/
def ids8 (l : List Msg) (k : Nat) : List Int := ((l.take k).map Msg.id).reverse
theorem ids8_succ {l : List Msg} {k : Nat} (h : k < l.length) : ids8 l (k + 1) = l[k].id :: ids8 l k := by
  unfold ids8
  rw [← List.take_append_getElem h, List.map_append, List.reverse_append]
  rfl
/-- The state of the loop. -/
structure HsAt (w : World) (B : Nat) (A : Option Addr) (c : Nat) (l : List Msg) (k : Nat) (W : World) : Prop where
  met : MetAt W B (ids8 l k)
  bel : Below w.heap.size w W
  old : w.heap.size ≤ B
  ls : Ls W w.heap.size (.slice A l.length c) l
  no : ∀ i j (hi : i < l.length) (hj : j < l.length), i < j → j < k → l[i].id ≠ l[j].id
theorem HsAt.below {w W W' : World} {B c k : Nat} {A : Option Addr} {l : List Msg} (h : HsAt w B A c l k W) (hb : Below W.heap.size W W') : HsAt w B A c l k W' :=
  ⟨h.met.below hb, h.bel.trans (hb.mono h.bel.size), h.old, h.ls.below (hb.mono h.bel.size), h.no⟩
theorem HsAt.put {w W W' : World} {B c k : Nat} {A : Option Addr} {l : List Msg} (h : HsAt w B A c l k W) (hk : k < l.length) (hm : MetAt W' B (l[k].id :: ids8 l k)) (hg : W.grownBy W' (some B)) (hn : ∀ i (hi : i < l.length), i < k → l[i].id ≠ l[k].id) : HsAt w B A c l (k + 1) W' :=
  ⟨by rw [ids8_succ hk]; exact hm, h.bel.grown hg h.bel.size (fun j hj => by cases hj; exact h.old), h.old, h.ls.growno h.bel.size hg (fun q e => by cases e; exact ob_ls h.ls h.old), fun i j hi hj hij hjk => by
    by_cases e : j = k
    · subst e; exact hn i hi hij
    · exact h.no i j hi hj hij (by omega)⟩
end Go.Proofs.Ytijpflljopckiaa
namespace Go.Proofs.Ytijpflljopckiaa
open Go.RowKit
set_option linter.unusedVariables false

theorem iscap8_any (n : Int) (w : World) : Calls Try.prog 66 #[.int .i64 n] w fun e w' => e = .returned (.bool (wi n 1 24)) ∧ w = w' := by
  by_cases h1 : 1 ≤ n
  · by_cases h2 : n ≤ 24
    · have HF := Lib.hid (wi_true h1 h2)
      go_enter Try.func66, Try.ntmps66
      go_wp2
      go_ret
      exact ⟨by rw [HF.out]; rfl, rfl⟩
    · have HF := Lib.hid (wi_high (lo := 1) (show (24 : Int) < n by omega))
      go_enter Try.func66, Try.ntmps66
      go_wp2
      go_ret
      exact ⟨by rw [HF.out]; rfl, rfl⟩
  · have HF := Lib.hid (wi_low (hi := 24) (show n < 1 by omega))
    go_enter Try.func66, Try.ntmps66
    go_wp2
    go_ret
    exact ⟨by rw [HF.out]; rfl, rfl⟩
/-- What New gives. -/
def nw8 (n : Int) : Int := if wi n 1 24 = true then n else 0
def nw8E (n : Int) : Int := if wi n 1 24 = true then 0 else 1
def N8 (w : World) (cap x : Int) (e : Ending) (w' : World) : Prop := e = .returned (.tuple #[.agg #[.int .i64 cap, .slice none 0 0], .int .i64 x]) ∧ Below w.heap.size w w'
theorem new8_any (n : Int) (w : World) : Calls Try.prog 34 #[.int .i64 n] w (N8 w (nw8 n) (nw8E n)) := by
  have HC := Lib.hid (fun W => iscap8_any n W)
  have HB := Lib.hid (Db8.fresh w 0 none 0 0 29)
  have HW := Lib.hid ((Below.refl w.heap.size w).alloc (Nat.le_refl _) (.cells #[.int .i64 0, .slice none 0 0] 29))
  cases h : wi n 1 24 with
  | true =>
    have HE := Lib.hid (show nw8 n = n ∧ nw8E n = 0 from ⟨if_pos h, if_pos h⟩)
    rw [h] at HC
    clear h
    go_enter Try.func34, Try.ntmps34
    go_wp2_with fail
    refine (HC.out _).mono ?_
    rintro e w1 ⟨rfl, rfl⟩
    obtain ⟨b0, b1, bl, f0, f1⟩ := HB.out.all
    go_wp2
    exact bodyPost_ret (v := .tuple #[.agg #[.int .i64 n, .slice none 0 0], .int .i64 0]) (by simp only [results, Try.results34]; go_simp <;> rfl) rfl ⟨by rw [HE.out.1, HE.out.2], (Below.refl _ _).alloc (Nat.le_refl _) _⟩
  | false =>
    have HE := Lib.hid (show nw8 n = 0 ∧ nw8E n = 1 from ⟨if_neg (by rw [h]; decide), if_neg (by rw [h]; decide)⟩)
    rw [h] at HC
    clear h
    go_enter Try.func34, Try.ntmps34
    go_wp2_with fail
    refine (HC.out _).mono ?_
    rintro e w1 ⟨rfl, rfl⟩
    obtain ⟨b0, b1, bl, f0, f1⟩ := HB.out.all
    go_wp2
    exact bodyPost_ret (v := .tuple #[.agg #[.int .i64 0, .slice none 0 0], .int .i64 1]) (by simp only [results, Try.results34]; go_simp <;> rfl) rfl ⟨by rw [HE.out.1, HE.out.2], (Below.refl _ _).alloc (Nat.le_refl _) _⟩
/-- A box of a store in a later world. -/
structure VaAt8 (w : World) (p : Nat) (cap : Int) (A : Option Addr) (c : Nat) (l : List Msg) (W : World) : Prop where
  db : Db8 W p cap A l.length c
  ls : Ls W w.heap.size (.slice A l.length c) l
  bel : Below w.heap.size w W
  old : w.heap.size ≤ p
section
variable {w W W' : World} {p c : Nat} {cap : Int} {A : Option Addr} {l : List Msg}
theorem VaAt8.below (h : VaAt8 w p cap A c l W) (hb : Below W.heap.size W W') : VaAt8 w p cap A c l W' :=
  ⟨h.db.up hb, h.ls.below (hb.mono h.bel.size), h.bel.trans (hb.mono h.bel.size), h.old⟩
theorem VaAt8.alloc (h : VaAt8 w p cap A c l W) (o : Obj) : VaAt8 w p cap A c l (W.alloc o) := h.below ((Below.refl _ _).alloc (Nat.le_refl _) o)
theorem VaAt8.here (h : VaAt8 w p cap A c l W) : Ls W W.heap.size (.slice A l.length c) l := h.ls.more h.bel.size
theorem VaAt8.start (t : TypeId) (cap : Int) (hv : Ls w w.heap.size (.slice A l.length c) l) : VaAt8 w w.heap.size cap A c l (w.alloc (.cells #[.int .i64 cap, .slice A l.length c] t)) :=
  ⟨Db8.fresh w cap A l.length c t, hv.alloc (Nat.le_refl _) _, (Below.refl _ _).alloc (Nat.le_refl _) _, Nat.le_refl _⟩
end
end Go.Proofs.Ytijpflljopckiaa
namespace Go.Proofs.Ytijpflljopckiaa
open Go.RowKit
set_option linter.unusedVariables false

/-- What New gives. -/
noncomputable def nwA (s : Su) : Ar := if suB s = true then grA s s.sl.toNat s.sl.toNat s.dd else zA
def nwAE (s : Su) : Int := if suB s = true then 0 else 1
theorem info_st12 : (Try.prog.info? 90).map (fun i => (i.zero, i.size, i.bytes)) = some (some (St.v zSt), 4, 32) := by kernel_rfl
theorem info_sl : (Try.prog.info? 88).map (fun i => (i.zero, i.size, i.bytes)) = some (some (Sl.v zSl), 9, 120) := by kernel_rfl
section
variable {W W' : World} {p : Nat} {a : Ar} {Y : Ax}
theorem QB.setDir (h : QB W p a Y) (d : Dd) (X : Dx) : QB (((W.setCell ⟨p, 5, none⟩ (.int .i64 d.vn)).setCell ⟨p, 6, none⟩ (.slice X.A d.l.length X.c)).setCell ⟨p, 7, none⟩ (.slice X.A2 d.F.length X.c2)) p ⟨a.sl, a.st, a.ow, a.cap, a.dl, d, a.ep, a.ck, a.ni⟩ ⟨Y.A, Y.c, Y.q, Y.A2, Y.c2, Y.A3, Y.c3, X⟩ := by
  obtain ⟨⟨k0, k1, k2, k3, k4, k5, k6, k7, k8, k9, k10⟩, fr, lt⟩ := h
  exact ⟨⟨by simp [go_sem, k0], by simp [go_sem, k1], by simp [go_sem, k2], by simp [go_sem, k3], by simp [go_sem, k4], by simp [go_sem, k5], by simp [go_sem, k6], by simp [go_sem, k7], by simp [go_sem, k8], by simp [go_sem, k9], by simp [go_sem, k10]⟩, fun o => by simp [go_sem, fr o], by simp [lt]⟩
theorem QB.setDead (h : QB W p a Y) (cap : Int) (l : List Msg) (A : Option Addr) (c : Nat) : QB ((W.setCell ⟨p, 3, none⟩ (.int .i64 cap)).setCell ⟨p, 4, none⟩ (.slice A l.length c)) p ⟨a.sl, a.st, a.ow, cap, l, a.dir, a.ep, a.ck, a.ni⟩ ⟨Y.A, Y.c, Y.q, Y.A2, Y.c2, A, c, Y.D⟩ := by
  obtain ⟨⟨k0, k1, k2, k3, k4, k5, k6, k7, k8, k9, k10⟩, fr, lt⟩ := h
  exact ⟨⟨by simp [go_sem, k0], by simp [go_sem, k1], by simp [go_sem, k2], by simp [go_sem, k3], by simp [go_sem, k4], by simp [go_sem, k5], by simp [go_sem, k6], by simp [go_sem, k7], by simp [go_sem, k8], by simp [go_sem, k9], by simp [go_sem, k10]⟩, fun o => by simp [go_sem, fr o], by simp [lt]⟩
end
/-- The box of a setup and the result's. -/
structure Pn12 (w : World) (p r : Nat) (s : Su) (W : World) : Prop where
  sb : SuB W p s
  rb : QB W r zA zAx
  ne : w.heap.size ≤ p ∧ p < r
  bel : Below w.heap.size w W
/-- .. and the arena's. -/
structure Py12 (w : World) (p r y : Nat) (s : Su) (a : Ar) (Y : Ax) (W : World) : Prop where
  pn : Pn12 w p r s W
  yb : QB W y a Y
  ry : r < y
section
variable {w W W' : World} {p r y : Nat} {s : Su} {a : Ar} {Y : Ax}
theorem Pn12.below (h : Pn12 w p r s W) (hb : Below W.heap.size W W') : Pn12 w p r s W' := ⟨h.sb.up hb, h.rb.up hb, h.ne, h.bel.trans (hb.mono h.bel.size)⟩
theorem Pn12.start (w : World) (s : Su) : Pn12 w w.heap.size (w.heap.size + 1) s ((w.alloc (.cells #[.int .i64 s.sl, .int .i64 s.lv, .int .i64 s.cp, .int .i64 s.dd, .int .i64 s.lm, .int .i64 s.ck, .int .i64 s.ni, .int .i64 s.ep] 41)).alloc (.cells #[.slice none 0 0, .slice none 0 0, .int .i64 0, .int .i64 0, .slice none 0 0, .int .i64 0, .slice none 0 0, .slice none 0 0, .int .i64 0, .int .i64 0, .int .i64 0] 36)) := by
  have h1 := QB.start (w.alloc (.cells #[.int .i64 s.sl, .int .i64 s.lv, .int .i64 s.cp, .int .i64 s.dd, .int .i64 s.lm, .int .i64 s.ck, .int .i64 s.ni, .int .i64 s.ep] 41)) zA zAx 36
  rw [show (w.alloc (.cells #[.int .i64 s.sl, .int .i64 s.lv, .int .i64 s.cp, .int .i64 s.dd, .int .i64 s.lm, .int .i64 s.ck, .int .i64 s.ni, .int .i64 s.ep] 41)).heap.size = w.heap.size + 1 by simp] at h1
  exact ⟨(SuB.start w s _).alloc _, h1, ⟨Nat.le_refl _, by omega⟩, ((Below.refl _ _).alloc (Nat.le_refl _) _).alloc (by simp) _⟩
theorem Pn12.other (h : Pn12 w p r s W) {x : Addr} (hx : r < x.block) (v : Value) : Pn12 w p r s (W.setCell x v) := by
  have hn := h.ne
  exact ⟨h.sb.other (x := x) (by omega) v, h.rb.other (x := x) (by omega) v, h.ne, h.bel.setCell (p := x) (by omega) v⟩
theorem Py12.below (h : Py12 w p r y s a Y W) (hb : Below W.heap.size W W') : Py12 w p r y s a Y W' := ⟨h.pn.below hb, h.yb.up hb, h.ry⟩
theorem Py12.dir (h : Py12 w p r y s a Y W) (d : Dd) (X : Dx) : Py12 w p r y s ⟨a.sl, a.st, a.ow, a.cap, a.dl, d, a.ep, a.ck, a.ni⟩ ⟨Y.A, Y.c, Y.q, Y.A2, Y.c2, Y.A3, Y.c3, X⟩ (((W.setCell ⟨y, 5, none⟩ (.int .i64 d.vn)).setCell ⟨y, 6, none⟩ (.slice X.A d.l.length X.c)).setCell ⟨y, 7, none⟩ (.slice X.A2 d.F.length X.c2)) :=
  ⟨((h.pn.other (x := ⟨y, 5, none⟩) h.ry _).other (x := ⟨y, 6, none⟩) h.ry _).other (x := ⟨y, 7, none⟩) h.ry _, h.yb.setDir d X, h.ry⟩
theorem Py12.dead (h : Py12 w p r y s a Y W) (cap : Int) : Py12 w p r y s ⟨a.sl, a.st, a.ow, cap, [], a.dir, a.ep, a.ck, a.ni⟩ ⟨Y.A, Y.c, Y.q, Y.A2, Y.c2, none, 0, Y.D⟩ ((W.setCell ⟨y, 3, none⟩ (.int .i64 cap)).setCell ⟨y, 4, none⟩ (.slice none 0 0)) :=
  ⟨(h.pn.other (x := ⟨y, 3, none⟩) h.ry _).other (x := ⟨y, 4, none⟩) h.ry _, h.yb.setDead cap [] none 0, h.ry⟩
theorem Py12.grow {c : Int} {X : Dx} (h : Py12 w p r y s ⟨[], [], 0, c, [], nwD s.sl s.lv, s.ep, s.ck, s.ni⟩ ⟨none, 0, [], none, 0, none, 0, X⟩ W) (hd : DR W W.heap.size (nwD s.sl s.lv) X) (hn : X.nw (r + 1) ∧ DOff (nwD s.sl s.lv) X y) : Gw12 w p r y s c 0 0 none 0 [] none 0 X W :=
  ⟨h.pn.sb, h.pn.rb, h.yb.k, h.yb.fr, h.yb.lt, World.ownsRow_nil _ _ _ _, World.ownsRow_nil _ _ _ _, rfl, by simp, hd, hn, fun b e => (by cases e), fun b e => (by cases e), ⟨h.pn.ne.1, h.pn.ne.2, h.ry⟩, h.pn.bel⟩
theorem ae_out {w W : World} {r y : Nat} {a : Ar} {Y : Ax} (hr : w.heap.size ≤ r) (hb : Below w.heap.size w W) (hn : Y.nw (y + 1)) (hry : r ≤ y) (hs : AR W W.heap.size a Y) (x : Int) : AE w a x (.returned (.tuple #[av a Y, .int .i64 x])) (set11 W r a Y) :=
  ⟨Y, rfl, hn.low (by omega), (hs.set11 (hn.off (by omega)) a Y).more (by rw [set11_size]; exact Nat.le_refl _), set11_below hb hr a Y⟩
end
end Go.Proofs.Ytijpflljopckiaa
namespace Go.Proofs.Ytijpflljopckiaa
open Go.RowKit
set_option linter.unusedVariables false

theorem sl_app_set (s : Sl) (X : List Value) (k : Nat) (v : Value) : (s.l ++ X).set (9 + k) v = s.l ++ X.set k v := by
  rw [List.set_append_right _ _ (by rw [Sl.l_len]; omega), Sl.l_len, Nat.add_sub_cancel_left]
theorem qcs_set (Q : List Sl) (i : Nat) (x : Int) (S : Sh) (D E : Sx) (h : Q[i]? = some ⟨x, S, D⟩) : (((((((((qcs Q).set (i * 9 + 1) (.bool S.lv)).set (i * 9 + 2) (.int .i64 S.lo)).set (i * 9 + 3) (.int .i64 S.hi)).set (i * 9 + 4) (.slice E.A S.cs.length E.c)).set (i * 9 + 5) (.int .i64 S.hd)).set (i * 9 + 6) (.int .i64 S.sz)).set (i * 9 + 7) (.slice E.A2 S.l.length E.c2)).set (i * 9 + 8) (.slice E.A3 S.h.length E.c3)) = qcs (Q.set i ⟨x, S, E⟩) := by
  induction Q generalizing i with
  | nil => simp at h
  | cons s Q ih =>
    cases i with
    | zero =>
      simp only [List.getElem?_cons_zero, Option.some.injEq] at h
      subst h
      rfl
    | succ i =>
      simp only [List.getElem?_cons_succ] at h
      have e : ∀ k, (i + 1) * 9 + k = 9 + (i * 9 + k) := fun k => by omega
      rw [qcs_cons, List.set_cons_succ, qcs_cons, ← ih i h, e 1, e 2, e 3, e 4, e 5, e 6, e 7, e 8, sl_app_set, sl_app_set, sl_app_set, sl_app_set, sl_app_set, sl_app_set, sl_app_set, sl_app_set]
/-- The eight stores of a shard from an offset on. -/
abbrev sets8 (W : World) (b o : Nat) (S : Sh) (E : Sx) : World := ((((((((W.setCell ⟨b, o + 1, none⟩ (.bool S.lv)).setCell ⟨b, o + 2, none⟩ (.int .i64 S.lo)).setCell ⟨b, o + 3, none⟩ (.int .i64 S.hi)).setCell ⟨b, o + 4, none⟩ (.slice E.A S.cs.length E.c)).setCell ⟨b, o + 5, none⟩ (.int .i64 S.hd)).setCell ⟨b, o + 6, none⟩ (.int .i64 S.sz)).setCell ⟨b, o + 7, none⟩ (.slice E.A2 S.l.length E.c2)).setCell ⟨b, o + 8, none⟩ (.slice E.A3 S.h.length E.c3))
section
variable {W W' : World} {b o : Nat} {S : Sh} {D E : Sx}
theorem Rb.sets8 {cs : List Value} (h : Rb W b cs) (ho : o + 8 < cs.length) : Rb (sets8 W b o S E) b ((((((((cs.set (o + 1) (.bool S.lv)).set (o + 2) (.int .i64 S.lo)).set (o + 3) (.int .i64 S.hi)).set (o + 4) (.slice E.A S.cs.length E.c)).set (o + 5) (.int .i64 S.hd)).set (o + 6) (.int .i64 S.sz)).set (o + 7) (.slice E.A2 S.l.length E.c2)).set (o + 8) (.slice E.A3 S.h.length E.c3)) := ((((((((h.set (j := o + 1) (by first | omega | (simp only [List.length_set]; omega)) (.bool S.lv)).set (j := o + 2) (by first | omega | (simp only [List.length_set]; omega)) (.int .i64 S.lo)).set (j := o + 3) (by first | omega | (simp only [List.length_set]; omega)) (.int .i64 S.hi)).set (j := o + 4) (by first | omega | (simp only [List.length_set]; omega)) (.slice E.A S.cs.length E.c)).set (j := o + 5) (by first | omega | (simp only [List.length_set]; omega)) (.int .i64 S.hd)).set (j := o + 6) (by first | omega | (simp only [List.length_set]; omega)) (.int .i64 S.sz)).set (j := o + 7) (by first | omega | (simp only [List.length_set]; omega)) (.slice E.A2 S.l.length E.c2)).set (j := o + 8) (by first | omega | (simp only [List.length_set]; omega)) (.slice E.A3 S.h.length E.c3))
theorem Rb.ql {Q : List Sl} {c n : Nat} (h : Rb W b (qcs Q)) (hn : n = Q.length) (hc : n ≤ c) (hm : c ≤ maxLen) : Ql W W.heap.size (.slice (some ⟨b, 0, none⟩) n c) Q := by
  subst hn
  exact ⟨_, c, rfl, hc, hm, by rw [qcs_len], fun _ => ⟨b, 0, rfl, h.lt, fun j u hu => by rw [Nat.zero_add]; exact h.c j u hu⟩⟩
theorem sets8_far {x : Addr} (hx : x.block ≠ b) : (sets8 W b o S E).cell? x = W.cell? x := by
  have g : ∀ (w : World) (k : Nat) (v : Value), (w.setCell ⟨b, k, none⟩ v).cell? x = w.cell? x := fun w k v => World.cell?_setCell_other w _ x v (fun e => hx (by rw [← e]))
  unfold sets8
  rw [g, g, g, g, g, g, g, g]
theorem sets8_frozen (x : Addr) : (sets8 W b o S E).frozen? x = W.frozen? x := by simp [go_sem]
theorem sets8_below {B : Nat} {w : World} (h : Below B w W) (hb : B ≤ b) : Below B w (sets8 W b o S E) :=
  (((((((h.setCell (p := ⟨b, o + 1, none⟩) hb _).setCell (p := ⟨b, o + 2, none⟩) hb _).setCell (p := ⟨b, o + 3, none⟩) hb _).setCell (p := ⟨b, o + 4, none⟩) hb _).setCell (p := ⟨b, o + 5, none⟩) hb _).setCell (p := ⟨b, o + 6, none⟩) hb _).setCell (p := ⟨b, o + 7, none⟩) hb _).setCell (p := ⟨b, o + 8, none⟩) hb _
theorem SR.sets8 {S' : Sh} {D' : Sx} (h : SR W W.heap.size S' D') (ho : SOff S' D' b) : SR (sets8 W b o S E) (sets8 W b o S E).heap.size S' D' :=
  ((((((((h.offp (p := ⟨b, o + 1, none⟩) ho _).offp (p := ⟨b, o + 2, none⟩) ho _).offp (p := ⟨b, o + 3, none⟩) ho _).offp (p := ⟨b, o + 4, none⟩) ho _).offp (p := ⟨b, o + 5, none⟩) ho _).offp (p := ⟨b, o + 6, none⟩) ho _).offp (p := ⟨b, o + 7, none⟩) ho _).offp (p := ⟨b, o + 8, none⟩) ho _).more (by simp)
theorem Tl.sets8 {A : Option Addr} {n c : Nat} {l : List St} (h : Tl W W.heap.size (.slice A n c) l) (ho : OffB b n A) : Tl (sets8 W b o S E) (sets8 W b o S E).heap.size (.slice A n c) l :=
  ((((((((h.offb (p := ⟨b, o + 1, none⟩) ho _).offb (p := ⟨b, o + 2, none⟩) ho _).offb (p := ⟨b, o + 3, none⟩) ho _).offb (p := ⟨b, o + 4, none⟩) ho _).offb (p := ⟨b, o + 5, none⟩) ho _).offb (p := ⟨b, o + 6, none⟩) ho _).offb (p := ⟨b, o + 7, none⟩) ho _).offb (p := ⟨b, o + 8, none⟩) ho _).more (by simp)
theorem Ls.sets8 {A : Option Addr} {n c : Nat} {l : List Msg} (h : Ls W W.heap.size (.slice A n c) l) (ho : OffB b n A) : Ls (sets8 W b o S E) (sets8 W b o S E).heap.size (.slice A n c) l :=
  ((((((((h.offp (p := ⟨b, o + 1, none⟩) ho _).offp (p := ⟨b, o + 2, none⟩) ho _).offp (p := ⟨b, o + 3, none⟩) ho _).offp (p := ⟨b, o + 4, none⟩) ho _).offp (p := ⟨b, o + 5, none⟩) ho _).offp (p := ⟨b, o + 6, none⟩) ho _).offp (p := ⟨b, o + 7, none⟩) ho _).offp (p := ⟨b, o + 8, none⟩) ho _).more (by simp)
theorem DR.sets8 {d : Dd} {X : Dx} (h : DR W W.heap.size d X) (ho : DOff d X b) : DR (sets8 W b o S E) (sets8 W b o S E).heap.size d X :=
  ((((((((h.offp (q := ⟨b, o + 1, none⟩) ho _).offp (q := ⟨b, o + 2, none⟩) ho _).offp (q := ⟨b, o + 3, none⟩) ho _).offp (q := ⟨b, o + 4, none⟩) ho _).offp (q := ⟨b, o + 5, none⟩) ho _).offp (q := ⟨b, o + 6, none⟩) ho _).offp (q := ⟨b, o + 7, none⟩) ho _).offp (q := ⟨b, o + 8, none⟩) ho _).more (by simp)
end
/-- A box p of an arena whose slots lie in the row b of the call's own; a result's box r. -/
structure Cb12 (w : World) (p r b : Nat) (a : Ar) (Y : Ax) (W : World) : Prop where
  pb : QB W p a Y
  rb : QB W r zA zAx
  ro : Rb W b (qcs Y.q)
  ea : Y.A = some ⟨b, 0, none⟩
  ec : a.sl.length ≤ Y.c ∧ Y.c ≤ maxLen
  so : Y.q.map Sl.so = a.sl
  sr : ∀ t ∈ Y.q, SR W W.heap.size t.sh t.sx ∧ SOff t.sh t.sx b ∧ SOff t.sh t.sx p ∧ SOff t.sh t.sx r
  tl : Tl W W.heap.size (.slice Y.A2 a.st.length Y.c2) a.st ∧ OffB b a.st.length Y.A2 ∧ OffB p a.st.length Y.A2 ∧ OffB r a.st.length Y.A2
  ls : Ls W W.heap.size (.slice Y.A3 a.dl.length Y.c3) a.dl ∧ OffB b a.dl.length Y.A3 ∧ OffB p a.dl.length Y.A3 ∧ OffB r a.dl.length Y.A3
  dr : DR W W.heap.size a.dir Y.D ∧ DOff a.dir Y.D b ∧ DOff a.dir Y.D p ∧ DOff a.dir Y.D r
  ne : w.heap.size ≤ p ∧ p < r ∧ r < b
  bel : Below w.heap.size w W
section
variable {w W W' : World} {p r b : Nat} {a : Ar} {Y : Ax}
theorem Cb12.len (h : Cb12 w p r b a Y W) : Y.q.length = a.sl.length := by rw [← h.so]; simp
theorem Cb12.ar (h : Cb12 w p r b a Y W) : AR W W.heap.size a Y :=
  ⟨by rw [h.ea]; exact h.ro.ql h.len.symm h.ec.1 h.ec.2, h.so, fun t ht => (h.sr t ht).1, h.tl.1, h.ls.1, h.dr.1⟩
theorem Cb12.below (h : Cb12 w p r b a Y W) (hb : Below W.heap.size W W') : Cb12 w p r b a Y W' :=
  ⟨h.pb.up hb, h.rb.up hb, h.ro.up hb, h.ea, h.ec, h.so, fun t ht => ⟨(h.sr t ht).1.up hb, (h.sr t ht).2⟩, ⟨h.tl.1.up hb, h.tl.2⟩, ⟨h.ls.1.up hb, h.ls.2⟩, ⟨h.dr.1.up hb, h.dr.2⟩, h.ne, h.bel.trans (hb.mono h.bel.size)⟩
/-- A slot's shard is stored. -/
theorem Cb12.slot (h : Cb12 w p r b a Y W) {i : Nat} {x : Int} {S : Sh} {D E : Sx} (hi : Y.q[i]? = some ⟨x, S, D⟩) (hr : SR W W.heap.size S E) (hn : E.nw (b + 1)) : Cb12 w p r b a ⟨Y.A, Y.c, Y.q.set i ⟨x, S, E⟩, Y.A2, Y.c2, Y.A3, Y.c3, Y.D⟩ (sets8 W b (i * 9) S E) := by
  have hne := h.ne
  have hl := (List.getElem?_eq_some_iff.1 hi).1
  have ht : ∀ t ∈ Y.q.set i ⟨x, S, E⟩, t ∈ Y.q ∨ t = ⟨x, S, E⟩ := fun t ht => by
    rcases List.mem_or_eq_of_mem_set ht with h1 | h1
    · exact .inl h1
    · exact .inr h1
  have h2 := h.ro.sets8 (o := i * 9) (S := S) (E := E) (by rw [qcs_len]; omega)
  rw [qcs_set Y.q i x S D E hi] at h2
  have hq : QB (sets8 W b (i * 9) S E) p a Y := h.pb.keep (fun o => sets8_far (show p ≠ b by omega)) (fun o => sets8_frozen _) (show W.heap.size ≤ (sets8 W b (i * 9) S E).heap.size by simp)
  refine ⟨⟨hq.k, hq.fr, hq.lt⟩, h.rb.keep (fun o => sets8_far (show r ≠ b by omega)) (fun o => sets8_frozen _) (show W.heap.size ≤ (sets8 W b (i * 9) S E).heap.size by simp), h2, h.ea, h.ec, ?_, fun t hm => ?_, ⟨h.tl.1.sets8 h.tl.2.1, h.tl.2⟩, ⟨h.ls.1.sets8 h.ls.2.1, h.ls.2⟩, ⟨h.dr.1.sets8 h.dr.2.1, h.dr.2⟩, h.ne, sets8_below h.bel (by omega)⟩
  · show (Y.q.set i ⟨x, S, E⟩).map Sl.so = a.sl
    rw [List.map_set, ← h.so]
    have e : (Y.q.map Sl.so)[i]? = some (Sl.so ⟨x, S, D⟩) := by rw [List.getElem?_map, hi]; rfl
    obtain ⟨e1, e2⟩ := List.getElem?_eq_some_iff.1 e
    rw [show Sl.so ⟨x, S, E⟩ = (Y.q.map Sl.so)[i] from e2.symm]
    exact List.set_getElem_self e1
  · rcases ht t hm with h1 | rfl
    · exact ⟨(h.sr t h1).1.sets8 (h.sr t h1).2.1, (h.sr t h1).2⟩
    · exact ⟨hr.sets8 (hn.off (Nat.lt_succ_self b)), hn.off (Nat.lt_succ_self b), hn.off (by omega), hn.off (by omega)⟩
/-- What a store into the box p leaves. -/
theorem Cb12.keep (h : Cb12 w p r b a Y W) (j : Nat) (v : Value) : (∀ t ∈ Y.q, SR (W.setCell ⟨p, j, none⟩ v) (W.setCell ⟨p, j, none⟩ v).heap.size t.sh t.sx) ∧ Tl (W.setCell ⟨p, j, none⟩ v) (W.setCell ⟨p, j, none⟩ v).heap.size (.slice Y.A2 a.st.length Y.c2) a.st ∧ Ls (W.setCell ⟨p, j, none⟩ v) (W.setCell ⟨p, j, none⟩ v).heap.size (.slice Y.A3 a.dl.length Y.c3) a.dl ∧ DR (W.setCell ⟨p, j, none⟩ v) (W.setCell ⟨p, j, none⟩ v).heap.size a.dir Y.D ∧ QB (W.setCell ⟨p, j, none⟩ v) r zA zAx ∧ Rb (W.setCell ⟨p, j, none⟩ v) b (qcs Y.q) ∧ Below w.heap.size w (W.setCell ⟨p, j, none⟩ v) := by
  have hne := h.ne
  exact ⟨fun t ht => ((h.sr t ht).1.offp (p := ⟨p, j, none⟩) (h.sr t ht).2.2.1 v).more (by simp), (h.tl.1.offb (p := ⟨p, j, none⟩) h.tl.2.2.1 v).more (by simp), (h.ls.1.offp (p := ⟨p, j, none⟩) h.ls.2.2.1 v).more (by simp), (h.dr.1.offp (q := ⟨p, j, none⟩) h.dr.2.2.1 v).more (by simp), h.rb.other (x := ⟨p, j, none⟩) (show p ≠ r by omega) v, h.ro.other (a := ⟨p, j, none⟩) (show p ≠ b by omega) v, h.bel.setCell (p := ⟨p, j, none⟩) hne.1 v⟩
theorem QB.setStr (h : QB W p a Y) (A : Option Addr) (c : Nat) : QB (W.setCell ⟨p, 1, none⟩ (.slice A a.st.length c)) p a ⟨Y.A, Y.c, Y.q, A, c, Y.A3, Y.c3, Y.D⟩ := by
  obtain ⟨⟨k0, k1, k2, k3, k4, k5, k6, k7, k8, k9, k10⟩, fr, lt⟩ := h
  exact ⟨⟨by simp [go_sem, k0], by simp [go_sem, k1], by simp [go_sem, k2], by simp [go_sem, k3], by simp [go_sem, k4], by simp [go_sem, k5], by simp [go_sem, k6], by simp [go_sem, k7], by simp [go_sem, k8], by simp [go_sem, k9], by simp [go_sem, k10]⟩, fun o => by simp [go_sem, fr o], by simp [lt]⟩
theorem QB.setSlo (h : QB W p a Y) (A : Option Addr) (c : Nat) (Q : List Sl) : QB (W.setCell ⟨p, 0, none⟩ (.slice A a.sl.length c)) p a ⟨A, c, Q, Y.A2, Y.c2, Y.A3, Y.c3, Y.D⟩ := by
  obtain ⟨⟨k0, k1, k2, k3, k4, k5, k6, k7, k8, k9, k10⟩, fr, lt⟩ := h
  exact ⟨⟨by simp [go_sem, k0], by simp [go_sem, k1], by simp [go_sem, k2], by simp [go_sem, k3], by simp [go_sem, k4], by simp [go_sem, k5], by simp [go_sem, k6], by simp [go_sem, k7], by simp [go_sem, k8], by simp [go_sem, k9], by simp [go_sem, k10]⟩, fun o => by simp [go_sem, fr o], by simp [lt]⟩
/-- The stripes are stored. -/
theorem Cb12.str (h : Cb12 w p r b a Y W) {A : Option Addr} {c : Nat} (hl : Tl W W.heap.size (.slice A a.st.length c) a.st) (hn : Nw (b + 1) A) : Cb12 w p r b a ⟨Y.A, Y.c, Y.q, A, c, Y.A3, Y.c3, Y.D⟩ (W.setCell ⟨p, 1, none⟩ (.slice A a.st.length c)) := by
  have hne := h.ne
  obtain ⟨k1, k2, k3, k4, k5, k6, k7⟩ := h.keep 1 (.slice A a.st.length c)
  exact ⟨h.pb.setStr A c, k5, k6, h.ea, h.ec, h.so, fun t ht => ⟨k1 t ht, (h.sr t ht).2⟩, ⟨(hl.offb (p := ⟨p, 1, none⟩) (offb_nw hn (by show p < b + 1; omega)) _).more (by simp), offb_nw hn (Nat.lt_succ_self b), offb_nw hn (by omega), offb_nw hn (by omega)⟩, ⟨k3, h.ls.2⟩, ⟨k4, h.dr.2⟩, h.ne, k7⟩
/-- The dead letters are stored. -/
theorem Cb12.ded (h : Cb12 w p r b a Y W) {A : Option Addr} {c : Nat} (hl : Ls W W.heap.size (.slice A a.dl.length c) a.dl) (hn : Nw (b + 1) A) : Cb12 w p r b a ⟨Y.A, Y.c, Y.q, Y.A2, Y.c2, A, c, Y.D⟩ ((W.setCell ⟨p, 3, none⟩ (.int .i64 a.cap)).setCell ⟨p, 4, none⟩ (.slice A a.dl.length c)) := by
  have hne := h.ne
  have hpb : QB ((W.setCell ⟨p, 3, none⟩ (.int .i64 a.cap)).setCell ⟨p, 4, none⟩ (.slice A a.dl.length c)) p a ⟨Y.A, Y.c, Y.q, Y.A2, Y.c2, A, c, Y.D⟩ := h.pb.setDead a.cap a.dl A c
  obtain ⟨k1, k2, k3, k4, k5, k6, k7⟩ := h.keep 3 (.int .i64 a.cap)
  have hl2 := (hl.offp (p := ⟨p, 3, none⟩) (offb_nw hn (by show p < b + 1; omega)) (.int .i64 a.cap)).more (B' := (W.setCell ⟨p, 3, none⟩ (.int .i64 a.cap)).heap.size) (by simp)
  exact ⟨hpb, k5.other (x := ⟨p, 4, none⟩) (show p ≠ r by omega) _, k6.other (a := ⟨p, 4, none⟩) (show p ≠ b by omega) _, h.ea, h.ec, h.so, fun t ht => ⟨((k1 t ht).offp (p := ⟨p, 4, none⟩) (h.sr t ht).2.2.1 _).more (by simp), (h.sr t ht).2⟩, ⟨(k2.offb (p := ⟨p, 4, none⟩) h.tl.2.2.1 _).more (by simp), h.tl.2⟩, ⟨(hl2.offp (p := ⟨p, 4, none⟩) (offb_nw hn (by show p < b + 1; omega)) _).more (by simp), offb_nw hn (Nat.lt_succ_self b), offb_nw hn (by omega), offb_nw hn (by omega)⟩, ⟨(k4.offp (q := ⟨p, 4, none⟩) h.dr.2.2.1 _).more (by simp), h.dr.2⟩, h.ne, k7.setCell (p := ⟨p, 4, none⟩) hne.1 _⟩
/-- The directory is stored. -/
theorem Cb12.dir (h : Cb12 w p r b a Y W) {X : Dx} (hd : DR W W.heap.size a.dir X) (hn : X.nw (b + 1)) : Cb12 w p r b a ⟨Y.A, Y.c, Y.q, Y.A2, Y.c2, Y.A3, Y.c3, X⟩ (((W.setCell ⟨p, 5, none⟩ (.int .i64 a.dir.vn)).setCell ⟨p, 6, none⟩ (.slice X.A a.dir.l.length X.c)).setCell ⟨p, 7, none⟩ (.slice X.A2 a.dir.F.length X.c2)) := by
  have hne := h.ne
  have hpb := h.pb.setDir a.dir X
  have ho : DOff a.dir X p := hn.off (by omega)
  obtain ⟨k1, k2, k3, k4, k5, k6, k7⟩ := h.keep 5 (.int .i64 a.dir.vn)
  exact ⟨hpb, (k5.other (x := ⟨p, 6, none⟩) (show p ≠ r by omega) _).other (x := ⟨p, 7, none⟩) (show p ≠ r by omega) _, (k6.other (a := ⟨p, 6, none⟩) (show p ≠ b by omega) _).other (a := ⟨p, 7, none⟩) (show p ≠ b by omega) _, h.ea, h.ec, h.so, fun t ht => ⟨(((k1 t ht).offp (p := ⟨p, 6, none⟩) (h.sr t ht).2.2.1 _).offp (p := ⟨p, 7, none⟩) (h.sr t ht).2.2.1 _).more (by simp), (h.sr t ht).2⟩, ⟨((k2.offb (p := ⟨p, 6, none⟩) h.tl.2.2.1 _).offb (p := ⟨p, 7, none⟩) h.tl.2.2.1 _).more (by simp), h.tl.2⟩, ⟨((k3.offp (p := ⟨p, 6, none⟩) h.ls.2.2.1 _).offp (p := ⟨p, 7, none⟩) h.ls.2.2.1 _).more (by simp), h.ls.2⟩,
    ⟨(((hd.offp (q := ⟨p, 5, none⟩) ho _).offp (q := ⟨p, 6, none⟩) ho _).offp (q := ⟨p, 7, none⟩) ho _).more (by simp), hn.off (Nat.lt_succ_self b), ho, hn.off (by omega)⟩, h.ne, (k7.setCell (p := ⟨p, 6, none⟩) hne.1 _).setCell (p := ⟨p, 7, none⟩) hne.1 _⟩
end
/-- A copy of an arena as a result: its lists are new, its slots lie in a row of their own. -/
def AvP (w : World) (a : Ar) (e : Ending) (w' : World) : Prop := ∃ (Y : Ax) (b : Nat), e = .returned (av a Y) ∧ Y.nw w.heap.size ∧ AR w' w'.heap.size a Y ∧ Below w.heap.size w w' ∧ Y.A = some ⟨b, 0, none⟩ ∧ (a.sl.length ≤ Y.c ∧ Y.c ≤ maxLen) ∧ Rb w' b (qcs Y.q) ∧ (∀ t ∈ Y.q, SOff t.sh t.sx b) ∧ OffB b a.st.length Y.A2 ∧ OffB b a.dl.length Y.A3 ∧ DOff a.dir Y.D b
theorem Rb.set11 {W : World} {b r : Nat} {cs : List Value} (h : Rb W b cs) (hr : r ≠ b) (a : Ar) (Y : Ax) : Rb (set11 W r a Y) b cs :=
  ((((((((((h.other (a := ⟨r, 0, none⟩) hr _).other (a := ⟨r, 1, none⟩) hr _).other (a := ⟨r, 2, none⟩) hr _).other (a := ⟨r, 3, none⟩) hr _).other (a := ⟨r, 4, none⟩) hr _).other (a := ⟨r, 5, none⟩) hr _).other (a := ⟨r, 6, none⟩) hr _).other (a := ⟨r, 7, none⟩) hr _).other (a := ⟨r, 8, none⟩) hr _).other (a := ⟨r, 9, none⟩) hr _).other (a := ⟨r, 10, none⟩) hr _
theorem Cb12.out {w W : World} {p r b : Nat} {a : Ar} {Y : Ax} (h : Cb12 w p r b a Y W) (hn : Y.nw (r + 1)) : AvP w a (.returned (av a Y)) (set11 W r a Y) := by
  have hne := h.ne
  exact ⟨Y, b, rfl, hn.low (by omega), (h.ar.set11 (hn.off (Nat.lt_succ_self r)) a Y).more (by rw [set11_size]; exact Nat.le_refl _), set11_below h.bel (by omega) a Y, h.ea, h.ec, h.ro.set11 (by omega) a Y, fun t ht => (h.sr t ht).2.1, h.tl.2.1, h.ls.2.1, h.dr.2.1⟩
end Go.Proofs.Ytijpflljopckiaa
