/- What is proved here: Kb; a set of numbers that is kept as a map with bool elements: what a look-up gives, what a store leaves; dead.hasSameID by one contract; dead.isCapacity, dead.New, dead.Validate, dead.Room, dead.examine by contracts; (lemmas for) arena.New and ref12.New. -/
import Derived.Test.YtijpflljopckiaaGreatJ03
import Derived.Test.YtijpflljopckiaaGreatRows
import Derived.Test.YtijpflljopckiaaGreatJ02
import Derived.WalkKit
import Derived.Outline
import Derived.IntWalk
import Derived.Maps.OwnOps
import Derived.Maps.Views
import Derived.Carry
import Derived.Test.YtijpflljopckiaaGreatJ30
import Derived.Test.YtijpflljopckiaaGreatJ16
import Derived.Deep.DeepCutAuto
import Derived.Deep.RegionHeld3
/- Plain: dead-letter stores in memory: a box of a store, results that are a store and an error. -/
namespace Go.Proofs.YtijpflljopckiaaGreat
open Go.RowKit
set_option linter.unusedVariables false

/-- Block p holds a store, and may be written. -/
structure Db8 (W : World) (p : Nat) (cap : Int) (A : Option Addr) (n c : Nat) : Prop where
  lt : p < W.heap.size
  c0 : W.cell? ⟨p, 0, none⟩ = some (.int .i64 cap)
  c1 : W.cell? ⟨p, 1, none⟩ = some (.slice A n c)
  fr : ∀ o, W.frozen? ⟨p, o, none⟩ = false
section
variable {W W' : World} {p n c : Nat} {A : Option Addr} {cap : Int}
theorem Db8.facts (h : Db8 W p cap A n c) : W.cell? ⟨p, 0, none⟩ = some (.int .i64 cap) ∧ W.cell? ⟨p, 1, none⟩ = some (.slice A n c) ∧ p < W.heap.size := ⟨h.c0, h.c1, h.lt⟩
theorem Db8.all (h : Db8 W p cap A n c) : W.cell? ⟨p, 0, none⟩ = some (.int .i64 cap) ∧ W.cell? ⟨p, 1, none⟩ = some (.slice A n c) ∧ p < W.heap.size ∧ W.frozen? ⟨p, 0, none⟩ = false ∧ W.frozen? ⟨p, 1, none⟩ = false := ⟨h.c0, h.c1, h.lt, h.fr 0, h.fr 1⟩
theorem Db8.up (h : Db8 W p cap A n c) (hb : Below W.heap.size W W') : Db8 W' p cap A n c :=
  ⟨Nat.lt_of_lt_of_le h.lt hb.size, (hb.cell (p := ⟨p, 0, none⟩) h.lt).trans h.c0, (hb.cell (p := ⟨p, 1, none⟩) h.lt).trans h.c1, fun o => (hb.frozen (p := ⟨p, o, none⟩) h.lt).trans (h.fr o)⟩
theorem Db8.drew (h : Db8 W p cap A n c) : Db8 W.drew p cap A n c := ⟨h.lt, h.c0, h.c1, h.fr⟩
theorem Db8.drewN (h : Db8 W p cap A n c) (k : Nat) : Db8 (W.drewN k) p cap A n c := ⟨h.lt, h.c0, h.c1, h.fr⟩
theorem Db8.alloc (h : Db8 W p cap A n c) (o : Obj) : Db8 (W.alloc o) p cap A n c := h.up ((Below.refl _ _).alloc (Nat.le_refl _) o)
theorem Db8.other (h : Db8 W p cap A n c) {a : Addr} (ha : a.block ≠ p) (v : Value) : Db8 (W.setCell a v) p cap A n c := by
  have e : ∀ o, (W.setCell a v).cell? ⟨p, o, none⟩ = W.cell? ⟨p, o, none⟩ := fun o => World.cell?_setCell_other W _ _ v (fun e => ha (by rw [e]))
  exact ⟨by simpa using h.lt, (e 0).trans h.c0, (e 1).trans h.c1, fun o => by rw [World.frozen?_setCell]; exact h.fr o⟩
theorem Db8.setL (h : Db8 W p cap A n c) (A' : Option Addr) (n' c' : Nat) : Db8 (W.setCell ⟨p, 1, none⟩ (.slice A' n' c')) p cap A' n' c' :=
  ⟨by simpa using h.lt, (World.cell?_setCell_other W _ _ _ (fun e => by injection e; omega)).trans h.c0, World.cell?_setCell_same' W _ _ (by rw [h.c1]; rfl), fun o => by rw [World.frozen?_setCell]; exact h.fr o⟩
theorem Db8.setC (h : Db8 W p cap A n c) (x : Int) : Db8 (W.setCell ⟨p, 0, none⟩ (.int .i64 x)) p x A n c :=
  ⟨by simpa using h.lt, World.cell?_setCell_same' W _ _ (by rw [h.c0]; rfl), (World.cell?_setCell_other W _ _ _ (fun e => by injection e; omega)).trans h.c1, fun o => by rw [World.frozen?_setCell]; exact h.fr o⟩
theorem Db8.put (h : Db8 W p cap A n c) (x : Int) (A' : Option Addr) (n' c' : Nat) : Db8 ((W.setCell ⟨p, 0, none⟩ (.int .i64 x)).setCell ⟨p, 1, none⟩ (.slice A' n' c')) p x A' n' c' := (h.setC x).setL A' n' c'
theorem Db8.grown (h : Db8 W p cap A n c) {row : Option Nat} (hg : W.grownBy W' row) (hr : some p ≠ row) : Db8 W' p cap A n c := by
  have e : ∀ o, W'.cell? ⟨p, o, none⟩ = W.cell? ⟨p, o, none⟩ := fun o => hg.cell_far ⟨p, o, none⟩ h.lt hr
  exact ⟨Nat.lt_of_lt_of_le h.lt hg.size, (e 0).trans h.c0, (e 1).trans h.c1, fun o => (hg.frozen_far ⟨p, o, none⟩ h.lt hr).trans (h.fr o)⟩
theorem Db8.fresh (w : World) (cap : Int) (A : Option Addr) (n c : Nat) (t : TypeId) : Db8 (w.alloc (.cells #[.int .i64 cap, .slice A n c] t)) w.heap.size cap A n c :=
  ⟨by simp, by simp [go_sem], by simp [go_sem], fun o => by simp [go_sem]⟩
end
/-- A list does not lie in block b. -/
def Ob (b n : Nat) (A : Option Addr) : Prop := 0 < n → ∀ a, A = some a → a.block ≠ b
theorem ob_nw {lo b n : Nat} {A : Option Addr} (h : Nw lo A) (hb : b < lo) : Ob b n A := fun _ a e => by have := h a e; omega
theorem ob_ls {W : World} {B n c b : Nat} {A : Option Addr} {l : List Msg} (h : Ls W B (.slice A n c) l) (hb : B ≤ b) : Ob b n A := fun hn a e => by
  obtain ⟨b', o, e', hb', _⟩ := h.rd.2 hn
  rw [e'] at e
  injection e with e
  subst e
  show b' ≠ b
  omega
theorem Ls.offo {W : World} {B n c : Nat} {A : Option Addr} {l : List Msg} (h : Ls W B (.slice A n c) l) {p : Addr} (hA : Ob p.block n A) (v : Value) : Ls (W.setCell p v) B (.slice A n c) l := by
  obtain ⟨h1, h2, h3⟩ := h.len
  subst h1
  refine ⟨A, c, rfl, h2, h3, h.rd.1, fun h0 => ?_⟩
  obtain ⟨b, o, e, hb, hc⟩ := h.rd.2 h0
  have hlo := hA h0 _ e
  exact ⟨b, o, e, hb, fun j u hu => (World.cell?_setCell_other W p ⟨b, o + j, none⟩ v (fun e' => hlo (congrArg Addr.block e').symm)).trans (hc j u hu)⟩
theorem Ls.growno {W W' : World} {B n c : Nat} {A : Option Addr} {l : List Msg} (h : Ls W B (.slice A n c) l) (hB : B ≤ W.heap.size) {row : Option Nat} (hg : W.grownBy W' row) (ho : ∀ q, row = some q → Ob q n A) : Ls W' B (.slice A n c) l := by
  obtain ⟨h1, h2, h3⟩ := h.len
  subst h1
  refine ⟨A, c, rfl, h2, h3, h.rd.1, fun hn => ?_⟩
  obtain ⟨b, o, e, hb, hc⟩ := h.rd.2 hn
  exact ⟨b, o, e, hb, fun j u hu => (hg.cell_far ⟨b, o + j, none⟩ (Nat.lt_of_lt_of_le hb hB) (fun e' => ho b e'.symm hn _ e rfl)).trans (hc j u hu)⟩
/-- A store and an error as a result. -/
def D8 (w : World) (cap : Int) (l : List Msg) (x : Int) (e : Ending) (w' : World) : Prop := ∃ A c, e = .returned (.tuple #[.agg #[.int .i64 cap, .slice A l.length c], .int .i64 x]) ∧ Nw w.heap.size A ∧ Ls w' w'.heap.size (.slice A l.length c) l ∧ Below w.heap.size w w'
end Go.Proofs.YtijpflljopckiaaGreat
namespace Go.Proofs.YtijpflljopckiaaGreat
open Go.RowKit
set_option linter.unusedVariables false

/-- Block b is the set of the numbers ks. -/
def MetAt (w : World) (b : Nat) (ks : List Int) : Prop := ∃ D : DataW Unit, w.ownsMap Tryz.prog 3 (plainElem Tryz.prog 4) b ks.length D ∧ Maps.IsMap D ∧ ∀ x : Int, D.atKey (.int .i64 x) (.lit (.bool false)) = .lit (.bool (ks.contains x))
theorem MetAt.lt {w : World} {b : Nat} {ks : List Int} (h : MetAt w b ks) : b < w.heap.size := by obtain ⟨D, ho, _⟩ := h; exact ho.lt
theorem MetAt.below {w w' : World} {b : Nat} {ks : List Int} (h : MetAt w b ks) (hb : Below w.heap.size w w') : MetAt w' b ks := by
  have hl := h.lt
  obtain ⟨D, ⟨es, clock, he, r⟩, hD, ha⟩ := h
  exact ⟨D, ⟨es, clock, (hb.block b hl).trans he, r⟩, hD, ha⟩
end Go.Proofs.YtijpflljopckiaaGreat
namespace Go.Proofs.YtijpflljopckiaaGreat
open Go.RowKit
set_option linter.unusedVariables false

/-- The IDs of the first k messages, the last one first. -/
def ids8 (l : List Msg) (k : Nat) : List Int := ((l.take k).map Msg.id).reverse
theorem ids8_succ {l : List Msg} {k : Nat} (h : k < l.length) : ids8 l (k + 1) = l[k].id :: ids8 l k := by
  unfold ids8
  rw [← List.take_append_getElem h, List.map_append, List.reverse_append]
  rfl
/-- The state of the loop. -/
structure HsAt (w : World) (B : Nat) (A : Option Addr) (c : Nat) (l : List Msg) (k : Nat) (W : World) : Prop where
  met : MetAt W B (ids8 l k)
  bel : Below w.heap.size w W
  old : w.heap.size ≤ B
  ls : Ls W w.heap.size (.slice A l.length c) l
  no : ∀ i j (hi : i < l.length) (hj : j < l.length), i < j → j < k → l[i].id ≠ l[j].id
theorem HsAt.below {w W W' : World} {B c k : Nat} {A : Option Addr} {l : List Msg} (h : HsAt w B A c l k W) (hb : Below W.heap.size W W') : HsAt w B A c l k W' :=
  ⟨h.met.below hb, h.bel.trans (hb.mono h.bel.size), h.old, h.ls.below (hb.mono h.bel.size), h.no⟩
theorem HsAt.put {w W W' : World} {B c k : Nat} {A : Option Addr} {l : List Msg} (h : HsAt w B A c l k W) (hk : k < l.length) (hm : MetAt W' B (l[k].id :: ids8 l k)) (hg : W.grownBy W' (some B)) (hn : ∀ i (hi : i < l.length), i < k → l[i].id ≠ l[k].id) : HsAt w B A c l (k + 1) W' :=
  ⟨by rw [ids8_succ hk]; exact hm, h.bel.grown hg h.bel.size (fun j hj => by cases hj; exact h.old), h.old, h.ls.growno h.bel.size hg (fun q e => by cases e; exact ob_ls h.ls h.old), fun i j hi hj hij hjk => by
    by_cases e : j = k
    · subst e; exact hn i hi hij
    · exact h.no i j hi hj hij (by omega)⟩
end Go.Proofs.YtijpflljopckiaaGreat
namespace Go.Proofs.YtijpflljopckiaaGreat
open Go.RowKit
set_option linter.unusedVariables false

theorem iscap8_any (n : Int) (w : World) : Calls Tryz.prog 36 #[.int .i64 n] w fun e w' => e = .returned (.bool (wi n 1 24)) ∧ w = w' := by
  by_cases h1 : 1 ≤ n
  · by_cases h2 : n ≤ 24
    · have HF := Lib.hid (wi_true h1 h2)
      go_enter Tryz.func36, Tryz.ntmps36
      go_wp2
      go_ret
      exact ⟨by rw [HF.out]; rfl, rfl⟩
    · have HF := Lib.hid (wi_high (lo := 1) (show (24 : Int) < n by omega))
      go_enter Tryz.func36, Tryz.ntmps36
      go_wp2
      go_ret
      exact ⟨by rw [HF.out]; rfl, rfl⟩
  · have HF := Lib.hid (wi_low (hi := 24) (show n < 1 by omega))
    go_enter Tryz.func36, Tryz.ntmps36
    go_wp2
    go_ret
    exact ⟨by rw [HF.out]; rfl, rfl⟩
/-- What New gives. -/
def nw8 (n : Int) : Int := if wi n 1 24 = true then n else 0
def nw8E (n : Int) : Int := if wi n 1 24 = true then 0 else 1
def N8 (w : World) (cap x : Int) (e : Ending) (w' : World) : Prop := e = .returned (.tuple #[.agg #[.int .i64 cap, .slice none 0 0], .int .i64 x]) ∧ Below w.heap.size w w'
theorem new8_any (n : Int) (w : World) : Calls Tryz.prog 18 #[.int .i64 n] w (N8 w (nw8 n) (nw8E n)) := by
  have HC := Lib.hid (fun W => iscap8_any n W)
  have HB := Lib.hid (Db8.fresh w 0 none 0 0 29)
  have HW := Lib.hid ((Below.refl w.heap.size w).alloc (Nat.le_refl _) (.cells #[.int .i64 0, .slice none 0 0] 29))
  cases h : wi n 1 24 with
  | true =>
    have HE := Lib.hid (show nw8 n = n ∧ nw8E n = 0 from ⟨if_pos h, if_pos h⟩)
    rw [h] at HC
    clear h
    go_enter Tryz.func18, Tryz.ntmps18
    go_wp2_with fail
    refine (HC.out _).mono ?_
    rintro e w1 ⟨rfl, rfl⟩
    obtain ⟨b0, b1, bl, f0, f1⟩ := HB.out.all
    go_wp2
    exact bodyPost_ret (v := .tuple #[.agg #[.int .i64 n, .slice none 0 0], .int .i64 0]) (by simp only [results, Tryz.results18]; go_simp <;> rfl) rfl ⟨by rw [HE.out.1, HE.out.2], (Below.refl _ _).alloc (Nat.le_refl _) _⟩
  | false =>
    have HE := Lib.hid (show nw8 n = 0 ∧ nw8E n = 1 from ⟨if_neg (by rw [h]; decide), if_neg (by rw [h]; decide)⟩)
    rw [h] at HC
    clear h
    go_enter Tryz.func18, Tryz.ntmps18
    go_wp2_with fail
    refine (HC.out _).mono ?_
    rintro e w1 ⟨rfl, rfl⟩
    obtain ⟨b0, b1, bl, f0, f1⟩ := HB.out.all
    go_wp2
    exact bodyPost_ret (v := .tuple #[.agg #[.int .i64 0, .slice none 0 0], .int .i64 1]) (by simp only [results, Tryz.results18]; go_simp <;> rfl) rfl ⟨by rw [HE.out.1, HE.out.2], (Below.refl _ _).alloc (Nat.le_refl _) _⟩
/-- A box of a store in a later world. -/
structure VaAt8 (w : World) (p : Nat) (cap : Int) (A : Option Addr) (c : Nat) (l : List Msg) (W : World) : Prop where
  db : Db8 W p cap A l.length c
  ls : Ls W w.heap.size (.slice A l.length c) l
  bel : Below w.heap.size w W
  old : w.heap.size ≤ p
section
variable {w W W' : World} {p c : Nat} {cap : Int} {A : Option Addr} {l : List Msg}
theorem VaAt8.below (h : VaAt8 w p cap A c l W) (hb : Below W.heap.size W W') : VaAt8 w p cap A c l W' :=
  ⟨h.db.up hb, h.ls.below (hb.mono h.bel.size), h.bel.trans (hb.mono h.bel.size), h.old⟩
theorem VaAt8.alloc (h : VaAt8 w p cap A c l W) (o : Obj) : VaAt8 w p cap A c l (W.alloc o) := h.below ((Below.refl _ _).alloc (Nat.le_refl _) o)
theorem VaAt8.here (h : VaAt8 w p cap A c l W) : Ls W W.heap.size (.slice A l.length c) l := h.ls.more h.bel.size
theorem VaAt8.start (t : TypeId) (cap : Int) (hv : Ls w w.heap.size (.slice A l.length c) l) : VaAt8 w w.heap.size cap A c l (w.alloc (.cells #[.int .i64 cap, .slice A l.length c] t)) :=
  ⟨Db8.fresh w cap A l.length c t, hv.alloc (Nat.le_refl _) _, (Below.refl _ _).alloc (Nat.le_refl _) _, Nat.le_refl _⟩
end
end Go.Proofs.YtijpflljopckiaaGreat
namespace Go.Proofs.YtijpflljopckiaaGreat
open Go.RowKit
set_option linter.unusedVariables false

/-- What New gives. -/
noncomputable def nwA (s : Su) : Ar := if suB s = true then grA s s.sl.toNat s.sl.toNat s.dd else zA
def nwAE (s : Su) : Int := if suB s = true then 0 else 1
theorem info_st12 : (Tryz.prog.info? 60).map (fun i => (i.zero, i.size, i.bytes)) = some (some (St.v zSt), 4, 32) := by kernel_rfl
theorem info_sl : (Tryz.prog.info? 74).map (fun i => (i.zero, i.size, i.bytes)) = some (some (Sl.v zSl), 9, 120) := by kernel_rfl
section
variable {W W' : World} {p : Nat} {a : Ar} {Y : Ax}
theorem QB.setDir (h : QB W p a Y) (d : Dd) (X : Dx) : QB (((W.setCell ⟨p, 5, none⟩ (.int .i64 d.vn)).setCell ⟨p, 6, none⟩ (.slice X.A d.l.length X.c)).setCell ⟨p, 7, none⟩ (.slice X.A2 d.F.length X.c2)) p ⟨a.sl, a.st, a.ow, a.cap, a.dl, d, a.ep, a.ck, a.ni⟩ ⟨Y.A, Y.c, Y.q, Y.A2, Y.c2, Y.A3, Y.c3, X⟩ := by
  obtain ⟨⟨k0, k1, k2, k3, k4, k5, k6, k7, k8, k9, k10⟩, fr, lt⟩ := h
  exact ⟨⟨by simp [go_sem, k0], by simp [go_sem, k1], by simp [go_sem, k2], by simp [go_sem, k3], by simp [go_sem, k4], by simp [go_sem, k5], by simp [go_sem, k6], by simp [go_sem, k7], by simp [go_sem, k8], by simp [go_sem, k9], by simp [go_sem, k10]⟩, fun o => by simp [go_sem, fr o], by simp [lt]⟩
theorem QB.setDead (h : QB W p a Y) (cap : Int) (l : List Msg) (A : Option Addr) (c : Nat) : QB ((W.setCell ⟨p, 3, none⟩ (.int .i64 cap)).setCell ⟨p, 4, none⟩ (.slice A l.length c)) p ⟨a.sl, a.st, a.ow, cap, l, a.dir, a.ep, a.ck, a.ni⟩ ⟨Y.A, Y.c, Y.q, Y.A2, Y.c2, A, c, Y.D⟩ := by
  obtain ⟨⟨k0, k1, k2, k3, k4, k5, k6, k7, k8, k9, k10⟩, fr, lt⟩ := h
  exact ⟨⟨by simp [go_sem, k0], by simp [go_sem, k1], by simp [go_sem, k2], by simp [go_sem, k3], by simp [go_sem, k4], by simp [go_sem, k5], by simp [go_sem, k6], by simp [go_sem, k7], by simp [go_sem, k8], by simp [go_sem, k9], by simp [go_sem, k10]⟩, fun o => by simp [go_sem, fr o], by simp [lt]⟩
end
/-- The box of a setup and the result's. -/
structure Pn12 (w : World) (p r : Nat) (s : Su) (W : World) : Prop where
  sb : SuB W p s
  rb : QB W r zA zAx
  ne : w.heap.size ≤ p ∧ p < r
  bel : Below w.heap.size w W
/-- .. and the arena's. -/
structure Py12 (w : World) (p r y : Nat) (s : Su) (a : Ar) (Y : Ax) (W : World) : Prop where
  pn : Pn12 w p r s W
  yb : QB W y a Y
  ry : r < y
section
variable {w W W' : World} {p r y : Nat} {s : Su} {a : Ar} {Y : Ax}
theorem Pn12.below (h : Pn12 w p r s W) (hb : Below W.heap.size W W') : Pn12 w p r s W' := ⟨h.sb.up hb, h.rb.up hb, h.ne, h.bel.trans (hb.mono h.bel.size)⟩
theorem Pn12.start (w : World) (s : Su) : Pn12 w w.heap.size (w.heap.size + 1) s ((w.alloc (.cells #[.int .i64 s.sl, .int .i64 s.lv, .int .i64 s.cp, .int .i64 s.dd, .int .i64 s.lm, .int .i64 s.ck, .int .i64 s.ni, .int .i64 s.ep] 41)).alloc (.cells #[.slice none 0 0, .slice none 0 0, .int .i64 0, .int .i64 0, .slice none 0 0, .int .i64 0, .slice none 0 0, .slice none 0 0, .int .i64 0, .int .i64 0, .int .i64 0] 36)) := by
  have h1 := QB.start (w.alloc (.cells #[.int .i64 s.sl, .int .i64 s.lv, .int .i64 s.cp, .int .i64 s.dd, .int .i64 s.lm, .int .i64 s.ck, .int .i64 s.ni, .int .i64 s.ep] 41)) zA zAx 36
  rw [show (w.alloc (.cells #[.int .i64 s.sl, .int .i64 s.lv, .int .i64 s.cp, .int .i64 s.dd, .int .i64 s.lm, .int .i64 s.ck, .int .i64 s.ni, .int .i64 s.ep] 41)).heap.size = w.heap.size + 1 by simp] at h1
  exact ⟨(SuB.start w s _).alloc _, h1, ⟨Nat.le_refl _, by omega⟩, ((Below.refl _ _).alloc (Nat.le_refl _) _).alloc (by simp) _⟩
theorem Pn12.other (h : Pn12 w p r s W) {x : Addr} (hx : r < x.block) (v : Value) : Pn12 w p r s (W.setCell x v) := by
  have hn := h.ne
  exact ⟨h.sb.other (x := x) (by omega) v, h.rb.other (x := x) (by omega) v, h.ne, h.bel.setCell (p := x) (by omega) v⟩
theorem Py12.below (h : Py12 w p r y s a Y W) (hb : Below W.heap.size W W') : Py12 w p r y s a Y W' := ⟨h.pn.below hb, h.yb.up hb, h.ry⟩
theorem Py12.dir (h : Py12 w p r y s a Y W) (d : Dd) (X : Dx) : Py12 w p r y s ⟨a.sl, a.st, a.ow, a.cap, a.dl, d, a.ep, a.ck, a.ni⟩ ⟨Y.A, Y.c, Y.q, Y.A2, Y.c2, Y.A3, Y.c3, X⟩ (((W.setCell ⟨y, 5, none⟩ (.int .i64 d.vn)).setCell ⟨y, 6, none⟩ (.slice X.A d.l.length X.c)).setCell ⟨y, 7, none⟩ (.slice X.A2 d.F.length X.c2)) :=
  ⟨((h.pn.other (x := ⟨y, 5, none⟩) h.ry _).other (x := ⟨y, 6, none⟩) h.ry _).other (x := ⟨y, 7, none⟩) h.ry _, h.yb.setDir d X, h.ry⟩
theorem Py12.dead (h : Py12 w p r y s a Y W) (cap : Int) : Py12 w p r y s ⟨a.sl, a.st, a.ow, cap, [], a.dir, a.ep, a.ck, a.ni⟩ ⟨Y.A, Y.c, Y.q, Y.A2, Y.c2, none, 0, Y.D⟩ ((W.setCell ⟨y, 3, none⟩ (.int .i64 cap)).setCell ⟨y, 4, none⟩ (.slice none 0 0)) :=
  ⟨(h.pn.other (x := ⟨y, 3, none⟩) h.ry _).other (x := ⟨y, 4, none⟩) h.ry _, h.yb.setDead cap [] none 0, h.ry⟩
theorem Py12.grow {c : Int} {X : Dx} (h : Py12 w p r y s ⟨[], [], 0, c, [], nwD s.sl s.lv, s.ep, s.ck, s.ni⟩ ⟨none, 0, [], none, 0, none, 0, X⟩ W) (hd : DR W W.heap.size (nwD s.sl s.lv) X) (hn : X.nw (r + 1) ∧ DOff (nwD s.sl s.lv) X y) : Gw12 w p r y s c 0 0 none 0 [] none 0 X W :=
  ⟨h.pn.sb, h.pn.rb, h.yb.k, h.yb.fr, h.yb.lt, World.ownsRow_nil _ _ _ _, World.ownsRow_nil _ _ _ _, rfl, by simp, hd, hn, fun b e => (by cases e), fun b e => (by cases e), ⟨h.pn.ne.1, h.pn.ne.2, h.ry⟩, h.pn.bel⟩
theorem ae_out {w W : World} {r y : Nat} {a : Ar} {Y : Ax} (hr : w.heap.size ≤ r) (hb : Below w.heap.size w W) (hn : Y.nw (y + 1)) (hry : r ≤ y) (hs : AR W W.heap.size a Y) (x : Int) : AE w a x (.returned (.tuple #[av a Y, .int .i64 x])) (set11 W r a Y) :=
  ⟨Y, rfl, hn.low (by omega), (hs.set11 (hn.off (by omega)) a Y).more (by rw [set11_size]; exact Nat.le_refl _), set11_below hb hr a Y⟩
end
end Go.Proofs.YtijpflljopckiaaGreat
