/- What is proved here: (plain) lists of spans and of numbers that lie in memory, directories; Qm; Raw, N, Range of the statements' base: what they return and what they turn; directory.within, directory.find, slices.IndexFunc over its closure, coversSpace, hasSameShard, slotTest by contracts; slices.Clone of spans and of numbers by contracts: the copies are the call's own. -/
import Derived.Test.YtijpflljopckiaaJ01
import Derived.Test.YtijpflljopckiaaJ02
import Derived.Test.YtijpflljopckiaaJ12
import Derived.Test.YtijpflljopckiaaJ03
import Derived.Below
import Derived.Deep.MidRow
import Derived.Laws.MakeOwn
import Derived.Test.YtijpflljopckiaaRows
import Derived.WalkKit
import Derived.Outline
import Derived.IntWalk
import Derived.Deep.QuietTactic
import Derived.BigQuiet
import Derived.Deep.RegionHeld3
import Derived.Deep.DrawnRows
import Derived.Deep.RegionWith
import Derived.Deep.AppendLies
import Derived.WalkSpells
import Derived.Lib.AppendZerosOnto
namespace Go.Proofs.Ytijpflljopckiaa
open Go.RowKit
set_option linter.unusedVariables false

/-- The cells of a span. -/
def Sp.l (d : Sp) : List Value := [.int .i64 d.lo, .int .i64 d.hi, .int .i64 d.sh]
/-- The span as a value. -/
abbrev Sp.v (d : Sp) : Value := .agg #[.int .i64 d.lo, .int .i64 d.hi, .int .i64 d.sh]
theorem Sp.l_len (d : Sp) : d.l.length = 3 := rfl
theorem Sp.l_one (d : Sp) : ∀ u ∈ d.l, u.oneCell' = true := by
  intro u hu
  simp only [Sp.l, List.mem_cons, List.not_mem_nil, or_false] at hu
  rcases hu with rfl | rfl | rfl <;> rfl
def scs (l : List Sp) : List Value := l.flatMap Sp.l
theorem scs_cons (d : Sp) (l : List Sp) : scs (d :: l) = d.l ++ scs l := rfl
theorem scs_app (l m : List Sp) : scs (l ++ m) = scs l ++ scs m := by simp [scs]
theorem scs_len (l : List Sp) : (scs l).length = l.length * 3 := by
  induction l with
  | nil => rfl
  | cons d l ih => rw [scs_cons, List.length_append, ih, Sp.l_len]; simp; omega
theorem scs_drop (l : List Sp) (k : Nat) : (scs l).drop (k * 3) = scs (l.drop k) := by
  induction k generalizing l with
  | zero => simp
  | succ k ih =>
    cases l with
    | nil => simp [scs]
    | cons d l =>
      rw [scs_cons, List.drop_succ_cons, ← ih, show (k + 1) * 3 = d.l.length + k * 3 by rw [Sp.l_len]; omega, List.drop_append, List.drop_eq_nil_of_le (by omega)]
      simp
theorem scs_take (l : List Sp) (k : Nat) : (scs l).take (k * 3) = scs (l.take k) := by
  induction k generalizing l with
  | zero => simp [scs]
  | succ k ih =>
    cases l with
    | nil => simp [scs]
    | cons d l =>
      rw [scs_cons, List.take_succ_cons, scs_cons, ← ih, show (k + 1) * 3 = d.l.length + k * 3 by rw [Sp.l_len]; omega, List.take_append, List.take_of_length_le (by omega)]
      simp
theorem scs_at (l : List Sp) (k j : Nat) (hk : k < l.length) (hj : j < 3) : (scs l)[k * 3 + j]? = l[k].l[j]? := by
  have h := scs_drop l k
  have e : (scs l)[k * 3 + j]? = ((scs l).drop (k * 3))[j]? := by rw [List.getElem?_drop]
  rw [e, h, List.drop_eq_getElem_cons hk, scs_cons, List.getElem?_append_left (by rw [Sp.l_len]; exact hj)]
theorem scs_one (l : List Sp) : ∀ u ∈ scs l, u.oneCell' = true := by
  intro u hu
  obtain ⟨M, _, h⟩ := List.mem_flatMap.1 hu
  exact M.l_one u h
def ics (F : List Int) : List Value := F.map i64v
theorem ics_len (F : List Int) : (ics F).length = F.length * 1 := by simp [ics]
theorem ics_one (F : List Int) : ∀ u ∈ ics F, u.oneCell' = true := by
  intro u hu
  obtain ⟨M, _, rfl⟩ := List.mem_map.1 hu
  rfl
theorem ics_app (l m : List Int) : ics (l ++ m) = ics l ++ ics m := by simp [ics]

/-- A value that is a slice, reads as these spans and lies below B. -/
def Pl (w : World) (B : Nat) (v : Value) (l : List Sp) : Prop := ∃ A c, v = .slice A l.length c ∧ l.length ≤ c ∧ c ≤ maxLen ∧ Rd w B 3 A l.length (scs l)
section
variable {w w' : World} {B B' : Nat} {v : Value} {l : List Sp} {A : Option Addr} {n c : Nat}
theorem Pl.nil : Pl w B (.slice none 0 0) [] := ⟨none, 0, rfl, Nat.le_refl _, Nat.zero_le _, Rd.nil none⟩
theorem Pl.keep (h : Pl w B v l) (hk : ∀ p : Addr, p.block < B → w'.cell? p = w.cell? p) : Pl w' B v l := by
  obtain ⟨A, c, e, hl, hm, h⟩ := h; exact ⟨A, c, e, hl, hm, h.keep hk⟩
theorem Pl.more (h : Pl w B v l) (hB : B ≤ B') : Pl w B' v l := by
  obtain ⟨A, c, e, hl, hm, h⟩ := h; exact ⟨A, c, e, hl, hm, h.more hB⟩
theorem Pl.below (h : Pl w B v l) (hb : Below B w w') : Pl w' B v l := h.keep fun _ hp => hb.cell hp
theorem Pl.up (h : Pl w w.heap.size v l) (hb : Below w.heap.size w w') : Pl w' w'.heap.size v l := (h.below hb).more hb.size
theorem Pl.alloc (h : Pl w B v l) (hB : B ≤ w.heap.size) (o : Obj) : Pl (w.alloc o) B v l := h.keep fun p hp => World.cell?_alloc_lt w o p (by omega)
theorem Pl.setCell (h : Pl w B v l) {p : Addr} (hB : B ≤ p.block) (u : Value) : Pl (w.setCell p u) B v l :=
  h.keep fun q hq => World.cell?_setCell_other w p q u (fun e => by subst e; omega)
theorem Pl.len (h : Pl w B (.slice A n c) l) : n = l.length ∧ n ≤ c ∧ c ≤ maxLen := by
  obtain ⟨A', c', e, hl, hm, h⟩ := h
  injection e with e1 e2 e3
  subst e2; subst e3
  exact ⟨rfl, hl, hm⟩
theorem Pl.rd (h : Pl w B (.slice A n c) l) : Rd w B 3 A n (scs l) := by
  obtain ⟨A', c', e, hl, hm, h⟩ := h
  injection e with e1 e2 e3
  subst e1; subst e2
  exact h
theorem Pl.form (h : Pl w B v l) : ∃ A c, v = .slice A l.length c ∧ l.length ≤ c ∧ c ≤ maxLen := by
  obtain ⟨A, c, e, hl, hm, _⟩ := h; exact ⟨A, c, e, hl, hm⟩
theorem Pl.of_own {base : Nat} {e : TypeId} {n : Nat} (h : w.ownsRow base e 3 v n (scs l)) : Pl w w.heap.size v l := by
  have hl : n = l.length := by have := h.1; rw [scs_len] at this; omega
  subst hl
  rcases h.2 with ⟨hv, h0⟩ | ⟨g, cap, cur, hv, _, _, hl, hm, _⟩
  · subst hv; exact ⟨none, 0, by rw [h0], by omega, Nat.zero_le _, by rw [show l = [] from List.length_eq_zero_iff.1 h0]; exact Rd.nil _⟩
  · subst hv; exact ⟨_, cap, rfl, hl, hm, Rd.of_own h⟩
theorem Pl.offp (h : Pl w B (.slice A n c) l) {p : Addr} (ho : ∀ a, A = some a → 0 < n → a.block ≠ p.block) (v : Value) : Pl (w.setCell p v) B (.slice A n c) l := by
  obtain ⟨h1, h2, h3⟩ := h.len
  subst h1
  refine ⟨A, c, rfl, h2, h3, h.rd.1, fun hn => ?_⟩
  obtain ⟨b, o, e, hb, hc⟩ := h.rd.2 hn
  have := ho _ e hn
  exact ⟨b, o, e, hb, fun j u hu => (World.cell?_setCell_other w p _ v (fun e' => by have e2 := congrArg Addr.block e'; simp at e2 this; omega)).trans (hc j u hu)⟩
/-- The span at place k, and where it lies. -/
theorem Pl.atg {k : Nat} (h : Pl w B (.slice A n c) l) (hk : k < l.length) : ∃ b o, A = some ⟨b, o, none⟩ ∧ b < B ∧ w.cell? ⟨b, o + k * 3, none⟩ = some (.int .i64 (sg l k).lo) ∧ w.cell? ⟨b, o + k * 3 + 1, none⟩ = some (.int .i64 (sg l k).hi) ∧ w.cell? ⟨b, o + k * 3 + 2, none⟩ = some (.int .i64 (sg l k).sh) := by
  have hn := h.len.1
  obtain ⟨b, o, e, hb, hc⟩ := h.rd.2 (by omega)
  have g : ∀ j u, j < 3 → l[k].l[j]? = some u → w.cell? ⟨b, o + k * 3 + j, none⟩ = some u := fun j u hj hu => by
    rw [Nat.add_assoc]; exact hc _ u (by rw [scs_at l k j hk hj]; exact hu)
  rw [sg_get hk]
  exact ⟨b, o, e, hb, g 0 _ (by omega) rfl, g 1 _ (by omega) rfl, g 2 _ (by omega) rfl⟩
/-- A cut l[:k]. -/
theorem Pl.upto {k : Nat} (h : Pl w B (.slice A n c) l) (hk : k ≤ l.length) : Pl w B (.slice A k c) (l.take k) := by
  obtain ⟨h1, h2, h3⟩ := h.len
  refine ⟨A, c, by rw [List.length_take, Nat.min_eq_left hk], by rw [List.length_take, Nat.min_eq_left hk]; omega, h3, ?_⟩
  rw [List.length_take, Nat.min_eq_left hk]
  refine ⟨by rw [scs_len, List.length_take, Nat.min_eq_left hk], fun h0 => ?_⟩
  obtain ⟨b, o, e, hb, hc⟩ := h.rd.2 (by omega)
  exact ⟨b, o, e, hb, fun j u hu => hc j u (by
    rw [← scs_take, List.getElem?_take] at hu
    split at hu
    · exact hu
    · cases hu)⟩
/-- A cut l[k:]. -/
theorem Pl.from {k : Nat} (h : Pl w B (.slice A n c) l) (hk : k ≤ l.length) : Pl w B (.slice (if c = k then A else A.map (·.add (k * 3))) (l.length - k) (c - k)) (l.drop k) := by
  obtain ⟨h1, h2, h3⟩ := h.len
  refine ⟨_, c - k, by rw [List.length_drop], by rw [List.length_drop]; omega, by omega, ?_⟩
  rw [List.length_drop]
  refine ⟨by rw [scs_len, List.length_drop], fun h0 => ?_⟩
  obtain ⟨b, o, e, hb, hc⟩ := h.rd.2 (by omega)
  rw [if_neg (by omega), e]
  refine ⟨b, o + k * 3, by rw [Option.map_some, add_mk], hb, fun j u hu => ?_⟩
  rw [Nat.add_assoc]
  exact hc _ u (by rw [← scs_drop, List.getElem?_drop] at hu; exact hu)
end

/-- A value that is a slice, reads as these numbers and lies below B. -/
def Fl (w : World) (B : Nat) (v : Value) (l : List Int) : Prop := ∃ A c, v = .slice A l.length c ∧ l.length ≤ c ∧ c ≤ maxLen ∧ Rd w B 1 A l.length (ics l)
section
variable {w w' : World} {B B' : Nat} {v : Value} {l : List Int} {A : Option Addr} {n c : Nat}
theorem Fl.nil : Fl w B (.slice none 0 0) [] := ⟨none, 0, rfl, Nat.le_refl _, Nat.zero_le _, Rd.nil none⟩
theorem Fl.keep (h : Fl w B v l) (hk : ∀ p : Addr, p.block < B → w'.cell? p = w.cell? p) : Fl w' B v l := by
  obtain ⟨A, c, e, hl, hm, h⟩ := h; exact ⟨A, c, e, hl, hm, h.keep hk⟩
theorem Fl.more (h : Fl w B v l) (hB : B ≤ B') : Fl w B' v l := by
  obtain ⟨A, c, e, hl, hm, h⟩ := h; exact ⟨A, c, e, hl, hm, h.more hB⟩
theorem Fl.below (h : Fl w B v l) (hb : Below B w w') : Fl w' B v l := h.keep fun _ hp => hb.cell hp
theorem Fl.up (h : Fl w w.heap.size v l) (hb : Below w.heap.size w w') : Fl w' w'.heap.size v l := (h.below hb).more hb.size
theorem Fl.alloc (h : Fl w B v l) (hB : B ≤ w.heap.size) (o : Obj) : Fl (w.alloc o) B v l := h.keep fun p hp => World.cell?_alloc_lt w o p (by omega)
theorem Fl.setCell (h : Fl w B v l) {p : Addr} (hB : B ≤ p.block) (u : Value) : Fl (w.setCell p u) B v l :=
  h.keep fun q hq => World.cell?_setCell_other w p q u (fun e => by subst e; omega)
theorem Fl.len (h : Fl w B (.slice A n c) l) : n = l.length ∧ n ≤ c ∧ c ≤ maxLen := by
  obtain ⟨A', c', e, hl, hm, h⟩ := h
  injection e with e1 e2 e3
  subst e2; subst e3
  exact ⟨rfl, hl, hm⟩
theorem Fl.rd (h : Fl w B (.slice A n c) l) : Rd w B 1 A n (ics l) := by
  obtain ⟨A', c', e, hl, hm, h⟩ := h
  injection e with e1 e2 e3
  subst e1; subst e2
  exact h
theorem Fl.form (h : Fl w B v l) : ∃ A c, v = .slice A l.length c ∧ l.length ≤ c ∧ c ≤ maxLen := by
  obtain ⟨A, c, e, hl, hm, _⟩ := h; exact ⟨A, c, e, hl, hm⟩
theorem Fl.of_own {base : Nat} {e : TypeId} {n : Nat} (h : w.ownsRow base e 1 v n (ics l)) : Fl w w.heap.size v l := by
  have hl : n = l.length := by have := h.1; rw [ics_len] at this; omega
  subst hl
  rcases h.2 with ⟨hv, h0⟩ | ⟨g, cap, cur, hv, _, _, hl, hm, _⟩
  · subst hv; exact ⟨none, 0, by rw [h0], by omega, Nat.zero_le _, by rw [show l = [] from List.length_eq_zero_iff.1 h0]; exact Rd.nil _⟩
  · subst hv; exact ⟨_, cap, rfl, hl, hm, Rd.of_own h⟩
theorem Fl.offp (h : Fl w B (.slice A n c) l) {p : Addr} (ho : ∀ a, A = some a → 0 < n → a.block ≠ p.block) (v : Value) : Fl (w.setCell p v) B (.slice A n c) l := by
  obtain ⟨h1, h2, h3⟩ := h.len
  subst h1
  refine ⟨A, c, rfl, h2, h3, h.rd.1, fun hn => ?_⟩
  obtain ⟨b, o, e, hb, hc⟩ := h.rd.2 hn
  have := ho _ e hn
  exact ⟨b, o, e, hb, fun j u hu => (World.cell?_setCell_other w p _ v (fun e' => by have e2 := congrArg Addr.block e'; simp at e2 this; omega)).trans (hc j u hu)⟩
/-- The number at place k, and where it lies. -/
theorem Fl.atg {k : Nat} (h : Fl w B (.slice A n c) l) (hk : k < l.length) : ∃ b o, A = some ⟨b, o, none⟩ ∧ b < B ∧ w.cell? ⟨b, o + k, none⟩ = some (.int .i64 (ig l k)) := by
  have hn := h.len.1
  obtain ⟨b, o, e, hb, hc⟩ := h.rd.2 (by omega)
  rw [ig_get hk]
  exact ⟨b, o, e, hb, hc _ _ (by simp [ics, hk, i64v])⟩
end

/-- Where the lists of a directory lie. -/
structure Dx where
  A : Option Addr
  c : Nat
  A2 : Option Addr
  c2 : Nat
def zDx : Dx := ⟨none, 0, none, 0⟩
/-- A directory as a value. -/
abbrev dv (d : Dd) (X : Dx) : Value := .agg #[.int .i64 d.vn, .slice X.A d.l.length X.c, .slice X.A2 d.F.length X.c2]
/-- The lists of a directory read so, and lie below B. -/
structure DR (W : World) (B : Nat) (d : Dd) (X : Dx) : Prop where
  pl : Pl W B (.slice X.A d.l.length X.c) d.l
  fl : Fl W B (.slice X.A2 d.F.length X.c2) d.F
section
variable {W W' : World} {B B' p : Nat} {d : Dd} {X : Dx}
theorem DR.below (h : DR W B d X) (hb : Below B W W') : DR W' B d X := ⟨h.pl.below hb, h.fl.below hb⟩
theorem DR.more (h : DR W B d X) (hB : B ≤ B') : DR W B' d X := ⟨h.pl.more hB, h.fl.more hB⟩
theorem DR.up (h : DR W W.heap.size d X) (hb : Below W.heap.size W W') : DR W' W'.heap.size d X := (h.below hb).more hb.size
theorem DR.zero : DR W B zD10 zDx := ⟨Pl.nil, Fl.nil⟩
theorem DR.alloc (h : DR W W.heap.size d X) (o : Obj) : DR (W.alloc o) (W.alloc o).heap.size d X := h.up ((Below.refl _ _).alloc (Nat.le_refl _) o)
/-- The lists do not lie in block p. -/
structure DOff (d : Dd) (X : Dx) (p : Nat) : Prop where
  o1 : ∀ a, X.A = some a → 0 < d.l.length → a.block ≠ p
  o2 : ∀ a, X.A2 = some a → 0 < d.F.length → a.block ≠ p
theorem DR.offs (h : DR W B d X) (hp : B ≤ p) : DOff d X p := by
  refine ⟨fun a e h0 => ?_, fun a e h0 => ?_⟩
  · obtain ⟨b, o, e2, hb, _⟩ := h.pl.rd.2 h0
    rw [e2] at e; injection e with e; subst e; show b ≠ p; omega
  · obtain ⟨b, o, e2, hb, _⟩ := h.fl.rd.2 h0
    rw [e2] at e; injection e with e; subst e; show b ≠ p; omega
theorem DR.offp (h : DR W B d X) {q : Addr} (ho : DOff d X q.block) (v : Value) : DR (W.setCell q v) B d X := ⟨h.pl.offp ho.o1 v, h.fl.offp ho.o2 v⟩
/-- Both lie from a block on. -/
def Dx.nw (X : Dx) (lo : Nat) : Prop := Nw lo X.A ∧ Nw lo X.A2
theorem Dx.nw.off {lo : Nat} (h : X.nw lo) (hp : p < lo) : DOff d X p := ⟨fun a e _ => by have := h.1 a e; omega, fun a e _ => by have := h.2 a e; omega⟩
theorem Dx.nw.low {lo lo' : Nat} (h : X.nw lo) (hp : lo' ≤ lo) : X.nw lo' := ⟨nw_low h.1 hp, nw_low h.2 hp⟩
theorem zDx_nw (lo : Nat) : zDx.nw lo := ⟨nw_none, nw_none⟩
end
/-- Block p holds a directory, and may be written. -/
structure Db10 (W : World) (p : Nat) (d : Dd) (X : Dx) : Prop where
  c0 : W.cell? ⟨p, 0, none⟩ = some (.int .i64 d.vn)
  c1 : W.cell? ⟨p, 1, none⟩ = some (.slice X.A d.l.length X.c)
  c2 : W.cell? ⟨p, 2, none⟩ = some (.slice X.A2 d.F.length X.c2)
  fr : ∀ o, W.frozen? ⟨p, o, none⟩ = false
  lt : p < W.heap.size
section
variable {W W' : World} {p : Nat} {d : Dd} {X : Dx}
theorem Db10.keep (h : Db10 W p d X) (hc : ∀ o, W'.cell? ⟨p, o, none⟩ = W.cell? ⟨p, o, none⟩) (hf : ∀ o, W'.frozen? ⟨p, o, none⟩ = W.frozen? ⟨p, o, none⟩) (hs : W.heap.size ≤ W'.heap.size) : Db10 W' p d X :=
  ⟨(hc 0).trans h.c0, (hc 1).trans h.c1, (hc 2).trans h.c2, fun o => (hf o).trans (h.fr o), Nat.lt_of_lt_of_le h.lt hs⟩
theorem Db10.up (h : Db10 W p d X) (hb : Below W.heap.size W W') : Db10 W' p d X := h.keep (fun o => hb.cell (p := ⟨p, o, none⟩) h.lt) (fun o => hb.frozen (p := ⟨p, o, none⟩) h.lt) hb.size
theorem Db10.alloc (h : Db10 W p d X) (o : Obj) : Db10 (W.alloc o) p d X := h.up ((Below.refl _ _).alloc (Nat.le_refl _) o)
theorem Db10.other (h : Db10 W p d X) {a : Addr} (hne : a.block ≠ p) (v : Value) : Db10 (W.setCell a v) p d X :=
  h.keep (fun o => World.cell?_setCell_other W a ⟨p, o, none⟩ v (fun e => hne (by rw [e]))) (fun o => by simp [go_sem]) (by simp)
theorem Db10.grown {g : Nat} (h : Db10 W p d X) (hg : W.grownBy W' (some g)) (hne : p ≠ g) : Db10 W' p d X := h.keep (fun o => hg.cell_far ⟨p, o, none⟩ h.lt (fun e => by injection e with e; exact hne e)) (fun o => hg.frozen_far ⟨p, o, none⟩ h.lt (fun e => by injection e with e; exact hne e)) hg.size
theorem Db10.start (w : World) (d : Dd) (X : Dx) (t : TypeId) : Db10 (w.alloc (.cells #[.int .i64 d.vn, .slice X.A d.l.length X.c, .slice X.A2 d.F.length X.c2] t)) w.heap.size d X :=
  ⟨by simp [go_sem], by simp [go_sem], by simp [go_sem], fun o => by simp [go_sem], by simp⟩
theorem Db10.zero (w : World) (t : TypeId) : Db10 (w.alloc (.cells #[.int .i64 0, .slice none 0 0, .slice none 0 0] t)) w.heap.size zD10 zDx := Db10.start w zD10 zDx t
theorem Db10.set (h : Db10 W p d X) (e : Dd) (Y : Dx) : Db10 (((W.setCell ⟨p, 0, none⟩ (.int .i64 e.vn)).setCell ⟨p, 1, none⟩ (.slice Y.A e.l.length Y.c)).setCell ⟨p, 2, none⟩ (.slice Y.A2 e.F.length Y.c2)) p e Y := by
  obtain ⟨c0, c1, c2, fr, lt⟩ := h
  exact ⟨by simp [go_sem, c0], by simp [go_sem, c1], by simp [go_sem, c2], fun o => by simp [go_sem, fr o], by simp [lt]⟩
theorem Db10.all (h : Db10 W p d X) : (W.cell? ⟨p, 0, none⟩ = some (.int .i64 d.vn) ∧ W.cell? ⟨p, 1, none⟩ = some (.slice X.A d.l.length X.c) ∧ W.cell? ⟨p, 2, none⟩ = some (.slice X.A2 d.F.length X.c2) ∧ p < W.heap.size) ∧ W.frozen? ⟨p, 0, none⟩ = false ∧ W.frozen? ⟨p, 1, none⟩ = false ∧ W.frozen? ⟨p, 2, none⟩ = false := ⟨⟨h.c0, h.c1, h.c2, h.lt⟩, h.fr 0, h.fr 1, h.fr 2⟩
end
/-- A directory in a box of the call's own. -/
structure DAt (w : World) (p : Nat) (d : Dd) (X : Dx) (W : World) : Prop where
  db : Db10 W p d X
  dr : DR W W.heap.size d X
  off : DOff d X p
  bel : Below w.heap.size w W
  old : w.heap.size ≤ p
section
variable {w W W' : World} {p : Nat} {d : Dd} {X : Dx}
theorem DAt.start {w : World} {d : Dd} {X : Dx} (t : TypeId) (h : DR w w.heap.size d X) : DAt w w.heap.size d X (w.alloc (.cells #[.int .i64 d.vn, .slice X.A d.l.length X.c, .slice X.A2 d.F.length X.c2] t)) :=
  ⟨Db10.start w d X t, h.alloc _, h.offs (Nat.le_refl _), (Below.refl _ _).alloc (Nat.le_refl _) _, Nat.le_refl _⟩
theorem DAt.below (h : DAt w p d X W) (hb : Below W.heap.size W W') : DAt w p d X W' := ⟨h.db.up hb, h.dr.up hb, h.off, h.bel.trans (hb.mono h.bel.size), h.old⟩
theorem DAt.alloc (h : DAt w p d X W) (o : Obj) : DAt w p d X (W.alloc o) := h.below ((Below.refl _ _).alloc (Nat.le_refl _) o)
theorem DAt.drew (h : DAt w p d X W) : DAt w p d X W.drew := h.below (Below.refl _ _).drew
theorem DAt.other (h : DAt w p d X W) {a : Addr} (hne : a.block ≠ p) (ho : DOff d X a.block) (ha : w.heap.size ≤ a.block) (v : Value) : DAt w p d X (W.setCell a v) :=
  ⟨h.db.other hne v, (h.dr.offp ho v).more (by simp), h.off, h.bel.setCell ha v, h.old⟩
/-- The cells of the box. -/
abbrev K3 (p : Nat) (d : Dd) (X : Dx) (W : World) : Prop := W.cell? ⟨p, 0, none⟩ = some (.int .i64 d.vn) ∧ W.cell? ⟨p, 1, none⟩ = some (.slice X.A d.l.length X.c) ∧ W.cell? ⟨p, 2, none⟩ = some (.slice X.A2 d.F.length X.c2)
theorem DAt.k (h : DAt w p d X W) : K3 p d X W := ⟨h.db.c0, h.db.c1, h.db.c2⟩
end
end Go.Proofs.Ytijpflljopckiaa
/- Plain: slots and arenas in memory. -/
namespace Go.Proofs.Ytijpflljopckiaa
open Go.RowKit
set_option linter.unusedVariables false

/-- A slot's owner and shard. -/
structure So where
  ow : Int
  sh : Sh
/-- .. and where the shard's lists lie. -/
structure Sl where
  ow : Int
  sh : Sh
  sx : Sx
def Sl.so (s : Sl) : So := ⟨s.ow, s.sh⟩
def zSl : Sl := ⟨0, zS, zX⟩
/-- The cells of a slot. -/
def Sl.l (s : Sl) : List Value := [.int .i64 s.ow, .bool s.sh.lv, .int .i64 s.sh.lo, .int .i64 s.sh.hi, .slice s.sx.A s.sh.cs.length s.sx.c, .int .i64 s.sh.hd, .int .i64 s.sh.sz, .slice s.sx.A2 s.sh.l.length s.sx.c2, .slice s.sx.A3 s.sh.h.length s.sx.c3]
/-- The slot as a value. -/
abbrev Sl.v (s : Sl) : Value := .agg #[.int .i64 s.ow, .bool s.sh.lv, .int .i64 s.sh.lo, .int .i64 s.sh.hi, .slice s.sx.A s.sh.cs.length s.sx.c, .int .i64 s.sh.hd, .int .i64 s.sh.sz, .slice s.sx.A2 s.sh.l.length s.sx.c2, .slice s.sx.A3 s.sh.h.length s.sx.c3]
theorem Sl.l_len (s : Sl) : s.l.length = 9 := rfl
theorem Sl.l_one (s : Sl) : ∀ u ∈ s.l, u.oneCell' = true := by
  intro u hu
  simp only [Sl.l, List.mem_cons, List.not_mem_nil, or_false] at hu
  rcases hu with rfl | rfl | rfl | rfl | rfl | rfl | rfl | rfl | rfl <;> rfl
theorem sl_so {s : Sl} {o : So} (h : s.so = o) : s.ow = o.ow ∧ s.sh = o.sh := by subst h; exact ⟨rfl, rfl⟩
def qcs (l : List Sl) : List Value := l.flatMap Sl.l
theorem qcs_cons (d : Sl) (l : List Sl) : qcs (d :: l) = d.l ++ qcs l := rfl
theorem qcs_len (l : List Sl) : (qcs l).length = l.length * 9 := by
  induction l with
  | nil => rfl
  | cons d l ih => rw [qcs_cons, List.length_append, ih, Sl.l_len]; simp; omega
theorem qcs_drop (l : List Sl) (k : Nat) : (qcs l).drop (k * 9) = qcs (l.drop k) := by
  induction k generalizing l with
  | zero => simp
  | succ k ih =>
    cases l with
    | nil => simp [qcs]
    | cons d l =>
      rw [qcs_cons, List.drop_succ_cons, ← ih, show (k + 1) * 9 = d.l.length + k * 9 by rw [Sl.l_len]; omega, List.drop_append, List.drop_eq_nil_of_le (by omega)]
      simp
theorem qcs_at (l : List Sl) (k j : Nat) (hk : k < l.length) (hj : j < 9) : (qcs l)[k * 9 + j]? = l[k].l[j]? := by
  have h := qcs_drop l k
  have e : (qcs l)[k * 9 + j]? = ((qcs l).drop (k * 9))[j]? := by rw [List.getElem?_drop]
  rw [e, h, List.drop_eq_getElem_cons hk, qcs_cons, List.getElem?_append_left (by rw [Sl.l_len]; exact hj)]
theorem qcs_one (l : List Sl) : ∀ u ∈ qcs l, u.oneCell' = true := by
  intro u hu
  obtain ⟨M, _, h⟩ := List.mem_flatMap.1 hu
  exact M.l_one u h
/-- A value that is a slice, reads as these slots and lies below B. -/
def Ql (w : World) (B : Nat) (v : Value) (l : List Sl) : Prop := ∃ A c, v = .slice A l.length c ∧ l.length ≤ c ∧ c ≤ maxLen ∧ Rd w B 9 A l.length (qcs l)
section
variable {w w' : World} {B B' : Nat} {v : Value} {l : List Sl} {A : Option Addr} {n c : Nat}
theorem Ql.nil : Ql w B (.slice none 0 0) [] := ⟨none, 0, rfl, Nat.le_refl _, Nat.zero_le _, Rd.nil none⟩
theorem Ql.keep (h : Ql w B v l) (hk : ∀ p : Addr, p.block < B → w'.cell? p = w.cell? p) : Ql w' B v l := by
  obtain ⟨A, c, e, hl, hm, h⟩ := h; exact ⟨A, c, e, hl, hm, h.keep hk⟩
theorem Ql.more (h : Ql w B v l) (hB : B ≤ B') : Ql w B' v l := by
  obtain ⟨A, c, e, hl, hm, h⟩ := h; exact ⟨A, c, e, hl, hm, h.more hB⟩
theorem Ql.below (h : Ql w B v l) (hb : Below B w w') : Ql w' B v l := h.keep fun _ hp => hb.cell hp
theorem Ql.up (h : Ql w w.heap.size v l) (hb : Below w.heap.size w w') : Ql w' w'.heap.size v l := (h.below hb).more hb.size
theorem Ql.alloc (h : Ql w B v l) (hB : B ≤ w.heap.size) (o : Obj) : Ql (w.alloc o) B v l := h.keep fun p hp => World.cell?_alloc_lt w o p (by omega)
theorem Ql.setCell (h : Ql w B v l) {p : Addr} (hB : B ≤ p.block) (u : Value) : Ql (w.setCell p u) B v l :=
  h.keep fun q hq => World.cell?_setCell_other w p q u (fun e => by subst e; omega)
theorem Ql.len (h : Ql w B (.slice A n c) l) : n = l.length ∧ n ≤ c ∧ c ≤ maxLen := by
  obtain ⟨A', c', e, hl, hm, h⟩ := h
  injection e with e1 e2 e3
  subst e2; subst e3
  exact ⟨rfl, hl, hm⟩
theorem Ql.rd (h : Ql w B (.slice A n c) l) : Rd w B 9 A n (qcs l) := by
  obtain ⟨A', c', e, hl, hm, h⟩ := h
  injection e with e1 e2 e3
  subst e1; subst e2
  exact h
theorem Ql.form (h : Ql w B v l) : ∃ A c, v = .slice A l.length c ∧ l.length ≤ c ∧ c ≤ maxLen := by
  obtain ⟨A, c, e, hl, hm, _⟩ := h; exact ⟨A, c, e, hl, hm⟩
theorem Ql.of_own {base : Nat} {e : TypeId} {n : Nat} (h : w.ownsRow base e 9 v n (qcs l)) : Ql w w.heap.size v l := by
  have hl : n = l.length := by have := h.1; rw [qcs_len] at this; omega
  subst hl
  rcases h.2 with ⟨hv, h0⟩ | ⟨g, cap, cur, hv, _, _, hl, hm, _⟩
  · subst hv; exact ⟨none, 0, by rw [h0], by omega, Nat.zero_le _, by rw [show l = [] from List.length_eq_zero_iff.1 h0]; exact Rd.nil _⟩
  · subst hv; exact ⟨_, cap, rfl, hl, hm, Rd.of_own h⟩
theorem Ql.offp (h : Ql w B (.slice A n c) l) {p : Addr} (ho : ∀ a, A = some a → 0 < n → a.block ≠ p.block) (v : Value) : Ql (w.setCell p v) B (.slice A n c) l := by
  obtain ⟨h1, h2, h3⟩ := h.len
  subst h1
  refine ⟨A, c, rfl, h2, h3, h.rd.1, fun hn => ?_⟩
  obtain ⟨b, o, e, hb, hc⟩ := h.rd.2 hn
  have := ho _ e hn
  exact ⟨b, o, e, hb, fun j u hu => (World.cell?_setCell_other w p _ v (fun e' => by have e2 := congrArg Addr.block e'; simp at e2 this; omega)).trans (hc j u hu)⟩
/-- The nine cells of a slot. -/
abbrev Q9 (W : World) (b o : Nat) (s : Sl) : Prop := W.cell? ⟨b, o, none⟩ = some (.int .i64 s.ow) ∧ W.cell? ⟨b, o + 1, none⟩ = some (.bool s.sh.lv) ∧ W.cell? ⟨b, o + 2, none⟩ = some (.int .i64 s.sh.lo) ∧ W.cell? ⟨b, o + 3, none⟩ = some (.int .i64 s.sh.hi) ∧ W.cell? ⟨b, o + 4, none⟩ = some (.slice s.sx.A s.sh.cs.length s.sx.c) ∧ W.cell? ⟨b, o + 5, none⟩ = some (.int .i64 s.sh.hd) ∧ W.cell? ⟨b, o + 6, none⟩ = some (.int .i64 s.sh.sz) ∧ W.cell? ⟨b, o + 7, none⟩ = some (.slice s.sx.A2 s.sh.l.length s.sx.c2) ∧ W.cell? ⟨b, o + 8, none⟩ = some (.slice s.sx.A3 s.sh.h.length s.sx.c3)
/-- The slot at place k, and where it lies. -/
theorem Ql.atg {k : Nat} (h : Ql w B (.slice A n c) l) (hk : k < l.length) : ∃ b o, A = some ⟨b, o, none⟩ ∧ b < B ∧ Q9 w b (o + k * 9) l[k] := by
  have hn := h.len.1
  obtain ⟨b, o, e, hb, hc⟩ := h.rd.2 (by omega)
  have g : ∀ j u, j < 9 → l[k].l[j]? = some u → w.cell? ⟨b, o + k * 9 + j, none⟩ = some u := fun j u hj hu => by
    rw [Nat.add_assoc]; exact hc _ u (by rw [qcs_at l k j hk hj]; exact hu)
  exact ⟨b, o, e, hb, g 0 _ (by omega) rfl, g 1 _ (by omega) rfl, g 2 _ (by omega) rfl, g 3 _ (by omega) rfl, g 4 _ (by omega) rfl, g 5 _ (by omega) rfl, g 6 _ (by omega) rfl, g 7 _ (by omega) rfl, g 8 _ (by omega) rfl⟩
end

/-- An arena. -/
structure Ar where
  sl : List So
  st : List St
  ow : Int
  cap : Int
  dl : List Msg
  dir : Dd
  ep : Int
  ck : Int
  ni : Int
def zA : Ar := ⟨[], [], 0, 0, [], zD10, 0, 0, 0⟩
/-- Where its lists lie. -/
structure Ax where
  A : Option Addr
  c : Nat
  q : List Sl
  A2 : Option Addr
  c2 : Nat
  A3 : Option Addr
  c3 : Nat
  D : Dx
def zAx : Ax := ⟨none, 0, [], none, 0, none, 0, zDx⟩
/-- An arena as a value. -/
abbrev av (a : Ar) (Y : Ax) : Value := .agg #[.slice Y.A a.sl.length Y.c, .slice Y.A2 a.st.length Y.c2, .int .i64 a.ow, .int .i64 a.cap, .slice Y.A3 a.dl.length Y.c3, .int .i64 a.dir.vn, .slice Y.D.A a.dir.l.length Y.D.c, .slice Y.D.A2 a.dir.F.length Y.D.c2, .int .i64 a.ep, .int .i64 a.ck, .int .i64 a.ni]
/-- The cells of its box. -/
abbrev acl (a : Ar) (Y : Ax) : Array Value := #[.slice Y.A a.sl.length Y.c, .slice Y.A2 a.st.length Y.c2, .int .i64 a.ow, .int .i64 a.cap, .slice Y.A3 a.dl.length Y.c3, .int .i64 a.dir.vn, .slice Y.D.A a.dir.l.length Y.D.c, .slice Y.D.A2 a.dir.F.length Y.D.c2, .int .i64 a.ep, .int .i64 a.ck, .int .i64 a.ni]
/-- The lists of an arena read so, and lie below B. -/
structure AR (W : World) (B : Nat) (a : Ar) (Y : Ax) : Prop where
  ql : Ql W B (.slice Y.A a.sl.length Y.c) Y.q
  so : Y.q.map Sl.so = a.sl
  sr : ∀ s ∈ Y.q, SR W B s.sh s.sx
  tl : Tl W B (.slice Y.A2 a.st.length Y.c2) a.st
  ls : Ls W B (.slice Y.A3 a.dl.length Y.c3) a.dl
  dr : DR W B a.dir Y.D
/-- They do not lie in block p. -/
structure AOff (a : Ar) (Y : Ax) (p : Nat) : Prop where
  o1 : OffB p a.sl.length Y.A
  os : ∀ s ∈ Y.q, SOff s.sh s.sx p
  o2 : OffB p a.st.length Y.A2
  o3 : OffB p a.dl.length Y.A3
  o4 : DOff a.dir Y.D p
/-- They lie from a block on. -/
structure Ax.nw (Y : Ax) (lo : Nat) : Prop where
  n1 : Nw lo Y.A
  ns : ∀ s ∈ Y.q, s.sx.nw lo
  n2 : Nw lo Y.A2
  n3 : Nw lo Y.A3
  n4 : Y.D.nw lo
theorem zAx_nw (lo : Nat) : zAx.nw lo := ⟨nw_none, fun s h => absurd h (by simp [zAx]), nw_none, nw_none, zDx_nw lo⟩
section
variable {W W' : World} {B B' p lo lo' : Nat} {a : Ar} {Y : Ax}
theorem Ax.nw.off (h : Y.nw lo) (hp : p < lo) : AOff a Y p := ⟨offb_nw h.n1 hp, fun s hs => (h.ns s hs).off hp, offb_nw h.n2 hp, offb_nw h.n3 hp, h.n4.off hp⟩
theorem Ax.nw.low (h : Y.nw lo) (hp : lo' ≤ lo) : Y.nw lo' := ⟨nw_low h.n1 hp, fun s hs => (h.ns s hs).low hp, nw_low h.n2 hp, nw_low h.n3 hp, h.n4.low hp⟩
theorem AR.below (h : AR W B a Y) (hb : Below B W W') : AR W' B a Y := ⟨h.ql.below hb, h.so, fun s hs => (h.sr s hs).below hb, h.tl.below hb, h.ls.below hb, h.dr.below hb⟩
theorem AR.more (h : AR W B a Y) (hB : B ≤ B') : AR W B' a Y := ⟨h.ql.more hB, h.so, fun s hs => (h.sr s hs).more hB, h.tl.more hB, h.ls.more hB, h.dr.more hB⟩
theorem AR.up (h : AR W W.heap.size a Y) (hb : Below W.heap.size W W') : AR W' W'.heap.size a Y := (h.below hb).more hb.size
theorem AR.alloc (h : AR W W.heap.size a Y) (o : Obj) : AR (W.alloc o) (W.alloc o).heap.size a Y := h.up ((Below.refl _ _).alloc (Nat.le_refl _) o)
theorem AR.zero : AR W B zA zAx := ⟨Ql.nil, rfl, fun s h => absurd h (by simp [zAx]), Tl.nil, Ls.nil, DR.zero⟩
theorem AR.len (h : AR W B a Y) : Y.q.length = a.sl.length := by rw [← h.so]; simp
theorem Ql.offb {A : Option Addr} {n c : Nat} {l : List Sl} (h : Ql W B (.slice A n c) l) {p : Addr} (ho : OffB p.block n A) (v : Value) : Ql (W.setCell p v) B (.slice A n c) l := h.offp (fun a e h0 => ho h0 a e) v
theorem AR.offs (h : AR W B a Y) (hp : B ≤ p) : AOff a Y p :=
  ⟨rd_off h.ql.rd hp, fun s hs => ⟨rd_off (h.sr s hs).ls.rd hp, rd_off (h.sr s hs).el.rd hp, rd_off (h.sr s hs).dl.rd hp⟩, rd_off h.tl.rd hp, rd_off h.ls.rd hp, h.dr.offs hp⟩
theorem Tl.offb {A : Option Addr} {n c : Nat} {l : List St} (h : Tl W B (.slice A n c) l) {p : Addr} (ho : OffB p.block n A) (v : Value) : Tl (W.setCell p v) B (.slice A n c) l := by
  obtain ⟨h1, h2, h3⟩ := h.len
  subst h1
  exact ⟨A, c, rfl, h2, h3, h.rd.offp ho v⟩
theorem AR.offp (h : AR W B a Y) {q : Addr} (ho : AOff a Y q.block) (v : Value) : AR (W.setCell q v) B a Y :=
  ⟨h.ql.offb ho.o1 v, h.so, fun s hs => (h.sr s hs).offp (ho.os s hs) v, h.tl.offb ho.o2 v, h.ls.offp ho.o3 v, h.dr.offp ho.o4 v⟩
/-- The shard of a slot, and where it lies. -/
theorem AR.atg {k : Nat} (h : AR W B a Y) (hk : k < a.sl.length) : ∃ (s : Sl) (b o : Nat), Y.q[k]? = some s ∧ s.so = a.sl[k] ∧ Y.A = some ⟨b, o, none⟩ ∧ b < B ∧ Q9 W b (o + k * 9) s ∧ SR W B s.sh s.sx := by
  have hl : k < Y.q.length := by rw [h.len]; exact hk
  obtain ⟨b, o, e, hb, hq⟩ := h.ql.atg hl
  exact ⟨Y.q[k], b, o, List.getElem?_eq_getElem hl, by simp [← h.so], e, hb, hq, h.sr _ (List.getElem_mem hl)⟩
end
/-- The cells of the box p of an arena. -/
abbrev K11 (p : Nat) (a : Ar) (Y : Ax) (W : World) : Prop :=
  W.cell? ⟨p, 0, none⟩ = some (.slice Y.A a.sl.length Y.c) ∧ W.cell? ⟨p, 1, none⟩ = some (.slice Y.A2 a.st.length Y.c2) ∧ W.cell? ⟨p, 2, none⟩ = some (.int .i64 a.ow) ∧ W.cell? ⟨p, 3, none⟩ = some (.int .i64 a.cap) ∧ W.cell? ⟨p, 4, none⟩ = some (.slice Y.A3 a.dl.length Y.c3) ∧ W.cell? ⟨p, 5, none⟩ = some (.int .i64 a.dir.vn) ∧ W.cell? ⟨p, 6, none⟩ = some (.slice Y.D.A a.dir.l.length Y.D.c) ∧ W.cell? ⟨p, 7, none⟩ = some (.slice Y.D.A2 a.dir.F.length Y.D.c2) ∧ W.cell? ⟨p, 8, none⟩ = some (.int .i64 a.ep) ∧ W.cell? ⟨p, 9, none⟩ = some (.int .i64 a.ck) ∧ W.cell? ⟨p, 10, none⟩ = some (.int .i64 a.ni)
/-- Block p holds an arena, and may be written. -/
structure QB (W : World) (p : Nat) (a : Ar) (Y : Ax) : Prop where
  k : K11 p a Y W
  fr : ∀ o, W.frozen? ⟨p, o, none⟩ = false
  lt : p < W.heap.size
/-- The eleven stores of an arena. -/
abbrev set11 (W : World) (p : Nat) (a : Ar) (Y : Ax) : World := ((((((((((W.setCell ⟨p, 0, none⟩ (.slice Y.A a.sl.length Y.c)).setCell ⟨p, 1, none⟩ (.slice Y.A2 a.st.length Y.c2)).setCell ⟨p, 2, none⟩ (.int .i64 a.ow)).setCell ⟨p, 3, none⟩ (.int .i64 a.cap)).setCell ⟨p, 4, none⟩ (.slice Y.A3 a.dl.length Y.c3)).setCell ⟨p, 5, none⟩ (.int .i64 a.dir.vn)).setCell ⟨p, 6, none⟩ (.slice Y.D.A a.dir.l.length Y.D.c)).setCell ⟨p, 7, none⟩ (.slice Y.D.A2 a.dir.F.length Y.D.c2)).setCell ⟨p, 8, none⟩ (.int .i64 a.ep)).setCell ⟨p, 9, none⟩ (.int .i64 a.ck)).setCell ⟨p, 10, none⟩ (.int .i64 a.ni)
section
variable {W W' : World} {p g : Nat} {a : Ar} {Y : Ax}
theorem QB.keep (h : QB W p a Y) (hc : ∀ o, W'.cell? ⟨p, o, none⟩ = W.cell? ⟨p, o, none⟩) (hf : ∀ o, W'.frozen? ⟨p, o, none⟩ = W.frozen? ⟨p, o, none⟩) (hs : W.heap.size ≤ W'.heap.size) : QB W' p a Y := by
  obtain ⟨⟨k0, k1, k2, k3, k4, k5, k6, k7, k8, k9, k10⟩, fr, lt⟩ := h
  exact ⟨⟨(hc 0).trans k0, (hc 1).trans k1, (hc 2).trans k2, (hc 3).trans k3, (hc 4).trans k4, (hc 5).trans k5, (hc 6).trans k6, (hc 7).trans k7, (hc 8).trans k8, (hc 9).trans k9, (hc 10).trans k10⟩, fun o => (hf o).trans (fr o), Nat.lt_of_lt_of_le lt hs⟩
theorem QB.up (h : QB W p a Y) (hb : Below W.heap.size W W') : QB W' p a Y := h.keep (fun o => hb.cell (p := ⟨p, o, none⟩) h.lt) (fun o => hb.frozen (p := ⟨p, o, none⟩) h.lt) hb.size
theorem QB.alloc (h : QB W p a Y) (o : Obj) : QB (W.alloc o) p a Y := h.up ((Below.refl _ _).alloc (Nat.le_refl _) o)
theorem QB.other (h : QB W p a Y) {x : Addr} (hne : x.block ≠ p) (v : Value) : QB (W.setCell x v) p a Y :=
  h.keep (fun o => World.cell?_setCell_other W x ⟨p, o, none⟩ v (fun e => hne (by rw [e]))) (fun o => by simp [go_sem]) (by simp)
theorem QB.grown (h : QB W p a Y) (hg : W.grownBy W' (some g)) (hne : p ≠ g) : QB W' p a Y := h.keep (fun o => hg.cell_far ⟨p, o, none⟩ h.lt (fun e => by injection e with e; exact hne e)) (fun o => hg.frozen_far ⟨p, o, none⟩ h.lt (fun e => by injection e with e; exact hne e)) hg.size
theorem QB.start (w : World) (a : Ar) (Y : Ax) (t : TypeId) : QB (w.alloc (.cells (acl a Y) t)) w.heap.size a Y :=
  ⟨⟨by simp [go_sem], by simp [go_sem], by simp [go_sem], by simp [go_sem], by simp [go_sem], by simp [go_sem], by simp [go_sem], by simp [go_sem], by simp [go_sem], by simp [go_sem], by simp [go_sem]⟩, fun o => by simp [go_sem], by simp⟩
theorem QB.set (h : QB W p a Y) (b : Ar) (Z : Ax) : QB (set11 W p b Z) p b Z := by
  obtain ⟨⟨k0, k1, k2, k3, k4, k5, k6, k7, k8, k9, k10⟩, fr, lt⟩ := h
  exact ⟨⟨by simp [go_sem, k0], by simp [go_sem, k1], by simp [go_sem, k2], by simp [go_sem, k3], by simp [go_sem, k4], by simp [go_sem, k5], by simp [go_sem, k6], by simp [go_sem, k7], by simp [go_sem, k8], by simp [go_sem, k9], by simp [go_sem, k10]⟩, fun o => by simp [go_sem, fr o], by simp [lt]⟩
theorem QB.free (h : QB W p a Y) : W.frozen? ⟨p, 0, none⟩ = false ∧ W.frozen? ⟨p, 1, none⟩ = false ∧ W.frozen? ⟨p, 2, none⟩ = false ∧ W.frozen? ⟨p, 3, none⟩ = false ∧ W.frozen? ⟨p, 4, none⟩ = false ∧ W.frozen? ⟨p, 5, none⟩ = false ∧ W.frozen? ⟨p, 6, none⟩ = false ∧ W.frozen? ⟨p, 7, none⟩ = false ∧ W.frozen? ⟨p, 8, none⟩ = false ∧ W.frozen? ⟨p, 9, none⟩ = false ∧ W.frozen? ⟨p, 10, none⟩ = false :=
  ⟨h.fr 0, h.fr 1, h.fr 2, h.fr 3, h.fr 4, h.fr 5, h.fr 6, h.fr 7, h.fr 8, h.fr 9, h.fr 10⟩
theorem set11_size (W : World) (p : Nat) (a : Ar) (Y : Ax) : (set11 W p a Y).heap.size = W.heap.size := by simp
theorem set11_below {B : Nat} {w : World} (h : Below B w W) (hp : B ≤ p) (a : Ar) (Y : Ax) : Below B w (set11 W p a Y) :=
  ((((((((((h.setCell (p := ⟨p, 0, none⟩) hp _).setCell (p := ⟨p, 1, none⟩) hp _).setCell (p := ⟨p, 2, none⟩) hp _).setCell (p := ⟨p, 3, none⟩) hp _).setCell (p := ⟨p, 4, none⟩) hp _).setCell (p := ⟨p, 5, none⟩) hp _).setCell (p := ⟨p, 6, none⟩) hp _).setCell (p := ⟨p, 7, none⟩) hp _).setCell (p := ⟨p, 8, none⟩) hp _).setCell (p := ⟨p, 9, none⟩) hp _).setCell (p := ⟨p, 10, none⟩) hp _
theorem AR.set11 {B : Nat} {b : Ar} {Z : Ax} (h : AR W B b Z) (ho : AOff b Z p) (a : Ar) (Y : Ax) : AR (set11 W p a Y) B b Z :=
  ((((((((((h.offp (q := ⟨p, 0, none⟩) ho _).offp (q := ⟨p, 1, none⟩) ho _).offp (q := ⟨p, 2, none⟩) ho _).offp (q := ⟨p, 3, none⟩) ho _).offp (q := ⟨p, 4, none⟩) ho _).offp (q := ⟨p, 5, none⟩) ho _).offp (q := ⟨p, 6, none⟩) ho _).offp (q := ⟨p, 7, none⟩) ho _).offp (q := ⟨p, 8, none⟩) ho _).offp (q := ⟨p, 9, none⟩) ho _).offp (q := ⟨p, 10, none⟩) ho _
end
/-- An arena and an error as a result: its lists are new. -/
def AE (w : World) (a : Ar) (x : Int) (e : Ending) (w' : World) : Prop := ∃ Y, e = .returned (.tuple #[av a Y, .int .i64 x]) ∧ Y.nw w.heap.size ∧ AR w' w'.heap.size a Y ∧ Below w.heap.size w w'
end Go.Proofs.Ytijpflljopckiaa
namespace Go.Proofs.Ytijpflljopckiaa
open Go.RowKit
set_option linter.unusedVariables false

set_option maxHeartbeats 2000000 in
set_option maxRecDepth 20000 in
theorem raw_any (B g : Nat) (w : World) (h : SrcAt w B g) : Calls Try.prog 40 #[.pointer (some ⟨g, 0, none⟩)] w (SrInt B g (-9223372036854775808) 9223372036854775807 w) := by
  have H := Lib.hid h
  obtain ⟨hB, hg, A, n, c, k, zs, a1, a2, a3, a4, a5, a6, a7, a8, a9⟩ := h
  have HA := Lib.hid a8
  have HZ := Lib.hid a9
  have a2' : (n : Int) ≤ 4000 := by omega
  clear hB hg a2 a3 a4 a8 a9
  by_cases hk : k < n
  · have hk' : ¬ ((n : Int) ≤ (k : Int)) := by omega
    have hd : decide ((n : Int) ≤ (k : Int)) = false := decide_eq_false hk'
    obtain ⟨b, o, rfl, hb, hcell⟩ := HA.out.2 (by omega)
    have hzl : k < zs.length := by have := HA.out.1; simp at this; omega
    have hz := HZ.out zs[k] (List.getElem_mem hzl)
    have hcz := hcell k (i64v zs[k]) (by simp [hzl])
    unfold i64v at hcz
    generalize zs[k] = z at *
    have HZ2 := Lib.hid hz
    have hne1 : b ≠ g := by have := H.out.1; omega
    have hne2 : g ≠ b := fun e => hne1 e.symm
    have hk63 : (k : Int) < (n : Int) := by omega
    have hk0 : (0 : Int) ≤ (k : Int) := Int.natCast_nonneg _
    have hs : IntKind.i64.wrap ((k : Int) + 1 - 1) = k := by rw [IntWalk.i64_in _ (by omega)]; omega
    clear hcell hzl hz
    go_enter Try.func40, Try.ntmps40
    go_wp2
    go_quiet (fail)
    go_wp2
    go_quiet (fail)
    go_wp2
    go_ret
    exact ⟨z, rfl, HZ2.out.1, HZ2.out.2, ((H.out.drewN _).next a5 a6 (by omega)).drewN _, only_drewN (only_set (only_drewN (World.grownBy.refl _ _) _) (.inl rfl) _) _⟩
  · have hk' : (n : Int) ≤ (k : Int) := by omega
    have hd : decide ((n : Int) ≤ (k : Int)) = true := decide_eq_true hk'
    go_enter Try.func40, Try.ntmps40
    go_wp2
    go_quiet (fail)
    go_wp2
    go_ret
    exact ⟨0, rfl, by omega, by omega, H.out.drewN _, only_drewN (World.grownBy.refl _ _) _⟩

theorem tmod_gt (x n : Int) (h : 0 < n) : -n < x.tmod n := by
  have h1 := Int.tmod_lt_of_pos (-x) h
  rw [Int.neg_tmod] at h1
  omega

set_option maxHeartbeats 2000000 in
theorem n_any (B g : Nat) (w : World) (h : SrcAt w B g) (n : Int) (h1 : 1 ≤ n) (h2 : n ≤ 1073741824) : Calls Try.prog 11 #[.pointer (some ⟨g, 0, none⟩), .int .i64 n] w (SrInt B g 0 (n - 1) w) := by
  have HC := Lib.hid (raw_any B g w h)
  clear h
  go_enter Try.func11, Try.ntmps11
  go_wp2_with fail
  refine HC.out.mono ?_
  rintro e w1 ⟨x, rfl, hx1, hx2, hs, hg⟩
  have HS := Lib.hid hs
  have HG := Lib.hid hg
  have hr1 : x.tmod n < n := Int.tmod_lt_of_pos x (by omega)
  have hr2 : -n < x.tmod n := tmod_gt x n (by omega)
  clear hs hg
  by_cases hr : x.tmod n < 0
  · go_wp2
    go_ret
    exact ⟨x.tmod n + n, rfl, by omega, by omega, HS.out, HG.out⟩
  · go_wp2
    go_ret
    exact ⟨x.tmod n, rfl, by omega, by omega, HS.out, HG.out⟩

set_option maxHeartbeats 2000000 in
theorem range_any (B g : Nat) (w : World) (h : SrcAt w B g) (lo hi : Int) (h0 : 0 ≤ lo) (h1 : lo ≤ hi) (h2 : hi ≤ 1073741823) : Calls Try.prog 29 #[.pointer (some ⟨g, 0, none⟩), .int .i64 lo, .int .i64 hi] w (SrInt B g lo hi w) := by
  have HC := Lib.hid (n_any B g w h (hi - lo + 1) (by omega) (by omega))
  clear h
  go_enter Try.func29, Try.ntmps29
  go_wp2_with fail
  refine HC.out.mono ?_
  rintro e w1 ⟨x, rfl, hx1, hx2, hs, hg⟩
  have HS := Lib.hid hs
  have HG := Lib.hid hg
  clear hs hg
  go_wp2
  go_ret
  exact ⟨lo + x, rfl, by omega, by omega, HS.out, HG.out⟩
end Go.Proofs.Ytijpflljopckiaa
namespace Go.Proofs.Ytijpflljopckiaa
open Go.RowKit
set_option linter.unusedVariables false

/-- A number from lo to hi. -/
def wiR (n lo hi : Int) : Bool := decide (lo ≤ n ∧ n ≤ hi)
theorem wiR_true {n lo hi : Int} (h1 : lo ≤ n) (h2 : n ≤ hi) : wiR n lo hi = true := decide_eq_true ⟨h1, h2⟩
theorem wiR_low {n lo hi : Int} (h1 : ¬ lo ≤ n) : wiR n lo hi = false := decide_eq_false (fun h => h1 h.1)
theorem wiR_high {n lo hi : Int} (h1 : ¬ n ≤ hi) : wiR n lo hi = false := decide_eq_false (fun h => h1 h.2)
theorem rwithin_any (n lo hi : Int) (w : World) : Calls Try.prog 64 #[.int .i64 n, .int .i64 lo, .int .i64 hi] w fun e w' => e = .returned (.bool (wiR n lo hi)) ∧ w = w' := by
  by_cases h1 : lo ≤ n
  · by_cases h2 : n ≤ hi
    · have H := Lib.hid (wiR_true h1 h2)
      go_enter Try.func64, Try.ntmps64
      go_wp2
      go_ret
      exact ⟨by rw [H.out]; rfl, rfl⟩
    · have H := Lib.hid (wiR_high (lo := lo) h2)
      go_enter Try.func64, Try.ntmps64
      go_wp2
      go_ret
      exact ⟨by rw [H.out]; rfl, rfl⟩
  · have H := Lib.hid (wiR_low (hi := hi) h1)
    go_enter Try.func64, Try.ntmps64
    go_wp2
    go_ret
    exact ⟨by rw [H.out]; rfl, rfl⟩

theorem sfind1_any (d : Sp) (s : Int) (p : Nat) (w : World) (hp : p < w.heap.size) (hc : w.cell? ⟨p, 0, none⟩ = some (.int .i64 s)) :
    Calls Try.prog 117 #[d.v, .pointer (some ⟨p, 0, none⟩)] w fun e w' => e = .returned (.bool (decide (d.sh = s))) ∧ Below w.heap.size w w' := by
  have HB := Lib.hid ((Below.refl w.heap.size w).alloc (Nat.le_refl _) (.cells #[.int .i64 d.lo, .int .i64 d.hi, .int .i64 d.sh] 115))
  have HD := Lib.hid (show (d.sh == s) = decide (d.sh = s) by rw [Bool.eq_iff_iff]; simp)
  go_enter Try.func117, Try.ntmps117
  go_wp2
  go_ret
  exact ⟨by rw [← HD.out]; rfl, HB.out⟩

set_option maxHeartbeats 1000000 in
theorem sixfunc_any (A : Option Addr) (n c : Nat) (l : List Sp) (s : Int) (p : Nat) (w : World) (hv : Pl w w.heap.size (.slice A n c) l) (hp : p < w.heap.size) (hc : w.cell? ⟨p, 0, none⟩ = some (.int .i64 s)) :
    Calls Try.prog 116 #[.slice A n c, .func (.func 117) #[] #[.pointer (some ⟨p, 0, none⟩)]] w fun e w' => e = .returned (.int .i64 (ixS l s)) ∧ Below w.heap.size w w' := by
  obtain ⟨rfl, hm1, hm2⟩ := hv.len
  have hL : l.length ≤ 9223372036854775807 := by unfold maxLen at hm2; omega
  have HV := Lib.hid hv
  have HP := Lib.hid hp
  have HC := Lib.hid hc
  have HB := Lib.hid (Below.refl w.heap.size w)
  clear hv hm1 hm2 hp hc
  go_enter Try.func116, Try.ntmps116
  go_wp2
  go_loopw [8] (fun i wr => ∃ k : Nat, k ≤ l.length ∧ i = .int .i64 k ∧ Below w.heap.size w wr ∧ ∀ j, j < k → (sg l j).sh ≠ s) (fun i _ => l.length - (intOf i).toNat)
  case atStart => exact ⟨0, by omega, rfl, HB.out, fun j h => absurd h (by omega)⟩
  case round =>
    obtain ⟨k, hk, rfl, hb, hno⟩ := hrel
    have HN := Lib.hid hno
    have HVK := Lib.hid (HV.out.below hb)
    have HPK := Lib.hid (Nat.lt_of_lt_of_le HP.out hb.size)
    have HCK := Lib.hid ((hb.cell (p := ⟨p, 0, none⟩) HP.out).trans HC.out)
    have HB := Lib.hid hb
    clear hno hb
    by_cases hlt : k < l.length
    · obtain ⟨b, o, rfl, hb, c0, c1, c2⟩ := HVK.out.atg hlt
      have HF := Lib.hid (fun w1 hp hc => sfind1_any (sg l k) s p w1 hp hc)
      by_cases he : (sg l k).sh = s
      · have HR := Lib.hid (ixS_hit hlt he HN.out)
        rw [decide_eq_true he] at HF
        clear he
        generalize sg l k = M at *
        go_wp2_with fail
        refine (HF.out _ HPK.out HCK.out).mono ?_
        rintro e w1 ⟨rfl, hb1⟩
        have HB1 := Lib.hid (HB.out.trans (hb1.mono HB.out.size))
        clear hb1
        go_wp2
        go_ret
        exact ⟨by rw [HR.out]; rfl, HB1.out⟩
      · have HNN := Lib.hid (show ∀ j, j < k + 1 → (sg l j).sh ≠ s from fun j h => by
          by_cases e : j = k
          · rw [e]; exact he
          · exact HN.out j (by omega))
        rw [decide_eq_false he] at HF
        clear he
        generalize sg l k = M at *
        go_wp2_with fail
        refine (HF.out _ HPK.out HCK.out).mono ?_
        rintro e w1 ⟨rfl, hb1⟩
        have HB1 := Lib.hid (HB.out.trans (hb1.mono HB.out.size))
        clear hb1
        go_wp2
        go_roundw
        case rel => exact ⟨k + 1, by omega, by go_num, HB1.out, HNN.out⟩
        case measure => simp [intOf]; omega
    · have HR := Lib.hid (ixS_none (s := s) (fun j hj => HN.out j (by omega)))
      go_wp2
      go_ret
      exact ⟨by rw [HR.out]; rfl, HB.out⟩

theorem sfind_any (A : Option Addr) (n c : Nat) (l : List Sp) (s : Int) (w : World) (hv : Pl w w.heap.size (.slice A n c) l) :
    Calls Try.prog 94 #[.slice A n c, .int .i64 s] w fun e w' => e = .returned (.int .i64 (ixS l s)) ∧ Below w.heap.size w w' := by
  have HC := Lib.hid (sixfunc_any A n c l s w.heap.size (w.alloc (.cells #[.int .i64 s] 3)) ((hv.alloc (Nat.le_refl _) _).more (by simp)) (by simp) (by simp [go_sem]))
  have HB := Lib.hid ((Below.refl w.heap.size w).alloc (Nat.le_refl _) (.cells #[.int .i64 s] 3))
  have hmf : ∀ (fn : Fn) (first cap : Array Value) (w : World), (Instr.makeFunc fn first cap).run Try.prog w = .ok (.func fn first cap) w := fun _ _ _ _ => rfl
  clear hv
  generalize ixS l s = r at *
  go_enter Try.func94, Try.ntmps94
  go_wp2_with fail
  refine HC.out.mono ?_
  rintro e w1 ⟨rfl, hb1⟩
  have HB1 := Lib.hid (HB.out.trans (hb1.mono HB.out.size))
  clear hb1
  go_wp2
  go_ret
  exact ⟨rfl, HB1.out⟩

set_option maxHeartbeats 2000000 in
theorem scovers_any (A : Option Addr) (n c : Nat) (l : List Sp) (w : World) (hv : Pl w w.heap.size (.slice A n c) l) :
    Calls Try.prog 110 #[.slice A n c] w fun e w' => e = .returned (.bool (cvD 0 l)) ∧ Below w.heap.size w w' := by
  obtain ⟨rfl, hm1, hm2⟩ := hv.len
  have hL : l.length ≤ 9223372036854775807 := by unfold maxLen at hm2; omega
  have HV := Lib.hid hv
  have HB := Lib.hid (Below.refl w.heap.size w)
  have HN0 := Lib.hid (nxD_zero l)
  clear hv hm1 hm2
  go_enter Try.func110, Try.ntmps110
  go_wp2
  go_loopw [3, 8] (fun nx i wr => ∃ k : Nat, k ≤ l.length ∧ i = .int .i64 k ∧ nx = .int .i64 (nxD l k) ∧ Below w.heap.size w wr ∧ ∀ j, j < k → spK l j) (fun _ i _ => l.length - (intOf i).toNat)
  case atStart => exact ⟨0, by omega, rfl, by rw [HN0.out], HB.out, fun j h => absurd h (by omega)⟩
  case round =>
    obtain ⟨k, hk, rfl, rfl, hb, hno⟩ := hrel
    have HN := Lib.hid hno
    have HVK := Lib.hid (HV.out.below hb)
    have HB := Lib.hid hb
    clear hno hb
    by_cases hlt : k < l.length
    · obtain ⟨b, o, rfl, hb, c0, c1, c2⟩ := HVK.out.atg hlt
      have HW := Lib.hid (fun w1 => rwithin_any (sg l k).hi (sg l k).lo 65535 w1)
      have HX := Lib.hid (nxD_succ l k)
      have HA := Lib.hid (HB.out.alloc HB.out.size (.cells #[.int .i64 (sg l k).lo, .int .i64 (sg l k).hi, .int .i64 (sg l k).sh] 115))
      by_cases hs : spK l k
      · have HNN := Lib.hid (show ∀ j, j < k + 1 → spK l j from fun j h => by
          by_cases e : j = k
          · rw [e]; exact hs
          · exact HN.out j (by omega))
        obtain ⟨h1, h2, h3⟩ := hs
        have hne : ((sg l k).lo != nxD l k) = false := by simpa using h1
        rw [wiR_true h2 h3] at HW
        have hh1 : -9223372036854775808 ≤ (sg l k).hi ∨ True := .inr trivial
        have HNX : nxD l k = (sg l k).lo := h1.symm
        have h0 : 0 ≤ (sg l k).lo := by
          rw [h1]
          cases k with
          | zero => rw [nxD_zero]; omega
          | succ k => rw [nxD_succ]; have := (HN.out k (by omega)).1; have := (HN.out k (by omega)).2.1; exact (by
              have hq : ∀ j, j < k + 1 → 0 ≤ (sg l j).hi + 1 := fun j => by
                induction j with
                | zero => intro hj; have a := (HN.out 0 hj).1; have b := (HN.out 0 hj).2.1; rw [nxD_zero] at a; omega
                | succ j ih => intro hj; have a := (HN.out (j + 1) hj).1; have b := (HN.out (j + 1) hj).2.1; have c := ih (by omega); rw [nxD_succ] at a; omega
              exact hq k (by omega))
        clear h1 hh1 HNX
        generalize nxD l k = nk at *
        generalize sg l k = M at *
        go_wp2_with fail
        refine (HW.out _).mono ?_
        rintro e w1 ⟨rfl, rfl⟩
        go_wp2
        go_roundw
        case rel => exact ⟨k + 1, by omega, by go_num, by rw [HX.out], HA.out, HNN.out⟩
        case measure => simp [intOf]; omega
      · have HR := Lib.hid (cvD_no hlt hs)
        by_cases h1 : (sg l k).lo = nxD l k
        · have hne : ((sg l k).lo != nxD l k) = false := by simpa using h1
          have hwf : wiR (sg l k).hi (sg l k).lo 65535 = false := decide_eq_false fun h => hs ⟨h1, h.1, h.2⟩
          rw [hwf] at HW
          clear h1 hs hwf
          generalize nxD l k = nk at *
          generalize sg l k = M at *
          go_wp2_with fail
          refine (HW.out _).mono ?_
          rintro e w1 ⟨rfl, rfl⟩
          go_wp2
          go_ret
          exact ⟨by rw [HR.out]; rfl, HA.out⟩
        · have hne : ((sg l k).lo != nxD l k) = true := bne_iff_ne.2 h1
          clear h1 hs
          generalize nxD l k = nk at *
          generalize sg l k = M at *
          go_wp2
          go_ret
          exact ⟨by rw [HR.out]; rfl, HA.out⟩
    · obtain rfl : k = l.length := by omega
      have HR := Lib.hid (show (nxD l l.length == 65536) = cvD 0 l by rw [cvD_end HN.out, Bool.eq_iff_iff]; simp)
      go_wp2
      go_ret
      exact ⟨by rw [← HR.out]; rfl, HB.out⟩
end Go.Proofs.Ytijpflljopckiaa
namespace Go.Proofs.Ytijpflljopckiaa
open Go.RowKit
set_option linter.unusedVariables false

theorem info_sp : (Try.prog.info? 115).map (fun i => (i.zero, i.size, i.bytes)) = some (some (Sp.v zSp), 3, 24) := by kernel_rfl
/-- A copy, that the call owns. -/
def SPClP (w : World) (l : List Sp) (e : Ending) (w' : World) : Prop := ∃ v, e = .returned v ∧ w'.ownsRow w.heap.size 115 3 v l.length (scs l) ∧ Below w.heap.size w w'
theorem spclone_end {w w1 : World} {l : List Sp} {v1 : Value} {o : Obj} (hown : w1.ownsRow w.heap.size 115 3 v1 (0 + l.length) ([] ++ scs l)) (hg : (w.alloc o).grownBy w1 (Value.ownBlock (.slice (some ⟨w.heap.size, 0, none⟩) 0 0))) : SPClP w l (.returned v1) w1 := by
  rw [Nat.zero_add, List.nil_append] at hown
  exact ⟨v1, rfl, hown, (((Below.refl _ _).alloc (Nat.le_refl _) o)).grown hg (by simp) (fun k hk => by simp [Value.ownBlock] at hk; omega)⟩

set_option maxHeartbeats 2000000 in
theorem spclone_any (A : Option Addr) (n c : Nat) (l : List Sp) (w : World) (hv : Pl w w.heap.size (.slice A n c) l) (h2 : n ≤ 1000) :
    Calls Try.prog 100 #[.slice A n c] w (SPClP w l) := by
  obtain ⟨rfl, hm1, hm2⟩ := hv.len
  obtain ⟨i0, hi0, hz0⟩ := Option.map_eq_some_iff.1 info_sp
  simp only [Prod.mk.injEq] at hz0
  have HI := Lib.hid hi0
  have HZ := Lib.hid hz0
  have HV := Lib.hid hv
  have heq : ∀ W, (binOp .eql 32 (.slice A l.length c) (.slice none 0 0)).run Try.prog W = .ok (.bool A.isNone) W := fun W => Lib.run_eql_slice_nil W _ _ _ _ _ _ _ Try.underlying32
  have HRD := Lib.hid hv.rd
  clear hv hi0 hz0
  cases A with
  | none =>
    have hl : l = [] := by
      cases l with
      | nil => rfl
      | cons d l => obtain ⟨b, o, e, _⟩ := HRD.out.2 (by simp); cases e
    subst hl
    have HP := Lib.hid (show SPClP w [] (.returned (.slice none 0 0)) w from ⟨_, rfl, World.ownsRow_nil w _ _ _, Below.refl _ _⟩)
    simp only [List.length_nil, Option.isNone_none] at heq ⊢
    go_enter Try.func100, Try.ntmps100
    go_wp2
    go_ret
    exact HP.out
  | some a =>
    simp only [Option.isNone_some] at heq
    go_enter Try.func100, Try.ntmps100
    go_wp2_with (at_builtin; refine wpList_append_rd _ rfl (.tmp 5) (.tmp 6) 32 rfl w.heap.size 115 i0 _ 3 24 Try.underlying32 HI.out HZ.out.1 HZ.out.2.1 HZ.out.2.2 rfl (by omega) (.slice (some ⟨w.heap.size, 0, none⟩) 0 0) 0 [] rfl (World.ownsRow_made w #[] 0 (Nat.le_refl _) (Nat.zero_le _) rfl) w.heap.size (some a) l.length c (scs l) rfl (HV.out.alloc (Nat.le_refl _) _).rd (scs_one l) (by unfold maxLen; omega) (by omega) (by simp) ?_; intro v1 w1 hown1 hg1 hat1)
    have HP := Lib.hid (spclone_end hown1 hg1)
    clear hown1 hg1 hat1
    go_wp2
    go_ret
    exact HP.out

theorem info_ni : (Try.prog.info? 3).map (fun i => (i.zero, i.size, i.bytes)) = some (some (.int .i64 0), 1, 8) := by kernel_rfl
/-- A copy, that the call owns. -/
def NIClP (w : World) (l : List Int) (e : Ending) (w' : World) : Prop := ∃ v, e = .returned v ∧ w'.ownsRow w.heap.size 3 1 v l.length (ics l) ∧ Below w.heap.size w w'
theorem niclone_end {w w1 : World} {l : List Int} {v1 : Value} {o : Obj} (hown : w1.ownsRow w.heap.size 3 1 v1 (0 + l.length) ([] ++ ics l)) (hg : (w.alloc o).grownBy w1 (Value.ownBlock (.slice (some ⟨w.heap.size, 0, none⟩) 0 0))) : NIClP w l (.returned v1) w1 := by
  rw [Nat.zero_add, List.nil_append] at hown
  exact ⟨v1, rfl, hown, (((Below.refl _ _).alloc (Nat.le_refl _) o)).grown hg (by simp) (fun k hk => by simp [Value.ownBlock] at hk; omega)⟩

set_option maxHeartbeats 2000000 in
theorem niclone_any (A : Option Addr) (n c : Nat) (l : List Int) (w : World) (hv : Fl w w.heap.size (.slice A n c) l) (h2 : n ≤ 1000) :
    Calls Try.prog 46 #[.slice A n c] w (NIClP w l) := by
  obtain ⟨rfl, hm1, hm2⟩ := hv.len
  obtain ⟨i0, hi0, hz0⟩ := Option.map_eq_some_iff.1 info_ni
  simp only [Prod.mk.injEq] at hz0
  have HI := Lib.hid hi0
  have HZ := Lib.hid hz0
  have HV := Lib.hid hv
  have heq : ∀ W, (binOp .eql 22 (.slice A l.length c) (.slice none 0 0)).run Try.prog W = .ok (.bool A.isNone) W := fun W => Lib.run_eql_slice_nil W _ _ _ _ _ _ _ Try.underlying22
  have HRD := Lib.hid hv.rd
  clear hv hi0 hz0
  cases A with
  | none =>
    have hl : l = [] := by
      cases l with
      | nil => rfl
      | cons d l => obtain ⟨b, o, e, _⟩ := HRD.out.2 (by simp); cases e
    subst hl
    have HP := Lib.hid (show NIClP w [] (.returned (.slice none 0 0)) w from ⟨_, rfl, World.ownsRow_nil w _ _ _, Below.refl _ _⟩)
    simp only [List.length_nil, Option.isNone_none] at heq ⊢
    go_enter Try.func46, Try.ntmps46
    go_wp2
    go_ret
    exact HP.out
  | some a =>
    simp only [Option.isNone_some] at heq
    go_enter Try.func46, Try.ntmps46
    go_wp2_with (at_builtin; refine wpList_append_rd _ rfl (.tmp 5) (.tmp 6) 22 rfl w.heap.size 3 i0 _ 1 8 Try.underlying22 HI.out HZ.out.1 HZ.out.2.1 HZ.out.2.2 rfl (by omega) (.slice (some ⟨w.heap.size, 0, none⟩) 0 0) 0 [] rfl (World.ownsRow_made w #[] 0 (Nat.le_refl _) (Nat.zero_le _) rfl) w.heap.size (some a) l.length c (ics l) rfl (HV.out.alloc (Nat.le_refl _) _).rd (ics_one l) (by unfold maxLen; omega) (by omega) (by simp) ?_; intro v1 w1 hown1 hg1 hat1)
    have HP := Lib.hid (niclone_end hown1 hg1)
    clear hown1 hg1 hat1
    go_wp2
    go_ret
    exact HP.out

end Go.Proofs.Ytijpflljopckiaa
