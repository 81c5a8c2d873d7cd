/- What is proved here: (plain) lists of spans and of numbers that lie in memory, directories; the cell of a byte in this program; directory.within, directory.find, slices.IndexFunc over its closure, coversSpace, hasSameShard, slotTest by contracts. -/
import Derived.Test.YtfkpkmcpepeaeaaJ01
import Derived.Test.YtfkpkmcpepeaeaaJ02
import Derived.Below
import Derived.Deep.MidRow
import Derived.Laws.MakeOwn
import Derived.Test.YtfkpkmcpepeaeaaRows
import Derived.WalkKit
import Derived.Outline
import Derived.IntWalk
import Derived.Deep.RegionHeld3
import Derived.Deep.DrawnRows
import Derived.Deep.RegionWith
namespace Go.Proofs.Ytfkpkmcpepeaeaa
open Go.RowKit
set_option linter.unusedVariables false

/-- The cells of a span. -/
def Sp.l (d : Sp) : List Value := [.int .i64 d.lo, .int .i64 d.hi, .int .i64 d.sh]
/-- The span as a value. -/
abbrev Sp.v (d : Sp) : Value := .agg #[.int .i64 d.lo, .int .i64 d.hi, .int .i64 d.sh]
theorem Sp.l_len (d : Sp) : d.l.length = 3 := rfl
theorem Sp.l_one (d : Sp) : ∀ u ∈ d.l, u.oneCell' = true := by
  intro u hu
  simp only [Sp.l, List.mem_cons, List.not_mem_nil, or_false] at hu
  rcases hu with rfl | rfl | rfl <;> rfl
def scs (l : List Sp) : List Value := l.flatMap Sp.l
theorem scs_cons (d : Sp) (l : List Sp) : scs (d :: l) = d.l ++ scs l := rfl
theorem scs_app (l m : List Sp) : scs (l ++ m) = scs l ++ scs m := by simp [scs]
theorem scs_len (l : List Sp) : (scs l).length = l.length * 3 := by
  induction l with
  | nil => rfl
  | cons d l ih => rw [scs_cons, List.length_append, ih, Sp.l_len]; simp; omega
theorem scs_drop (l : List Sp) (k : Nat) : (scs l).drop (k * 3) = scs (l.drop k) := by
  induction k generalizing l with
  | zero => simp
  | succ k ih =>
    cases l with
    | nil => simp [scs]
    | cons d l =>
      rw [scs_cons, List.drop_succ_cons, ← ih, show (k + 1) * 3 = d.l.length + k * 3 by rw [Sp.l_len]; omega, List.drop_append, List.drop_eq_nil_of_le (by omega)]
      simp
theorem scs_take (l : List Sp) (k : Nat) : (scs l).take (k * 3) = scs (l.take k) := by
  induction k generalizing l with
  | zero => simp [scs]
  | succ k ih =>
    cases l with
    | nil => simp [scs]
    | cons d l =>
      rw [scs_cons, List.take_succ_cons, scs_cons, ← ih, show (k + 1) * 3 = d.l.length + k * 3 by rw [Sp.l_len]; omega, List.take_append, List.take_of_length_le (by omega)]
      simp
theorem scs_at (l : List Sp) (k j : Nat) (hk : k < l.length) (hj : j < 3) : (scs l)[k * 3 + j]? = l[k].l[j]? := by
  have h := scs_drop l k
  have e : (scs l)[k * 3 + j]? = ((scs l).drop (k * 3))[j]? := by rw [List.getElem?_drop]
  rw [e, h, List.drop_eq_getElem_cons hk, scs_cons, List.getElem?_append_left (by rw [Sp.l_len]; exact hj)]
theorem scs_one (l : List Sp) : ∀ u ∈ scs l, u.oneCell' = true := by
  intro u hu
  obtain ⟨M, _, h⟩ := List.mem_flatMap.1 hu
  exact M.l_one u h
theorem scs_one1 (d : Sp) : scs [d] = d.l := by simp [scs]
def ics (F : List Int) : List Value := F.map i64v
theorem ics_len (F : List Int) : (ics F).length = F.length * 1 := by simp [ics]
theorem ics_one (F : List Int) : ∀ u ∈ ics F, u.oneCell' = true := by
  intro u hu
  obtain ⟨M, _, rfl⟩ := List.mem_map.1 hu
  rfl
theorem ics_app (l m : List Int) : ics (l ++ m) = ics l ++ ics m := by simp [ics]

/-- A value that is a slice, reads as these spans and lies below B. -/
def Pl (w : World) (B : Nat) (v : Value) (l : List Sp) : Prop := ∃ A c, v = .slice A l.length c ∧ l.length ≤ c ∧ c ≤ maxLen ∧ Rd w B 3 A l.length (scs l)
section
variable {w w' : World} {B B' : Nat} {v : Value} {l : List Sp} {A : Option Addr} {n c : Nat}
theorem Pl.nil : Pl w B (.slice none 0 0) [] := ⟨none, 0, rfl, Nat.le_refl _, Nat.zero_le _, Rd.nil none⟩
theorem Pl.keep (h : Pl w B v l) (hk : ∀ p : Addr, p.block < B → w'.cell? p = w.cell? p) : Pl w' B v l := by
  obtain ⟨A, c, e, hl, hm, h⟩ := h; exact ⟨A, c, e, hl, hm, h.keep hk⟩
theorem Pl.more (h : Pl w B v l) (hB : B ≤ B') : Pl w B' v l := by
  obtain ⟨A, c, e, hl, hm, h⟩ := h; exact ⟨A, c, e, hl, hm, h.more hB⟩
theorem Pl.below (h : Pl w B v l) (hb : Below B w w') : Pl w' B v l := h.keep fun _ hp => hb.cell hp
theorem Pl.up (h : Pl w w.heap.size v l) (hb : Below w.heap.size w w') : Pl w' w'.heap.size v l := (h.below hb).more hb.size
theorem Pl.alloc (h : Pl w B v l) (hB : B ≤ w.heap.size) (o : Obj) : Pl (w.alloc o) B v l := h.keep fun p hp => World.cell?_alloc_lt w o p (by omega)
theorem Pl.setCell (h : Pl w B v l) {p : Addr} (hB : B ≤ p.block) (u : Value) : Pl (w.setCell p u) B v l :=
  h.keep fun q hq => World.cell?_setCell_other w p q u (fun e => by subst e; omega)
theorem Pl.len (h : Pl w B (.slice A n c) l) : n = l.length ∧ n ≤ c ∧ c ≤ maxLen := by
  obtain ⟨A', c', e, hl, hm, h⟩ := h
  injection e with e1 e2 e3
  subst e2; subst e3
  exact ⟨rfl, hl, hm⟩
theorem Pl.rd (h : Pl w B (.slice A n c) l) : Rd w B 3 A n (scs l) := by
  obtain ⟨A', c', e, hl, hm, h⟩ := h
  injection e with e1 e2 e3
  subst e1; subst e2
  exact h
theorem Pl.form (h : Pl w B v l) : ∃ A c, v = .slice A l.length c ∧ l.length ≤ c ∧ c ≤ maxLen := by
  obtain ⟨A, c, e, hl, hm, _⟩ := h; exact ⟨A, c, e, hl, hm⟩
theorem Pl.of_own {base : Nat} {e : TypeId} {n : Nat} (h : w.ownsRow base e 3 v n (scs l)) : Pl w w.heap.size v l := by
  have hl : n = l.length := by have := h.1; rw [scs_len] at this; omega
  subst hl
  rcases h.2 with ⟨hv, h0⟩ | ⟨g, cap, cur, hv, _, _, hl, hm, _⟩
  · subst hv; exact ⟨none, 0, by rw [h0], by omega, Nat.zero_le _, by rw [show l = [] from List.length_eq_zero_iff.1 h0]; exact Rd.nil _⟩
  · subst hv; exact ⟨_, cap, rfl, hl, hm, Rd.of_own h⟩
theorem Pl.offp (h : Pl w B (.slice A n c) l) {p : Addr} (ho : ∀ a, A = some a → 0 < n → a.block ≠ p.block) (v : Value) : Pl (w.setCell p v) B (.slice A n c) l := by
  obtain ⟨h1, h2, h3⟩ := h.len
  subst h1
  refine ⟨A, c, rfl, h2, h3, h.rd.1, fun hn => ?_⟩
  obtain ⟨b, o, e, hb, hc⟩ := h.rd.2 hn
  have := ho _ e hn
  exact ⟨b, o, e, hb, fun j u hu => (World.cell?_setCell_other w p _ v (fun e' => by have e2 := congrArg Addr.block e'; simp at e2 this; omega)).trans (hc j u hu)⟩
/-- The span at place k, and where it lies. -/
theorem Pl.atg {k : Nat} (h : Pl w B (.slice A n c) l) (hk : k < l.length) : ∃ b o, A = some ⟨b, o, none⟩ ∧ b < B ∧ w.cell? ⟨b, o + k * 3, none⟩ = some (.int .i64 (sg l k).lo) ∧ w.cell? ⟨b, o + k * 3 + 1, none⟩ = some (.int .i64 (sg l k).hi) ∧ w.cell? ⟨b, o + k * 3 + 2, none⟩ = some (.int .i64 (sg l k).sh) := by
  have hn := h.len.1
  obtain ⟨b, o, e, hb, hc⟩ := h.rd.2 (by omega)
  have g : ∀ j u, j < 3 → l[k].l[j]? = some u → w.cell? ⟨b, o + k * 3 + j, none⟩ = some u := fun j u hj hu => by
    rw [Nat.add_assoc]; exact hc _ u (by rw [scs_at l k j hk hj]; exact hu)
  rw [sg_get hk]
  exact ⟨b, o, e, hb, g 0 _ (by omega) rfl, g 1 _ (by omega) rfl, g 2 _ (by omega) rfl⟩
/-- A cut l[:k]. -/
theorem Pl.upto {k : Nat} (h : Pl w B (.slice A n c) l) (hk : k ≤ l.length) : Pl w B (.slice A k c) (l.take k) := by
  obtain ⟨h1, h2, h3⟩ := h.len
  refine ⟨A, c, by rw [List.length_take, Nat.min_eq_left hk], by rw [List.length_take, Nat.min_eq_left hk]; omega, h3, ?_⟩
  rw [List.length_take, Nat.min_eq_left hk]
  refine ⟨by rw [scs_len, List.length_take, Nat.min_eq_left hk], fun h0 => ?_⟩
  obtain ⟨b, o, e, hb, hc⟩ := h.rd.2 (by omega)
  exact ⟨b, o, e, hb, fun j u hu => hc j u (by
    rw [← scs_take, List.getElem?_take] at hu
    split at hu
    · exact hu
    · cases hu)⟩
/-- A cut l[k:]. -/
theorem Pl.from {k : Nat} (h : Pl w B (.slice A n c) l) (hk : k ≤ l.length) : Pl w B (.slice (if c = k then A else A.map (·.add (k * 3))) (l.length - k) (c - k)) (l.drop k) := by
  obtain ⟨h1, h2, h3⟩ := h.len
  refine ⟨_, c - k, by rw [List.length_drop], by rw [List.length_drop]; omega, by omega, ?_⟩
  rw [List.length_drop]
  refine ⟨by rw [scs_len, List.length_drop], fun h0 => ?_⟩
  obtain ⟨b, o, e, hb, hc⟩ := h.rd.2 (by omega)
  rw [if_neg (by omega), e]
  refine ⟨b, o + k * 3, by rw [Option.map_some, add_mk], hb, fun j u hu => ?_⟩
  rw [Nat.add_assoc]
  exact hc _ u (by rw [← scs_drop, List.getElem?_drop] at hu; exact hu)
end

/-- A value that is a slice, reads as these numbers and lies below B. -/
def Fl (w : World) (B : Nat) (v : Value) (l : List Int) : Prop := ∃ A c, v = .slice A l.length c ∧ l.length ≤ c ∧ c ≤ maxLen ∧ Rd w B 1 A l.length (ics l)
section
variable {w w' : World} {B B' : Nat} {v : Value} {l : List Int} {A : Option Addr} {n c : Nat}
theorem Fl.nil : Fl w B (.slice none 0 0) [] := ⟨none, 0, rfl, Nat.le_refl _, Nat.zero_le _, Rd.nil none⟩
theorem Fl.keep (h : Fl w B v l) (hk : ∀ p : Addr, p.block < B → w'.cell? p = w.cell? p) : Fl w' B v l := by
  obtain ⟨A, c, e, hl, hm, h⟩ := h; exact ⟨A, c, e, hl, hm, h.keep hk⟩
theorem Fl.more (h : Fl w B v l) (hB : B ≤ B') : Fl w B' v l := by
  obtain ⟨A, c, e, hl, hm, h⟩ := h; exact ⟨A, c, e, hl, hm, h.more hB⟩
theorem Fl.below (h : Fl w B v l) (hb : Below B w w') : Fl w' B v l := h.keep fun _ hp => hb.cell hp
theorem Fl.up (h : Fl w w.heap.size v l) (hb : Below w.heap.size w w') : Fl w' w'.heap.size v l := (h.below hb).more hb.size
theorem Fl.alloc (h : Fl w B v l) (hB : B ≤ w.heap.size) (o : Obj) : Fl (w.alloc o) B v l := h.keep fun p hp => World.cell?_alloc_lt w o p (by omega)
theorem Fl.setCell (h : Fl w B v l) {p : Addr} (hB : B ≤ p.block) (u : Value) : Fl (w.setCell p u) B v l :=
  h.keep fun q hq => World.cell?_setCell_other w p q u (fun e => by subst e; omega)
theorem Fl.len (h : Fl w B (.slice A n c) l) : n = l.length ∧ n ≤ c ∧ c ≤ maxLen := by
  obtain ⟨A', c', e, hl, hm, h⟩ := h
  injection e with e1 e2 e3
  subst e2; subst e3
  exact ⟨rfl, hl, hm⟩
theorem Fl.rd (h : Fl w B (.slice A n c) l) : Rd w B 1 A n (ics l) := by
  obtain ⟨A', c', e, hl, hm, h⟩ := h
  injection e with e1 e2 e3
  subst e1; subst e2
  exact h
theorem Fl.form (h : Fl w B v l) : ∃ A c, v = .slice A l.length c ∧ l.length ≤ c ∧ c ≤ maxLen := by
  obtain ⟨A, c, e, hl, hm, _⟩ := h; exact ⟨A, c, e, hl, hm⟩
theorem Fl.of_own {base : Nat} {e : TypeId} {n : Nat} (h : w.ownsRow base e 1 v n (ics l)) : Fl w w.heap.size v l := by
  have hl : n = l.length := by have := h.1; rw [ics_len] at this; omega
  subst hl
  rcases h.2 with ⟨hv, h0⟩ | ⟨g, cap, cur, hv, _, _, hl, hm, _⟩
  · subst hv; exact ⟨none, 0, by rw [h0], by omega, Nat.zero_le _, by rw [show l = [] from List.length_eq_zero_iff.1 h0]; exact Rd.nil _⟩
  · subst hv; exact ⟨_, cap, rfl, hl, hm, Rd.of_own h⟩
theorem Fl.offp (h : Fl w B (.slice A n c) l) {p : Addr} (ho : ∀ a, A = some a → 0 < n → a.block ≠ p.block) (v : Value) : Fl (w.setCell p v) B (.slice A n c) l := by
  obtain ⟨h1, h2, h3⟩ := h.len
  subst h1
  refine ⟨A, c, rfl, h2, h3, h.rd.1, fun hn => ?_⟩
  obtain ⟨b, o, e, hb, hc⟩ := h.rd.2 hn
  have := ho _ e hn
  exact ⟨b, o, e, hb, fun j u hu => (World.cell?_setCell_other w p _ v (fun e' => by have e2 := congrArg Addr.block e'; simp at e2 this; omega)).trans (hc j u hu)⟩
/-- The number at place k, and where it lies. -/
theorem Fl.atg {k : Nat} (h : Fl w B (.slice A n c) l) (hk : k < l.length) : ∃ b o, A = some ⟨b, o, none⟩ ∧ b < B ∧ w.cell? ⟨b, o + k, none⟩ = some (.int .i64 (ig l k)) := by
  have hn := h.len.1
  obtain ⟨b, o, e, hb, hc⟩ := h.rd.2 (by omega)
  rw [ig_get hk]
  exact ⟨b, o, e, hb, hc _ _ (by simp [ics, hk, i64v])⟩
theorem Fl.of_ns (h : Ns w B v l) : Fl w B v l := by
  obtain ⟨A, c, e, h1, h2, h3, _⟩ := h
  exact ⟨A, c, e, h1, h2, h3⟩
end

/-- Where the lists of a directory lie. -/
structure Dx where
  A : Option Addr
  c : Nat
  A2 : Option Addr
  c2 : Nat
def zDx : Dx := ⟨none, 0, none, 0⟩
/-- A directory as a value. -/
abbrev dv (d : Dd) (X : Dx) : Value := .agg #[.int .i64 d.vn, .slice X.A d.l.length X.c, .slice X.A2 d.F.length X.c2]
/-- The lists of a directory read so, and lie below B. -/
structure DR (W : World) (B : Nat) (d : Dd) (X : Dx) : Prop where
  pl : Pl W B (.slice X.A d.l.length X.c) d.l
  fl : Fl W B (.slice X.A2 d.F.length X.c2) d.F
section
variable {W W' : World} {B B' p : Nat} {d : Dd} {X : Dx}
theorem DR.below (h : DR W B d X) (hb : Below B W W') : DR W' B d X := ⟨h.pl.below hb, h.fl.below hb⟩
theorem DR.more (h : DR W B d X) (hB : B ≤ B') : DR W B' d X := ⟨h.pl.more hB, h.fl.more hB⟩
theorem DR.up (h : DR W W.heap.size d X) (hb : Below W.heap.size W W') : DR W' W'.heap.size d X := (h.below hb).more hb.size
theorem DR.zero : DR W B zD10 zDx := ⟨Pl.nil, Fl.nil⟩
theorem DR.alloc (h : DR W W.heap.size d X) (o : Obj) : DR (W.alloc o) (W.alloc o).heap.size d X := h.up ((Below.refl _ _).alloc (Nat.le_refl _) o)
/-- The lists do not lie in block p. -/
structure DOff (d : Dd) (X : Dx) (p : Nat) : Prop where
  o1 : ∀ a, X.A = some a → 0 < d.l.length → a.block ≠ p
  o2 : ∀ a, X.A2 = some a → 0 < d.F.length → a.block ≠ p
theorem DR.offs (h : DR W B d X) (hp : B ≤ p) : DOff d X p := by
  refine ⟨fun a e h0 => ?_, fun a e h0 => ?_⟩
  · obtain ⟨b, o, e2, hb, _⟩ := h.pl.rd.2 h0
    rw [e2] at e; injection e with e; subst e; show b ≠ p; omega
  · obtain ⟨b, o, e2, hb, _⟩ := h.fl.rd.2 h0
    rw [e2] at e; injection e with e; subst e; show b ≠ p; omega
theorem DR.offp (h : DR W B d X) {q : Addr} (ho : DOff d X q.block) (v : Value) : DR (W.setCell q v) B d X := ⟨h.pl.offp ho.o1 v, h.fl.offp ho.o2 v⟩
/-- Both lie from a block on. -/
def Dx.nw (X : Dx) (lo : Nat) : Prop := Nw lo X.A ∧ Nw lo X.A2
theorem Dx.nw.off {lo : Nat} (h : X.nw lo) (hp : p < lo) : DOff d X p := ⟨fun a e _ => by have := h.1 a e; omega, fun a e _ => by have := h.2 a e; omega⟩
theorem Dx.nw.low {lo lo' : Nat} (h : X.nw lo) (hp : lo' ≤ lo) : X.nw lo' := ⟨nw_low h.1 hp, nw_low h.2 hp⟩
theorem zDx_nw (lo : Nat) : zDx.nw lo := ⟨nw_none, nw_none⟩
end
/-- Block p holds a directory, and may be written. -/
structure Db10 (W : World) (p : Nat) (d : Dd) (X : Dx) : Prop where
  c0 : W.cell? ⟨p, 0, none⟩ = some (.int .i64 d.vn)
  c1 : W.cell? ⟨p, 1, none⟩ = some (.slice X.A d.l.length X.c)
  c2 : W.cell? ⟨p, 2, none⟩ = some (.slice X.A2 d.F.length X.c2)
  fr : ∀ o, W.frozen? ⟨p, o, none⟩ = false
  lt : p < W.heap.size
section
variable {W W' : World} {p : Nat} {d : Dd} {X : Dx}
theorem Db10.keep (h : Db10 W p d X) (hc : ∀ o, W'.cell? ⟨p, o, none⟩ = W.cell? ⟨p, o, none⟩) (hf : ∀ o, W'.frozen? ⟨p, o, none⟩ = W.frozen? ⟨p, o, none⟩) (hs : W.heap.size ≤ W'.heap.size) : Db10 W' p d X :=
  ⟨(hc 0).trans h.c0, (hc 1).trans h.c1, (hc 2).trans h.c2, fun o => (hf o).trans (h.fr o), Nat.lt_of_lt_of_le h.lt hs⟩
theorem Db10.up (h : Db10 W p d X) (hb : Below W.heap.size W W') : Db10 W' p d X := h.keep (fun o => hb.cell (p := ⟨p, o, none⟩) h.lt) (fun o => hb.frozen (p := ⟨p, o, none⟩) h.lt) hb.size
theorem Db10.alloc (h : Db10 W p d X) (o : Obj) : Db10 (W.alloc o) p d X := h.up ((Below.refl _ _).alloc (Nat.le_refl _) o)
theorem Db10.other (h : Db10 W p d X) {a : Addr} (hne : a.block ≠ p) (v : Value) : Db10 (W.setCell a v) p d X :=
  h.keep (fun o => World.cell?_setCell_other W a ⟨p, o, none⟩ v (fun e => hne (by rw [e]))) (fun o => by simp [go_sem]) (by simp)
theorem Db10.grown {g : Nat} (h : Db10 W p d X) (hg : W.grownBy W' (some g)) (hne : p ≠ g) : Db10 W' p d X := h.keep (fun o => hg.cell_far ⟨p, o, none⟩ h.lt (fun e => by injection e with e; exact hne e)) (fun o => hg.frozen_far ⟨p, o, none⟩ h.lt (fun e => by injection e with e; exact hne e)) hg.size
theorem Db10.start (w : World) (d : Dd) (X : Dx) (t : TypeId) : Db10 (w.alloc (.cells #[.int .i64 d.vn, .slice X.A d.l.length X.c, .slice X.A2 d.F.length X.c2] t)) w.heap.size d X :=
  ⟨by simp [go_sem], by simp [go_sem], by simp [go_sem], fun o => by simp [go_sem], by simp⟩
theorem Db10.zero (w : World) (t : TypeId) : Db10 (w.alloc (.cells #[.int .i64 0, .slice none 0 0, .slice none 0 0] t)) w.heap.size zD10 zDx := Db10.start w zD10 zDx t
theorem Db10.set (h : Db10 W p d X) (e : Dd) (Y : Dx) : Db10 (((W.setCell ⟨p, 0, none⟩ (.int .i64 e.vn)).setCell ⟨p, 1, none⟩ (.slice Y.A e.l.length Y.c)).setCell ⟨p, 2, none⟩ (.slice Y.A2 e.F.length Y.c2)) p e Y := by
  obtain ⟨c0, c1, c2, fr, lt⟩ := h
  exact ⟨by simp [go_sem, c0], by simp [go_sem, c1], by simp [go_sem, c2], fun o => by simp [go_sem, fr o], by simp [lt]⟩
theorem Db10.all (h : Db10 W p d X) : (W.cell? ⟨p, 0, none⟩ = some (.int .i64 d.vn) ∧ W.cell? ⟨p, 1, none⟩ = some (.slice X.A d.l.length X.c) ∧ W.cell? ⟨p, 2, none⟩ = some (.slice X.A2 d.F.length X.c2) ∧ p < W.heap.size) ∧ W.frozen? ⟨p, 0, none⟩ = false ∧ W.frozen? ⟨p, 1, none⟩ = false ∧ W.frozen? ⟨p, 2, none⟩ = false := ⟨⟨h.c0, h.c1, h.c2, h.lt⟩, h.fr 0, h.fr 1, h.fr 2⟩
end
/-- A directory in a box of the call's own. -/
structure DAt (w : World) (p : Nat) (d : Dd) (X : Dx) (W : World) : Prop where
  db : Db10 W p d X
  dr : DR W W.heap.size d X
  off : DOff d X p
  bel : Below w.heap.size w W
  old : w.heap.size ≤ p
section
variable {w W W' : World} {p : Nat} {d : Dd} {X : Dx}
theorem DAt.start {w : World} {d : Dd} {X : Dx} (t : TypeId) (h : DR w w.heap.size d X) : DAt w w.heap.size d X (w.alloc (.cells #[.int .i64 d.vn, .slice X.A d.l.length X.c, .slice X.A2 d.F.length X.c2] t)) :=
  ⟨Db10.start w d X t, h.alloc _, h.offs (Nat.le_refl _), (Below.refl _ _).alloc (Nat.le_refl _) _, Nat.le_refl _⟩
theorem DAt.below (h : DAt w p d X W) (hb : Below W.heap.size W W') : DAt w p d X W' := ⟨h.db.up hb, h.dr.up hb, h.off, h.bel.trans (hb.mono h.bel.size), h.old⟩
theorem DAt.alloc (h : DAt w p d X W) (o : Obj) : DAt w p d X (W.alloc o) := h.below ((Below.refl _ _).alloc (Nat.le_refl _) o)
theorem DAt.drew (h : DAt w p d X W) : DAt w p d X W.drew := h.below (Below.refl _ _).drew
theorem DAt.other (h : DAt w p d X W) {a : Addr} (hne : a.block ≠ p) (ho : DOff d X a.block) (ha : w.heap.size ≤ a.block) (v : Value) : DAt w p d X (W.setCell a v) :=
  ⟨h.db.other hne v, (h.dr.offp ho v).more (by simp), h.off, h.bel.setCell ha v, h.old⟩
/-- The cells of the box. -/
abbrev K3 (p : Nat) (d : Dd) (X : Dx) (W : World) : Prop := W.cell? ⟨p, 0, none⟩ = some (.int .i64 d.vn) ∧ W.cell? ⟨p, 1, none⟩ = some (.slice X.A d.l.length X.c) ∧ W.cell? ⟨p, 2, none⟩ = some (.slice X.A2 d.F.length X.c2)
theorem DAt.k (h : DAt w p d X W) : K3 p d X W := ⟨h.db.c0, h.db.c1, h.db.c2⟩
end
end Go.Proofs.Ytfkpkmcpepeaeaa
namespace Go.Proofs.Ytfkpkmcpepeaeaa
open Go.RowKit
set_option linter.unusedVariables false

theorem info_u8 : (Try.prog.info? 5).map (fun i => (i.zero, i.size, i.bytes)) = some (some (.int .u8 0), 1, 1) := by kernel_rfl
end Go.Proofs.Ytfkpkmcpepeaeaa
namespace Go.Proofs.Ytfkpkmcpepeaeaa
open Go.RowKit
set_option linter.unusedVariables false

/-- A number from lo to hi. -/
def wiR (n lo hi : Int) : Bool := decide (lo ≤ n ∧ n ≤ hi)
theorem wiR_true {n lo hi : Int} (h1 : lo ≤ n) (h2 : n ≤ hi) : wiR n lo hi = true := decide_eq_true ⟨h1, h2⟩
theorem wiR_low {n lo hi : Int} (h1 : ¬ lo ≤ n) : wiR n lo hi = false := decide_eq_false (fun h => h1 h.1)
theorem wiR_high {n lo hi : Int} (h1 : ¬ n ≤ hi) : wiR n lo hi = false := decide_eq_false (fun h => h1 h.2)
theorem rwithin_any (n lo hi : Int) (w : World) : Calls Try.prog 26 #[.int .i64 n, .int .i64 lo, .int .i64 hi] w fun e w' => e = .returned (.bool (wiR n lo hi)) ∧ w = w' := by
  by_cases h1 : lo ≤ n
  · by_cases h2 : n ≤ hi
    · have H := Lib.hid (wiR_true h1 h2)
      go_enter Try.func26, Try.ntmps26
      go_wp2
      go_ret
      exact ⟨by rw [H.out]; rfl, rfl⟩
    · have H := Lib.hid (wiR_high (lo := lo) h2)
      go_enter Try.func26, Try.ntmps26
      go_wp2
      go_ret
      exact ⟨by rw [H.out]; rfl, rfl⟩
  · have H := Lib.hid (wiR_low (hi := hi) h1)
    go_enter Try.func26, Try.ntmps26
    go_wp2
    go_ret
    exact ⟨by rw [H.out]; rfl, rfl⟩

theorem sfind1_any (d : Sp) (s : Int) (p : Nat) (w : World) (hp : p < w.heap.size) (hc : w.cell? ⟨p, 0, none⟩ = some (.int .i64 s)) :
    Calls Try.prog 61 #[d.v, .pointer (some ⟨p, 0, none⟩)] w fun e w' => e = .returned (.bool (decide (d.sh = s))) ∧ Below w.heap.size w w' := by
  have HB := Lib.hid ((Below.refl w.heap.size w).alloc (Nat.le_refl _) (.cells #[.int .i64 d.lo, .int .i64 d.hi, .int .i64 d.sh] 43))
  have HD := Lib.hid (show (d.sh == s) = decide (d.sh = s) by rw [Bool.eq_iff_iff]; simp)
  go_enter Try.func61, Try.ntmps61
  go_wp2
  go_ret
  exact ⟨by rw [← HD.out]; rfl, HB.out⟩

set_option maxHeartbeats 1000000 in
theorem sixfunc_any (A : Option Addr) (n c : Nat) (l : List Sp) (s : Int) (p : Nat) (w : World) (hv : Pl w w.heap.size (.slice A n c) l) (hp : p < w.heap.size) (hc : w.cell? ⟨p, 0, none⟩ = some (.int .i64 s)) :
    Calls Try.prog 60 #[.slice A n c, .func (.func 61) #[] #[.pointer (some ⟨p, 0, none⟩)]] w fun e w' => e = .returned (.int .i64 (ixS l s)) ∧ Below w.heap.size w w' := by
  obtain ⟨rfl, hm1, hm2⟩ := hv.len
  have hL : l.length ≤ 9223372036854775807 := by unfold maxLen at hm2; omega
  have HV := Lib.hid hv
  have HP := Lib.hid hp
  have HC := Lib.hid hc
  have HB := Lib.hid (Below.refl w.heap.size w)
  clear hv hm1 hm2 hp hc
  go_enter Try.func60, Try.ntmps60
  go_wp2
  go_loopw [8] (fun i wr => ∃ k : Nat, k ≤ l.length ∧ i = .int .i64 k ∧ Below w.heap.size w wr ∧ ∀ j, j < k → (sg l j).sh ≠ s) (fun i _ => l.length - (intOf i).toNat)
  case atStart => exact ⟨0, by omega, rfl, HB.out, fun j h => absurd h (by omega)⟩
  case round =>
    obtain ⟨k, hk, rfl, hb, hno⟩ := hrel
    have HN := Lib.hid hno
    have HVK := Lib.hid (HV.out.below hb)
    have HPK := Lib.hid (Nat.lt_of_lt_of_le HP.out hb.size)
    have HCK := Lib.hid ((hb.cell (p := ⟨p, 0, none⟩) HP.out).trans HC.out)
    have HB := Lib.hid hb
    clear hno hb
    by_cases hlt : k < l.length
    · obtain ⟨b, o, rfl, hb, c0, c1, c2⟩ := HVK.out.atg hlt
      have HF := Lib.hid (fun w1 hp hc => sfind1_any (sg l k) s p w1 hp hc)
      by_cases he : (sg l k).sh = s
      · have HR := Lib.hid (ixS_hit hlt he HN.out)
        rw [decide_eq_true he] at HF
        clear he
        generalize sg l k = M at *
        go_wp2_with fail
        refine (HF.out _ HPK.out HCK.out).mono ?_
        rintro e w1 ⟨rfl, hb1⟩
        have HB1 := Lib.hid (HB.out.trans (hb1.mono HB.out.size))
        clear hb1
        go_wp2
        go_ret
        exact ⟨by rw [HR.out]; rfl, HB1.out⟩
      · have HNN := Lib.hid (show ∀ j, j < k + 1 → (sg l j).sh ≠ s from fun j h => by
          by_cases e : j = k
          · rw [e]; exact he
          · exact HN.out j (by omega))
        rw [decide_eq_false he] at HF
        clear he
        generalize sg l k = M at *
        go_wp2_with fail
        refine (HF.out _ HPK.out HCK.out).mono ?_
        rintro e w1 ⟨rfl, hb1⟩
        have HB1 := Lib.hid (HB.out.trans (hb1.mono HB.out.size))
        clear hb1
        go_wp2
        go_roundw
        case rel => exact ⟨k + 1, by omega, by go_num, HB1.out, HNN.out⟩
        case measure => simp [intOf]; omega
    · have HR := Lib.hid (ixS_none (s := s) (fun j hj => HN.out j (by omega)))
      go_wp2
      go_ret
      exact ⟨by rw [HR.out]; rfl, HB.out⟩

theorem sfind_any (A : Option Addr) (n c : Nat) (l : List Sp) (s : Int) (w : World) (hv : Pl w w.heap.size (.slice A n c) l) :
    Calls Try.prog 36 #[.slice A n c, .int .i64 s] w fun e w' => e = .returned (.int .i64 (ixS l s)) ∧ Below w.heap.size w w' := by
  have HC := Lib.hid (sixfunc_any A n c l s w.heap.size (w.alloc (.cells #[.int .i64 s] 3)) ((hv.alloc (Nat.le_refl _) _).more (by simp)) (by simp) (by simp [go_sem]))
  have HB := Lib.hid ((Below.refl w.heap.size w).alloc (Nat.le_refl _) (.cells #[.int .i64 s] 3))
  have hmf : ∀ (fn : Fn) (first cap : Array Value) (w : World), (Instr.makeFunc fn first cap).run Try.prog w = .ok (.func fn first cap) w := fun _ _ _ _ => rfl
  clear hv
  generalize ixS l s = r at *
  go_enter Try.func36, Try.ntmps36
  go_wp2_with fail
  refine HC.out.mono ?_
  rintro e w1 ⟨rfl, hb1⟩
  have HB1 := Lib.hid (HB.out.trans (hb1.mono HB.out.size))
  clear hb1
  go_wp2
  go_ret
  exact ⟨rfl, HB1.out⟩

set_option maxHeartbeats 2000000 in
theorem scovers_any (A : Option Addr) (n c : Nat) (l : List Sp) (w : World) (hv : Pl w w.heap.size (.slice A n c) l) :
    Calls Try.prog 55 #[.slice A n c] w fun e w' => e = .returned (.bool (cvD 0 l)) ∧ Below w.heap.size w w' := by
  obtain ⟨rfl, hm1, hm2⟩ := hv.len
  have hL : l.length ≤ 9223372036854775807 := by unfold maxLen at hm2; omega
  have HV := Lib.hid hv
  have HB := Lib.hid (Below.refl w.heap.size w)
  have HN0 := Lib.hid (nxD_zero l)
  clear hv hm1 hm2
  go_enter Try.func55, Try.ntmps55
  go_wp2
  go_loopw [3, 8] (fun nx i wr => ∃ k : Nat, k ≤ l.length ∧ i = .int .i64 k ∧ nx = .int .i64 (nxD l k) ∧ Below w.heap.size w wr ∧ ∀ j, j < k → spK l j) (fun _ i _ => l.length - (intOf i).toNat)
  case atStart => exact ⟨0, by omega, rfl, by rw [HN0.out], HB.out, fun j h => absurd h (by omega)⟩
  case round =>
    obtain ⟨k, hk, rfl, rfl, hb, hno⟩ := hrel
    have HN := Lib.hid hno
    have HVK := Lib.hid (HV.out.below hb)
    have HB := Lib.hid hb
    clear hno hb
    by_cases hlt : k < l.length
    · obtain ⟨b, o, rfl, hb, c0, c1, c2⟩ := HVK.out.atg hlt
      have HW := Lib.hid (fun w1 => rwithin_any (sg l k).hi (sg l k).lo 65535 w1)
      have HX := Lib.hid (nxD_succ l k)
      have HA := Lib.hid (HB.out.alloc HB.out.size (.cells #[.int .i64 (sg l k).lo, .int .i64 (sg l k).hi, .int .i64 (sg l k).sh] 43))
      by_cases hs : spK l k
      · have HNN := Lib.hid (show ∀ j, j < k + 1 → spK l j from fun j h => by
          by_cases e : j = k
          · rw [e]; exact hs
          · exact HN.out j (by omega))
        obtain ⟨h1, h2, h3⟩ := hs
        have hne : ((sg l k).lo != nxD l k) = false := by simpa using h1
        rw [wiR_true h2 h3] at HW
        have hh1 : -9223372036854775808 ≤ (sg l k).hi ∨ True := .inr trivial
        have HNX : nxD l k = (sg l k).lo := h1.symm
        have h0 : 0 ≤ (sg l k).lo := by
          rw [h1]
          cases k with
          | zero => rw [nxD_zero]; omega
          | succ k => rw [nxD_succ]; have := (HN.out k (by omega)).1; have := (HN.out k (by omega)).2.1; exact (by
              have hq : ∀ j, j < k + 1 → 0 ≤ (sg l j).hi + 1 := fun j => by
                induction j with
                | zero => intro hj; have a := (HN.out 0 hj).1; have b := (HN.out 0 hj).2.1; rw [nxD_zero] at a; omega
                | succ j ih => intro hj; have a := (HN.out (j + 1) hj).1; have b := (HN.out (j + 1) hj).2.1; have c := ih (by omega); rw [nxD_succ] at a; omega
              exact hq k (by omega))
        clear h1 hh1 HNX
        generalize nxD l k = nk at *
        generalize sg l k = M at *
        go_wp2_with fail
        refine (HW.out _).mono ?_
        rintro e w1 ⟨rfl, rfl⟩
        go_wp2
        go_roundw
        case rel => exact ⟨k + 1, by omega, by go_num, by rw [HX.out], HA.out, HNN.out⟩
        case measure => simp [intOf]; omega
      · have HR := Lib.hid (cvD_no hlt hs)
        by_cases h1 : (sg l k).lo = nxD l k
        · have hne : ((sg l k).lo != nxD l k) = false := by simpa using h1
          have hwf : wiR (sg l k).hi (sg l k).lo 65535 = false := decide_eq_false fun h => hs ⟨h1, h.1, h.2⟩
          rw [hwf] at HW
          clear h1 hs hwf
          generalize nxD l k = nk at *
          generalize sg l k = M at *
          go_wp2_with fail
          refine (HW.out _).mono ?_
          rintro e w1 ⟨rfl, rfl⟩
          go_wp2
          go_ret
          exact ⟨by rw [HR.out]; rfl, HA.out⟩
        · have hne : ((sg l k).lo != nxD l k) = true := bne_iff_ne.2 h1
          clear h1 hs
          generalize nxD l k = nk at *
          generalize sg l k = M at *
          go_wp2
          go_ret
          exact ⟨by rw [HR.out]; rfl, HA.out⟩
    · obtain rfl : k = l.length := by omega
      have HR := Lib.hid (show (nxD l l.length == 65536) = cvD 0 l by rw [cvD_end HN.out, Bool.eq_iff_iff]; simp)
      go_wp2
      go_ret
      exact ⟨by rw [← HR.out]; rfl, HB.out⟩
end Go.Proofs.Ytfkpkmcpepeaeaa
