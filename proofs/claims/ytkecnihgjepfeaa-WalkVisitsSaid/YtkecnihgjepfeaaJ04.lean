/- What is proved here: (plain) addresses and slices that lie from a block on; (plain) lists of spans and of numbers that lie in memory, directories; (plain) an append of a slice that is read, as a step of a region that draws its order; slices.Clone of spans and of numbers by contracts: the copies are the call's own; (plain) 'copy' between rows whose elements take more than one cell; rows known whole. -/
import Derived.Test.YtkecnihgjepfeaaJ01
import Derived.Below
import Derived.Test.YtkecnihgjepfeaaJ03
import Derived.Test.YtkecnihgjepfeaaJ02
import Derived.Deep.MidRow
import Derived.Laws.MakeOwn
import Derived.Deep.AppendLies
import Derived.Test.YtkecnihgjepfeaaRows
import Derived.WalkKit
import Derived.Outline
import Derived.IntWalk
import Derived.WalkSpells
import Derived.Lib.AppendZerosOnto
import Derived.Deep.RegionHeld3
import Derived.Laws.CopyRow
import Derived.Laws.CopyOwn
import Derived.Deep.RegionLaw
namespace Go.Proofs.Ytkecnihgjepfeaa
open Go.RowKit
set_option linter.unusedVariables false

/-- An address lies from a block on. -/
def Nw (lo : Nat) (A : Option Addr) : Prop := ∀ a, A = some a → lo ≤ a.block
theorem nw_none {lo : Nat} : Nw lo none := fun a h => by cases h
theorem nw_some {lo b o : Nat} (h : lo ≤ b) : Nw lo (some ⟨b, o, none⟩) := fun a e => by injection e with e; subst e; exact h
theorem nw_low {lo lo' : Nat} {A : Option Addr} (h : Nw lo A) (hl : lo' ≤ lo) : Nw lo' A := fun a e => Nat.le_trans hl (h a e)
/-- A slice lies from a block on. -/
def NwV (lo : Nat) (v : Value) : Prop := ∀ A n c, v = .slice A n c → Nw lo A
theorem nwv_mk {lo n c : Nat} {A : Option Addr} (h : Nw lo A) : NwV lo (.slice A n c) := fun A' n' c' e => by injection e with e1 _ _; subst e1; exact h
theorem nwv_of {lo n c : Nat} {A : Option Addr} (h : NwV lo (.slice A n c)) : Nw lo A := h _ _ _ rfl
theorem nwv_own {W : World} {base lo n size : Nat} {e : TypeId} {v : Value} {xs : List Value} (h : W.ownsRow base e size v n xs) (hl : lo ≤ base) : NwV lo v := by
  rcases h.2 with ⟨hv, _⟩ | ⟨g, cap, cur, hv, hg, _⟩
  · subst hv; exact nwv_mk nw_none
  · subst hv; exact nwv_mk (nw_some (by omega))
end Go.Proofs.Ytkecnihgjepfeaa
namespace Go.Proofs.Ytkecnihgjepfeaa
open Go.RowKit
set_option linter.unusedVariables false

/-- The cells of a span. -/
def Sp.l (d : Sp) : List Value := [.int .i64 d.lo, .int .i64 d.hi, .int .i64 d.sh]
/-- The span as a value. -/
abbrev Sp.v (d : Sp) : Value := .agg #[.int .i64 d.lo, .int .i64 d.hi, .int .i64 d.sh]
theorem Sp.l_len (d : Sp) : d.l.length = 3 := rfl
theorem Sp.l_one (d : Sp) : ∀ u ∈ d.l, u.oneCell' = true := by
  intro u hu
  simp only [Sp.l, List.mem_cons, List.not_mem_nil, or_false] at hu
  rcases hu with rfl | rfl | rfl <;> rfl
def scs (l : List Sp) : List Value := l.flatMap Sp.l
theorem scs_cons (d : Sp) (l : List Sp) : scs (d :: l) = d.l ++ scs l := rfl
theorem scs_app (l m : List Sp) : scs (l ++ m) = scs l ++ scs m := by simp [scs]
theorem scs_len (l : List Sp) : (scs l).length = l.length * 3 := by
  induction l with
  | nil => rfl
  | cons d l ih => rw [scs_cons, List.length_append, ih, Sp.l_len]; simp; omega
theorem scs_drop (l : List Sp) (k : Nat) : (scs l).drop (k * 3) = scs (l.drop k) := by
  induction k generalizing l with
  | zero => simp
  | succ k ih =>
    cases l with
    | nil => simp [scs]
    | cons d l =>
      rw [scs_cons, List.drop_succ_cons, ← ih, show (k + 1) * 3 = d.l.length + k * 3 by rw [Sp.l_len]; omega, List.drop_append, List.drop_eq_nil_of_le (by omega)]
      simp
theorem scs_take (l : List Sp) (k : Nat) : (scs l).take (k * 3) = scs (l.take k) := by
  induction k generalizing l with
  | zero => simp [scs]
  | succ k ih =>
    cases l with
    | nil => simp [scs]
    | cons d l =>
      rw [scs_cons, List.take_succ_cons, scs_cons, ← ih, show (k + 1) * 3 = d.l.length + k * 3 by rw [Sp.l_len]; omega, List.take_append, List.take_of_length_le (by omega)]
      simp
theorem scs_at (l : List Sp) (k j : Nat) (hk : k < l.length) (hj : j < 3) : (scs l)[k * 3 + j]? = l[k].l[j]? := by
  have h := scs_drop l k
  have e : (scs l)[k * 3 + j]? = ((scs l).drop (k * 3))[j]? := by rw [List.getElem?_drop]
  rw [e, h, List.drop_eq_getElem_cons hk, scs_cons, List.getElem?_append_left (by rw [Sp.l_len]; exact hj)]
theorem scs_one (l : List Sp) : ∀ u ∈ scs l, u.oneCell' = true := by
  intro u hu
  obtain ⟨M, _, h⟩ := List.mem_flatMap.1 hu
  exact M.l_one u h
def ics (F : List Int) : List Value := F.map i64v
theorem ics_len (F : List Int) : (ics F).length = F.length * 1 := by simp [ics]
theorem ics_one (F : List Int) : ∀ u ∈ ics F, u.oneCell' = true := by
  intro u hu
  obtain ⟨M, _, rfl⟩ := List.mem_map.1 hu
  rfl
/-- A value that is a slice, reads as these spans and lies below B. -/
def Pl (w : World) (B : Nat) (v : Value) (l : List Sp) : Prop := ∃ A c, v = .slice A l.length c ∧ l.length ≤ c ∧ c ≤ maxLen ∧ Rd w B 3 A l.length (scs l)
section
variable {w w' : World} {B B' : Nat} {v : Value} {l : List Sp} {A : Option Addr} {n c : Nat}
theorem Pl.nil : Pl w B (.slice none 0 0) [] := ⟨none, 0, rfl, Nat.le_refl _, Nat.zero_le _, Rd.nil none⟩
theorem Pl.keep (h : Pl w B v l) (hk : ∀ p : Addr, p.block < B → w'.cell? p = w.cell? p) : Pl w' B v l := by
  obtain ⟨A, c, e, hl, hm, h⟩ := h; exact ⟨A, c, e, hl, hm, h.keep hk⟩
theorem Pl.more (h : Pl w B v l) (hB : B ≤ B') : Pl w B' v l := by
  obtain ⟨A, c, e, hl, hm, h⟩ := h; exact ⟨A, c, e, hl, hm, h.more hB⟩
theorem Pl.below (h : Pl w B v l) (hb : Below B w w') : Pl w' B v l := h.keep fun _ hp => hb.cell hp
theorem Pl.up (h : Pl w w.heap.size v l) (hb : Below w.heap.size w w') : Pl w' w'.heap.size v l := (h.below hb).more hb.size
theorem Pl.alloc (h : Pl w B v l) (hB : B ≤ w.heap.size) (o : Obj) : Pl (w.alloc o) B v l := h.keep fun p hp => World.cell?_alloc_lt w o p (by omega)
theorem Pl.setCell (h : Pl w B v l) {p : Addr} (hB : B ≤ p.block) (u : Value) : Pl (w.setCell p u) B v l :=
  h.keep fun q hq => World.cell?_setCell_other w p q u (fun e => by subst e; omega)
theorem Pl.len (h : Pl w B (.slice A n c) l) : n = l.length ∧ n ≤ c ∧ c ≤ maxLen := by
  obtain ⟨A', c', e, hl, hm, h⟩ := h
  injection e with e1 e2 e3
  subst e2; subst e3
  exact ⟨rfl, hl, hm⟩
theorem Pl.rd (h : Pl w B (.slice A n c) l) : Rd w B 3 A n (scs l) := by
  obtain ⟨A', c', e, hl, hm, h⟩ := h
  injection e with e1 e2 e3
  subst e1; subst e2
  exact h
theorem Pl.of_own {base : Nat} {e : TypeId} {n : Nat} (h : w.ownsRow base e 3 v n (scs l)) : Pl w w.heap.size v l := by
  have hl : n = l.length := by have := h.1; rw [scs_len] at this; omega
  subst hl
  rcases h.2 with ⟨hv, h0⟩ | ⟨g, cap, cur, hv, _, _, hl, hm, _⟩
  · subst hv; exact ⟨none, 0, by rw [h0], by omega, Nat.zero_le _, by rw [show l = [] from List.length_eq_zero_iff.1 h0]; exact Rd.nil _⟩
  · subst hv; exact ⟨_, cap, rfl, hl, hm, Rd.of_own h⟩
theorem Pl.offp (h : Pl w B (.slice A n c) l) {p : Addr} (ho : ∀ a, A = some a → 0 < n → a.block ≠ p.block) (v : Value) : Pl (w.setCell p v) B (.slice A n c) l := by
  obtain ⟨h1, h2, h3⟩ := h.len
  subst h1
  refine ⟨A, c, rfl, h2, h3, h.rd.1, fun hn => ?_⟩
  obtain ⟨b, o, e, hb, hc⟩ := h.rd.2 hn
  have := ho _ e hn
  exact ⟨b, o, e, hb, fun j u hu => (World.cell?_setCell_other w p _ v (fun e' => by have e2 := congrArg Addr.block e'; simp at e2 this; omega)).trans (hc j u hu)⟩
/-- The span at place k, and where it lies. -/
theorem Pl.atg {k : Nat} (h : Pl w B (.slice A n c) l) (hk : k < l.length) : ∃ b o, A = some ⟨b, o, none⟩ ∧ b < B ∧ w.cell? ⟨b, o + k * 3, none⟩ = some (.int .i64 (sg l k).lo) ∧ w.cell? ⟨b, o + k * 3 + 1, none⟩ = some (.int .i64 (sg l k).hi) ∧ w.cell? ⟨b, o + k * 3 + 2, none⟩ = some (.int .i64 (sg l k).sh) := by
  have hn := h.len.1
  obtain ⟨b, o, e, hb, hc⟩ := h.rd.2 (by omega)
  have g : ∀ j u, j < 3 → l[k].l[j]? = some u → w.cell? ⟨b, o + k * 3 + j, none⟩ = some u := fun j u hj hu => by
    rw [Nat.add_assoc]; exact hc _ u (by rw [scs_at l k j hk hj]; exact hu)
  rw [sg_get hk]
  exact ⟨b, o, e, hb, g 0 _ (by omega) rfl, g 1 _ (by omega) rfl, g 2 _ (by omega) rfl⟩
/-- A cut l[:k]. -/
theorem Pl.upto {k : Nat} (h : Pl w B (.slice A n c) l) (hk : k ≤ l.length) : Pl w B (.slice A k c) (l.take k) := by
  obtain ⟨h1, h2, h3⟩ := h.len
  refine ⟨A, c, by rw [List.length_take, Nat.min_eq_left hk], by rw [List.length_take, Nat.min_eq_left hk]; omega, h3, ?_⟩
  rw [List.length_take, Nat.min_eq_left hk]
  refine ⟨by rw [scs_len, List.length_take, Nat.min_eq_left hk], fun h0 => ?_⟩
  obtain ⟨b, o, e, hb, hc⟩ := h.rd.2 (by omega)
  exact ⟨b, o, e, hb, fun j u hu => hc j u (by
    rw [← scs_take, List.getElem?_take] at hu
    split at hu
    · exact hu
    · cases hu)⟩
/-- A cut l[k:]. -/
theorem Pl.from {k : Nat} (h : Pl w B (.slice A n c) l) (hk : k ≤ l.length) : Pl w B (.slice (if c = k then A else A.map (·.add (k * 3))) (l.length - k) (c - k)) (l.drop k) := by
  obtain ⟨h1, h2, h3⟩ := h.len
  refine ⟨_, c - k, by rw [List.length_drop], by rw [List.length_drop]; omega, by omega, ?_⟩
  rw [List.length_drop]
  refine ⟨by rw [scs_len, List.length_drop], fun h0 => ?_⟩
  obtain ⟨b, o, e, hb, hc⟩ := h.rd.2 (by omega)
  rw [if_neg (by omega), e]
  refine ⟨b, o + k * 3, by rw [Option.map_some, add_mk], hb, fun j u hu => ?_⟩
  rw [Nat.add_assoc]
  exact hc _ u (by rw [← scs_drop, List.getElem?_drop] at hu; exact hu)
end

/-- A value that is a slice, reads as these numbers and lies below B. -/
def Fl (w : World) (B : Nat) (v : Value) (l : List Int) : Prop := ∃ A c, v = .slice A l.length c ∧ l.length ≤ c ∧ c ≤ maxLen ∧ Rd w B 1 A l.length (ics l)
section
variable {w w' : World} {B B' : Nat} {v : Value} {l : List Int} {A : Option Addr} {n c : Nat}
theorem Fl.nil : Fl w B (.slice none 0 0) [] := ⟨none, 0, rfl, Nat.le_refl _, Nat.zero_le _, Rd.nil none⟩
theorem Fl.keep (h : Fl w B v l) (hk : ∀ p : Addr, p.block < B → w'.cell? p = w.cell? p) : Fl w' B v l := by
  obtain ⟨A, c, e, hl, hm, h⟩ := h; exact ⟨A, c, e, hl, hm, h.keep hk⟩
theorem Fl.more (h : Fl w B v l) (hB : B ≤ B') : Fl w B' v l := by
  obtain ⟨A, c, e, hl, hm, h⟩ := h; exact ⟨A, c, e, hl, hm, h.more hB⟩
theorem Fl.below (h : Fl w B v l) (hb : Below B w w') : Fl w' B v l := h.keep fun _ hp => hb.cell hp
theorem Fl.up (h : Fl w w.heap.size v l) (hb : Below w.heap.size w w') : Fl w' w'.heap.size v l := (h.below hb).more hb.size
theorem Fl.alloc (h : Fl w B v l) (hB : B ≤ w.heap.size) (o : Obj) : Fl (w.alloc o) B v l := h.keep fun p hp => World.cell?_alloc_lt w o p (by omega)
theorem Fl.setCell (h : Fl w B v l) {p : Addr} (hB : B ≤ p.block) (u : Value) : Fl (w.setCell p u) B v l :=
  h.keep fun q hq => World.cell?_setCell_other w p q u (fun e => by subst e; omega)
theorem Fl.len (h : Fl w B (.slice A n c) l) : n = l.length ∧ n ≤ c ∧ c ≤ maxLen := by
  obtain ⟨A', c', e, hl, hm, h⟩ := h
  injection e with e1 e2 e3
  subst e2; subst e3
  exact ⟨rfl, hl, hm⟩
theorem Fl.rd (h : Fl w B (.slice A n c) l) : Rd w B 1 A n (ics l) := by
  obtain ⟨A', c', e, hl, hm, h⟩ := h
  injection e with e1 e2 e3
  subst e1; subst e2
  exact h
theorem Fl.of_own {base : Nat} {e : TypeId} {n : Nat} (h : w.ownsRow base e 1 v n (ics l)) : Fl w w.heap.size v l := by
  have hl : n = l.length := by have := h.1; rw [ics_len] at this; omega
  subst hl
  rcases h.2 with ⟨hv, h0⟩ | ⟨g, cap, cur, hv, _, _, hl, hm, _⟩
  · subst hv; exact ⟨none, 0, by rw [h0], by omega, Nat.zero_le _, by rw [show l = [] from List.length_eq_zero_iff.1 h0]; exact Rd.nil _⟩
  · subst hv; exact ⟨_, cap, rfl, hl, hm, Rd.of_own h⟩
theorem Fl.offp (h : Fl w B (.slice A n c) l) {p : Addr} (ho : ∀ a, A = some a → 0 < n → a.block ≠ p.block) (v : Value) : Fl (w.setCell p v) B (.slice A n c) l := by
  obtain ⟨h1, h2, h3⟩ := h.len
  subst h1
  refine ⟨A, c, rfl, h2, h3, h.rd.1, fun hn => ?_⟩
  obtain ⟨b, o, e, hb, hc⟩ := h.rd.2 hn
  have := ho _ e hn
  exact ⟨b, o, e, hb, fun j u hu => (World.cell?_setCell_other w p _ v (fun e' => by have e2 := congrArg Addr.block e'; simp at e2 this; omega)).trans (hc j u hu)⟩
/-- The number at place k, and where it lies. -/
theorem Fl.atg {k : Nat} (h : Fl w B (.slice A n c) l) (hk : k < l.length) : ∃ b o, A = some ⟨b, o, none⟩ ∧ b < B ∧ w.cell? ⟨b, o + k, none⟩ = some (.int .i64 (ig l k)) := by
  have hn := h.len.1
  obtain ⟨b, o, e, hb, hc⟩ := h.rd.2 (by omega)
  rw [ig_get hk]
  exact ⟨b, o, e, hb, hc _ _ (by simp [ics, hk, i64v])⟩
end

/-- Where the lists of a directory lie. -/
structure Dx where
  A : Option Addr
  c : Nat
  A2 : Option Addr
  c2 : Nat
def zDx : Dx := ⟨none, 0, none, 0⟩
/-- A directory as a value. -/
abbrev dv (d : Dd) (X : Dx) : Value := .agg #[.int .i64 d.vn, .slice X.A d.l.length X.c, .slice X.A2 d.F.length X.c2]
/-- The lists of a directory read so, and lie below B. -/
structure DR (W : World) (B : Nat) (d : Dd) (X : Dx) : Prop where
  pl : Pl W B (.slice X.A d.l.length X.c) d.l
  fl : Fl W B (.slice X.A2 d.F.length X.c2) d.F
section
variable {W W' : World} {B B' p : Nat} {d : Dd} {X : Dx}
theorem DR.below (h : DR W B d X) (hb : Below B W W') : DR W' B d X := ⟨h.pl.below hb, h.fl.below hb⟩
theorem DR.more (h : DR W B d X) (hB : B ≤ B') : DR W B' d X := ⟨h.pl.more hB, h.fl.more hB⟩
theorem DR.up (h : DR W W.heap.size d X) (hb : Below W.heap.size W W') : DR W' W'.heap.size d X := (h.below hb).more hb.size
theorem DR.zero : DR W B zD10 zDx := ⟨Pl.nil, Fl.nil⟩
theorem DR.alloc (h : DR W W.heap.size d X) (o : Obj) : DR (W.alloc o) (W.alloc o).heap.size d X := h.up ((Below.refl _ _).alloc (Nat.le_refl _) o)
/-- The lists do not lie in block p. -/
structure DOff (d : Dd) (X : Dx) (p : Nat) : Prop where
  o1 : ∀ a, X.A = some a → 0 < d.l.length → a.block ≠ p
  o2 : ∀ a, X.A2 = some a → 0 < d.F.length → a.block ≠ p
theorem DR.offs (h : DR W B d X) (hp : B ≤ p) : DOff d X p := by
  refine ⟨fun a e h0 => ?_, fun a e h0 => ?_⟩
  · obtain ⟨b, o, e2, hb, _⟩ := h.pl.rd.2 h0
    rw [e2] at e; injection e with e; subst e; show b ≠ p; omega
  · obtain ⟨b, o, e2, hb, _⟩ := h.fl.rd.2 h0
    rw [e2] at e; injection e with e; subst e; show b ≠ p; omega
theorem DR.offp (h : DR W B d X) {q : Addr} (ho : DOff d X q.block) (v : Value) : DR (W.setCell q v) B d X := ⟨h.pl.offp ho.o1 v, h.fl.offp ho.o2 v⟩
/-- Both lie from a block on. -/
def Dx.nw (X : Dx) (lo : Nat) : Prop := Nw lo X.A ∧ Nw lo X.A2
theorem Dx.nw.off {lo : Nat} (h : X.nw lo) (hp : p < lo) : DOff d X p := ⟨fun a e _ => by have := h.1 a e; omega, fun a e _ => by have := h.2 a e; omega⟩
theorem Dx.nw.low {lo lo' : Nat} (h : X.nw lo) (hp : lo' ≤ lo) : X.nw lo' := ⟨nw_low h.1 hp, nw_low h.2 hp⟩
theorem zDx_nw (lo : Nat) : zDx.nw lo := ⟨nw_none, nw_none⟩
end
/-- Block p holds a directory, and may be written. -/
structure Db10 (W : World) (p : Nat) (d : Dd) (X : Dx) : Prop where
  c0 : W.cell? ⟨p, 0, none⟩ = some (.int .i64 d.vn)
  c1 : W.cell? ⟨p, 1, none⟩ = some (.slice X.A d.l.length X.c)
  c2 : W.cell? ⟨p, 2, none⟩ = some (.slice X.A2 d.F.length X.c2)
  fr : ∀ o, W.frozen? ⟨p, o, none⟩ = false
  lt : p < W.heap.size
section
variable {W W' : World} {p : Nat} {d : Dd} {X : Dx}
theorem Db10.keep (h : Db10 W p d X) (hc : ∀ o, W'.cell? ⟨p, o, none⟩ = W.cell? ⟨p, o, none⟩) (hf : ∀ o, W'.frozen? ⟨p, o, none⟩ = W.frozen? ⟨p, o, none⟩) (hs : W.heap.size ≤ W'.heap.size) : Db10 W' p d X :=
  ⟨(hc 0).trans h.c0, (hc 1).trans h.c1, (hc 2).trans h.c2, fun o => (hf o).trans (h.fr o), Nat.lt_of_lt_of_le h.lt hs⟩
theorem Db10.up (h : Db10 W p d X) (hb : Below W.heap.size W W') : Db10 W' p d X := h.keep (fun o => hb.cell (p := ⟨p, o, none⟩) h.lt) (fun o => hb.frozen (p := ⟨p, o, none⟩) h.lt) hb.size
theorem Db10.alloc (h : Db10 W p d X) (o : Obj) : Db10 (W.alloc o) p d X := h.up ((Below.refl _ _).alloc (Nat.le_refl _) o)
theorem Db10.other (h : Db10 W p d X) {a : Addr} (hne : a.block ≠ p) (v : Value) : Db10 (W.setCell a v) p d X :=
  h.keep (fun o => World.cell?_setCell_other W a ⟨p, o, none⟩ v (fun e => hne (by rw [e]))) (fun o => by simp [go_sem]) (by simp)
theorem Db10.grown {g : Nat} (h : Db10 W p d X) (hg : W.grownBy W' (some g)) (hne : p ≠ g) : Db10 W' p d X := h.keep (fun o => hg.cell_far ⟨p, o, none⟩ h.lt (fun e => by injection e with e; exact hne e)) (fun o => hg.frozen_far ⟨p, o, none⟩ h.lt (fun e => by injection e with e; exact hne e)) hg.size
theorem Db10.start (w : World) (d : Dd) (X : Dx) (t : TypeId) : Db10 (w.alloc (.cells #[.int .i64 d.vn, .slice X.A d.l.length X.c, .slice X.A2 d.F.length X.c2] t)) w.heap.size d X :=
  ⟨by simp [go_sem], by simp [go_sem], by simp [go_sem], fun o => by simp [go_sem], by simp⟩
theorem Db10.zero (w : World) (t : TypeId) : Db10 (w.alloc (.cells #[.int .i64 0, .slice none 0 0, .slice none 0 0] t)) w.heap.size zD10 zDx := Db10.start w zD10 zDx t
theorem Db10.set (h : Db10 W p d X) (e : Dd) (Y : Dx) : Db10 (((W.setCell ⟨p, 0, none⟩ (.int .i64 e.vn)).setCell ⟨p, 1, none⟩ (.slice Y.A e.l.length Y.c)).setCell ⟨p, 2, none⟩ (.slice Y.A2 e.F.length Y.c2)) p e Y := by
  obtain ⟨c0, c1, c2, fr, lt⟩ := h
  exact ⟨by simp [go_sem, c0], by simp [go_sem, c1], by simp [go_sem, c2], fun o => by simp [go_sem, fr o], by simp [lt]⟩
theorem Db10.all (h : Db10 W p d X) : (W.cell? ⟨p, 0, none⟩ = some (.int .i64 d.vn) ∧ W.cell? ⟨p, 1, none⟩ = some (.slice X.A d.l.length X.c) ∧ W.cell? ⟨p, 2, none⟩ = some (.slice X.A2 d.F.length X.c2) ∧ p < W.heap.size) ∧ W.frozen? ⟨p, 0, none⟩ = false ∧ W.frozen? ⟨p, 1, none⟩ = false ∧ W.frozen? ⟨p, 2, none⟩ = false := ⟨⟨h.c0, h.c1, h.c2, h.lt⟩, h.fr 0, h.fr 1, h.fr 2⟩
end
/-- A directory in a box of the call's own. -/
structure DAt (w : World) (p : Nat) (d : Dd) (X : Dx) (W : World) : Prop where
  db : Db10 W p d X
  dr : DR W W.heap.size d X
  off : DOff d X p
  bel : Below w.heap.size w W
  old : w.heap.size ≤ p
section
variable {w W W' : World} {p : Nat} {d : Dd} {X : Dx}
theorem DAt.start {w : World} {d : Dd} {X : Dx} (t : TypeId) (h : DR w w.heap.size d X) : DAt w w.heap.size d X (w.alloc (.cells #[.int .i64 d.vn, .slice X.A d.l.length X.c, .slice X.A2 d.F.length X.c2] t)) :=
  ⟨Db10.start w d X t, h.alloc _, h.offs (Nat.le_refl _), (Below.refl _ _).alloc (Nat.le_refl _) _, Nat.le_refl _⟩
theorem DAt.below (h : DAt w p d X W) (hb : Below W.heap.size W W') : DAt w p d X W' := ⟨h.db.up hb, h.dr.up hb, h.off, h.bel.trans (hb.mono h.bel.size), h.old⟩
theorem DAt.alloc (h : DAt w p d X W) (o : Obj) : DAt w p d X (W.alloc o) := h.below ((Below.refl _ _).alloc (Nat.le_refl _) o)
theorem DAt.drew (h : DAt w p d X W) : DAt w p d X W.drew := h.below (Below.refl _ _).drew
theorem DAt.other (h : DAt w p d X W) {a : Addr} (hne : a.block ≠ p) (ho : DOff d X a.block) (ha : w.heap.size ≤ a.block) (v : Value) : DAt w p d X (W.setCell a v) :=
  ⟨h.db.other hne v, (h.dr.offp ho v).more (by simp), h.off, h.bel.setCell ha v, h.old⟩
/-- The cells of the box. -/
abbrev K3 (p : Nat) (d : Dd) (X : Dx) (W : World) : Prop := W.cell? ⟨p, 0, none⟩ = some (.int .i64 d.vn) ∧ W.cell? ⟨p, 1, none⟩ = some (.slice X.A d.l.length X.c) ∧ W.cell? ⟨p, 2, none⟩ = some (.slice X.A2 d.F.length X.c2)
theorem DAt.k (h : DAt w p d X W) : K3 p d X W := ⟨h.db.c0, h.db.c1, h.db.c2⟩
end
end Go.Proofs.Ytkecnihgjepfeaa
namespace Go.Proofs.Ytkecnihgjepfeaa
open Go.RowKit

/-- The step of an append of a list that reads, in a region that draws its order. -/
theorem step_append_rd {P : Program} (w : World) {ops : Array Oper} {o : Oper} {a : Act} {K : Act → World → Prop} {Q : Exit → Act → World → Prop} {E : Prop} (hgd : o.guard = none) (s x : Operand) (t : TypeId)
    (ho : o.op = .call { callee := .builtin .append, args := #[s, x], argTypes := #[t, t] })
    (base : Nat) (e : TypeId) (i : TypeInfo) (z : Value) (size bytes : Nat) (ht : P.underlying t = some (.slice e)) (hi : P.info? e = some i) (hz : i.zero = some z)
    (hsize : i.size = size) (hby : i.bytes = bytes) (hzs : z.cells.size = size) (hsz : 0 < size)
    (v : Value) (n : Nat) (xs : List Value) (hs : a.eval s = v) (hown : w.ownsRow base e size v n xs)
    (B : Nat) (A : Option Addr) (m c : Nat) (news : List Value) (hx : a.eval x = .slice A m c) (hr : Rd w B size A m news) (h1 : ∀ u ∈ news, u.oneCell' = true)
    (h63 : n + m ≤ maxLen) (hbytes : (n + m) * bytes ≤ 140737488355328) (hbase : base ≤ w.heap.size)
    (h : ∀ v' w', w'.ownsRow base e size v' (n + m) (xs ++ news) → w.grownBy w' v.ownBlock → (v'.ownBlock = v.ownBlock ∨ v'.ownBlock = some w.heap.size) → K (a.put o.dst v') w') :
    if Region.wanted o (yielded ops a.tmps) = true then Oper.wp P o a w K Q else E := by
  have hw : Region.wanted o (yielded ops a.tmps) = true := by simp [Region.wanted, hgd]
  rw [if_pos hw]
  exact wp_append_rd w s x t ho base e i z size bytes ht hi hz hsize hby hzs hsz v n xs hs hown B A m c news hx hr h1 h63 hbytes hbase h
end Go.Proofs.Ytkecnihgjepfeaa
namespace Go.Proofs.Ytkecnihgjepfeaa
open Go.RowKit
set_option linter.unusedVariables false

theorem info_sp : (Try.prog.info? 44).map (fun i => (i.zero, i.size, i.bytes)) = some (some (Sp.v zSp), 3, 24) := by kernel_rfl
theorem info_ni : (Try.prog.info? 3).map (fun i => (i.zero, i.size, i.bytes)) = some (some (.int .i64 0), 1, 8) := by kernel_rfl
end Go.Proofs.Ytkecnihgjepfeaa
namespace Go.Proofs.Ytkecnihgjepfeaa
open Go.RowKit
set_option linter.unusedVariables false

section
variable {P : Program}
end

/-- A row of leases that is known whole: block g has the cells cur. -/
abbrev Rw (W : World) (g : Nat) (t : TypeId) (cur : List Value) : Prop := W.heap[g]? = some (.cells cur.toArray t (0, 0))
section
variable {W : World} {g base n cap size : Nat} {t e : TypeId} {cur xs : List Value} {v : Value}
theorem Rw.set (h : Rw W g t cur) (o : Nat) (cs : List Value) : Rw (W.setRow g (splice cur o cs).toArray) g t (splice cur o cs) := setRow_heap W g _ _ t _ h
theorem Rw.cell (h : Rw W g t cur) {j : Nat} {u : Value} (hj : cur[j]? = some u) : W.cell? ⟨g, j, none⟩ = some u := by
  simp [World.cell?, h, hj]
theorem Rw.of_own (h : W.ownsRow base e size v n xs) (h0 : 0 < n) : ∃ g cap cur, v = .slice (some ⟨g, 0, none⟩) n cap ∧ base ≤ g ∧ Rw W g e cur ∧ n ≤ cap ∧ cap ≤ maxLen ∧ cur.length = cap * size ∧ cur.take (n * size) = xs := by
  rcases h.2 with ⟨_, h⟩ | ⟨g, cap, cur, hv, hb, hh, hl, hm, hs, ht⟩
  · omega
  · exact ⟨g, cap, cur.toList, hv, hb, by simpa using hh, hl, hm, by simpa using hs, ht⟩
theorem Rw.own (h : Rw W g e cur) (hb : base ≤ g) (hl : n ≤ cap) (hm : cap ≤ maxLen) (hs : cur.length = cap * size) (ht : cur.take (n * size) = xs) : W.ownsRow base e size (.slice (some ⟨g, 0, none⟩) n cap) n xs := by
  refine ⟨?_, .inr ⟨g, cap, cur.toArray, rfl, hb, h, hl, hm, by simpa using hs, by simpa using ht⟩⟩
  rw [← ht, List.length_take, hs]
  exact Nat.min_eq_left (Nat.mul_le_mul_right _ hl)
theorem Rw.lt (h : Rw W g t cur) : g < W.heap.size := (Array.getElem?_eq_some_iff.1 h).1
theorem Rw.grown {W W' : World} {g : Nat} {t : TypeId} {cur : List Value} {row : Option Nat} (h : Rw W g t cur) (hg : W.grownBy W' row) (hne : some g ≠ row) : Rw W' g t cur := (hg.block g h.lt hne).trans h
theorem Rw.below {W W' : World} {B g : Nat} {t : TypeId} {cur : List Value} (h : Rw W g t cur) (hb : Below B W W') (hl : g < B) : Rw W' g t cur := (hb.block g hl).trans h
section
variable {P : Program} {ops : Array Oper} {o : Oper} {a : Act} {w : World}
end
end
end Go.Proofs.Ytkecnihgjepfeaa
