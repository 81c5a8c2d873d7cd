/- What is proved here: Shm; cuts of a list of leases: what the walk gets, and how it reads; (plain) 'copy' between rows whose elements take more than one cell; rows known whole. -/
import Derived.Test.YtnldgfhkdllinaaGreatJ22
import Derived.Test.YtnldgfhkdllinaaGreatJ15
import Derived.Test.YtnldgfhkdllinaaGreatJ01
import Derived.Laws.Slices
import Derived.Laws.CopyRow
import Derived.Laws.CopyOwn
import Derived.Deep.RegionLaw
/- Plain: shards in memory: where the lists of a shard lie, a box of the call's own that holds a shard. -/
namespace Go.Proofs.YtnldgfhkdllinaaGreat
open Go.RowKit
set_option linter.unusedVariables false

/-- A shard as a value. -/
abbrev sv (S : Sh) (D : Sx) : Value := .agg #[.bool S.lv, .int .i64 S.lo, .int .i64 S.hi, .slice D.A S.cs.length D.c, .int .i64 S.hd, .int .i64 S.sz, .slice D.A2 S.l.length D.c2, .slice D.A3 S.h.length D.c3]
/-- The lists of a shard read so, and lie below B. -/
structure SR (W : World) (B : Nat) (S : Sh) (D : Sx) : Prop where
  ls : Ls W B (.slice D.A S.cs.length D.c) S.cs
  el : El W B (.slice D.A2 S.l.length D.c2) S.l
  dl : Dl W B (.slice D.A3 S.h.length D.c3) S.h
/-- The address of a row of n does not lie in block p. -/
def OffB (p n : Nat) (A : Option Addr) : Prop := 0 < n → ∀ a, A = some a → a.block ≠ p
theorem offb_none {p n : Nat} : OffB p n none := fun _ a h => by cases h
theorem offb_nw {p n lo : Nat} {A : Option Addr} (h : Nw lo A) (hp : p < lo) : OffB p n A := fun _ a e => by have := h a e; omega
/-- The lists of a shard do not lie in block p. -/
structure SOff (S : Sh) (D : Sx) (p : Nat) : Prop where
  o1 : OffB p S.cs.length D.A
  o2 : OffB p S.l.length D.A2
  o3 : OffB p S.h.length D.A3
/-- They lie from a block on. -/
structure Sx.nw (D : Sx) (lo : Nat) : Prop where
  n1 : Nw lo D.A
  n2 : Nw lo D.A2
  n3 : Nw lo D.A3
theorem Sx.nw.off {S : Sh} {D : Sx} {lo p : Nat} (h : D.nw lo) (hp : p < lo) : SOff S D p := ⟨offb_nw h.n1 hp, offb_nw h.n2 hp, offb_nw h.n3 hp⟩
theorem Sx.nw.low {D : Sx} {lo lo' : Nat} (h : D.nw lo) (hp : lo' ≤ lo) : D.nw lo' := ⟨nw_low h.n1 hp, nw_low h.n2 hp, nw_low h.n3 hp⟩
/-- Nowhere. -/
def zX : Sx := ⟨none, 0, none, 0, none, 0⟩
theorem zX_nw (lo : Nat) : zX.nw lo := ⟨nw_none, nw_none, nw_none⟩

section
variable {W W' : World} {B B' : Nat} {S : Sh} {D : Sx}
theorem SR.below (h : SR W B S D) (hb : Below B W W') : SR W' B S D := ⟨h.ls.below hb, h.el.below hb, h.dl.below hb⟩
theorem SR.more (h : SR W B S D) (hB : B ≤ B') : SR W B' S D := ⟨h.ls.more hB, h.el.more hB, h.dl.more hB⟩
theorem SR.up (h : SR W W.heap.size S D) (hb : Below W.heap.size W W') : SR W' W'.heap.size S D := (h.below hb).more hb.size
theorem SR.zero : SR W B zS zX := ⟨Ls.nil, El.nil, Dl.nil⟩
/-- Lists that lie below B do not lie in a block from B on. -/
theorem rd_off {size n : Nat} {A : Option Addr} {xs : List Value} (h : Rd W B size A n xs) {p : Nat} (hp : B ≤ p) : OffB p n A := fun hn a e => by
  obtain ⟨b, o, e2, hb, _⟩ := h.2 hn
  rw [e2] at e; injection e with e; subst e; show b ≠ p; omega
/-- A store into block p leaves a row that does not lie there. -/
theorem Rd.offp {size n : Nat} {A : Option Addr} {xs : List Value} (h : Rd W B size A n xs) {p : Addr} (ho : OffB p.block n A) (v : Value) : Rd (W.setCell p v) B size A n xs :=
  ⟨h.1, fun hn => by
    obtain ⟨b, o, e, hb, hc⟩ := h.2 hn
    have := ho hn _ e
    exact ⟨b, o, e, hb, fun j u hu => (World.cell?_setCell_other W p _ v (fun e' => by have e2 := congrArg Addr.block e'; simp at e2 this; omega)).trans (hc j u hu)⟩⟩
theorem Ls.offp {A : Option Addr} {n c : Nat} {l : List Msg} (h : Ls W B (.slice A n c) l) {p : Addr} (ho : OffB p.block n A) (v : Value) : Ls (W.setCell p v) B (.slice A n c) l := by
  obtain ⟨h1, h2, h3⟩ := h.len
  subst h1
  exact ⟨A, c, rfl, h2, h3, h.rd.offp ho v⟩
theorem El.offp {A : Option Addr} {n c : Nat} {l : List Le} (h : El W B (.slice A n c) l) {p : Addr} (ho : OffB p.block n A) (v : Value) : El (W.setCell p v) B (.slice A n c) l := by
  obtain ⟨h1, h2, h3⟩ := h.len
  subst h1
  exact ⟨A, c, rfl, h2, h3, h.rd.offp ho v⟩
theorem Dl.offp {A : Option Addr} {n c : Nat} {l : List Du} (h : Dl W B (.slice A n c) l) {p : Addr} (ho : OffB p.block n A) (v : Value) : Dl (W.setCell p v) B (.slice A n c) l := by
  obtain ⟨h1, h2, h3⟩ := h.len
  subst h1
  exact ⟨A, c, rfl, h2, h3, h.rd.offp ho v⟩
theorem SR.offp (h : SR W B S D) {p : Addr} (ho : SOff S D p.block) (v : Value) : SR (W.setCell p v) B S D := ⟨h.ls.offp ho.o1 v, h.el.offp ho.o2 v, h.dl.offp ho.o3 v⟩
end

/-- Block p holds a shard. -/
structure SB8 (W : World) (p : Nat) (S : Sh) (D : Sx) : Prop where
  c0 : W.cell? ⟨p, 0, none⟩ = some (.bool S.lv)
  c1 : W.cell? ⟨p, 1, none⟩ = some (.int .i64 S.lo)
  c2 : W.cell? ⟨p, 2, none⟩ = some (.int .i64 S.hi)
  c3 : W.cell? ⟨p, 3, none⟩ = some (.slice D.A S.cs.length D.c)
  c4 : W.cell? ⟨p, 4, none⟩ = some (.int .i64 S.hd)
  c5 : W.cell? ⟨p, 5, none⟩ = some (.int .i64 S.sz)
  c6 : W.cell? ⟨p, 6, none⟩ = some (.slice D.A2 S.l.length D.c2)
  c7 : W.cell? ⟨p, 7, none⟩ = some (.slice D.A3 S.h.length D.c3)
  fr : ∀ o, W.frozen? ⟨p, o, none⟩ = false
  lt : p < W.heap.size
section
variable {W W' : World} {p : Nat} {S : Sh} {D : Sx}
theorem SB8.keep (h : SB8 W p S D) (hc : ∀ o, W'.cell? ⟨p, o, none⟩ = W.cell? ⟨p, o, none⟩) (hf : ∀ o, W'.frozen? ⟨p, o, none⟩ = W.frozen? ⟨p, o, none⟩) (hs : W.heap.size ≤ W'.heap.size) : SB8 W' p S D :=
  ⟨(hc 0).trans h.c0, (hc 1).trans h.c1, (hc 2).trans h.c2, (hc 3).trans h.c3, (hc 4).trans h.c4, (hc 5).trans h.c5, (hc 6).trans h.c6, (hc 7).trans h.c7, fun o => (hf o).trans (h.fr o), Nat.lt_of_lt_of_le h.lt hs⟩
theorem SB8.below {B : Nat} (h : SB8 W p S D) (hb : Below B W W') (hp : p < B) : SB8 W' p S D := h.keep (fun o => hb.cell (p := ⟨p, o, none⟩) hp) (fun o => hb.frozen (p := ⟨p, o, none⟩) hp) hb.size
theorem SB8.up (h : SB8 W p S D) (hb : Below W.heap.size W W') : SB8 W' p S D := h.below hb h.lt
theorem SB8.other (h : SB8 W p S D) {q : Addr} (hq : q.block ≠ p) (v : Value) : SB8 (W.setCell q v) p S D :=
  h.keep (fun o => World.cell?_setCell_other W q _ v (fun e => hq (by rw [e]))) (fun o => by rw [World.frozen?_setCell]) (by simp)
theorem SB8.start (w : World) (S : Sh) (D : Sx) (t : TypeId) : SB8 (w.alloc (.cells #[.bool S.lv, .int .i64 S.lo, .int .i64 S.hi, .slice D.A S.cs.length D.c, .int .i64 S.hd, .int .i64 S.sz, .slice D.A2 S.l.length D.c2, .slice D.A3 S.h.length D.c3] t)) w.heap.size S D :=
  ⟨by simp [go_sem], by simp [go_sem], by simp [go_sem], by simp [go_sem], by simp [go_sem], by simp [go_sem], by simp [go_sem], by simp [go_sem], fun o => by simp [go_sem], by simp⟩
theorem SB8.zero (w : World) (t : TypeId) : SB8 (w.alloc (.cells #[.bool false, .int .i64 0, .int .i64 0, .slice none 0 0, .int .i64 0, .int .i64 0, .slice none 0 0, .slice none 0 0] t)) w.heap.size zS zX := SB8.start w zS zX t
/-- The cells as the walk reads them. -/
theorem SB8.facts (h : SB8 W p S D) : W.cell? ⟨p, 0, none⟩ = some (.bool S.lv) ∧ W.cell? ⟨p, 1, none⟩ = some (.int .i64 S.lo) ∧ W.cell? ⟨p, 2, none⟩ = some (.int .i64 S.hi) ∧ W.cell? ⟨p, 3, none⟩ = some (.slice D.A S.cs.length D.c) ∧ W.cell? ⟨p, 4, none⟩ = some (.int .i64 S.hd) ∧ W.cell? ⟨p, 5, none⟩ = some (.int .i64 S.sz) ∧ W.cell? ⟨p, 6, none⟩ = some (.slice D.A2 S.l.length D.c2) ∧ W.cell? ⟨p, 7, none⟩ = some (.slice D.A3 S.h.length D.c3) ∧ p < W.heap.size :=
  ⟨h.c0, h.c1, h.c2, h.c3, h.c4, h.c5, h.c6, h.c7, h.lt⟩
theorem SB8.free (h : SB8 W p S D) : W.frozen? ⟨p, 0, none⟩ = false ∧ W.frozen? ⟨p, 1, none⟩ = false ∧ W.frozen? ⟨p, 2, none⟩ = false ∧ W.frozen? ⟨p, 3, none⟩ = false ∧ W.frozen? ⟨p, 4, none⟩ = false ∧ W.frozen? ⟨p, 5, none⟩ = false ∧ W.frozen? ⟨p, 6, none⟩ = false ∧ W.frozen? ⟨p, 7, none⟩ = false :=
  ⟨h.fr 0, h.fr 1, h.fr 2, h.fr 3, h.fr 4, h.fr 5, h.fr 6, h.fr 7⟩
theorem addr_ne {p a b : Nat} (h : a ≠ b) : (⟨p, a, none⟩ : Addr) ≠ ⟨p, b, none⟩ := fun e => h (by injection e)
/-- Another ring. -/
theorem SB8.setRing (h : SB8 W p S D) (A : Option Addr) (c : Nat) (cs : List Msg) (hd sz : Int) : SB8 (((W.setCell ⟨p, 3, none⟩ (.slice A cs.length c)).setCell ⟨p, 4, none⟩ (.int .i64 hd)).setCell ⟨p, 5, none⟩ (.int .i64 sz)) p ⟨S.lv, S.lo, S.hi, cs, hd, sz, S.l, S.h⟩ ⟨A, c, D.A2, D.c2, D.A3, D.c3⟩ := by
  refine ⟨?_, ?_, ?_, ?_, ?_, ?_, ?_, ?_, fun o => by rw [World.frozen?_setCell, World.frozen?_setCell, World.frozen?_setCell]; exact h.fr o, by simpa using h.lt⟩
  · rw [World.cell?_setCell_other _ _ _ _ (addr_ne (by decide)), World.cell?_setCell_other _ _ _ _ (addr_ne (by decide)), World.cell?_setCell_other _ _ _ _ (addr_ne (by decide))]; exact h.c0
  · rw [World.cell?_setCell_other _ _ _ _ (addr_ne (by decide)), World.cell?_setCell_other _ _ _ _ (addr_ne (by decide)), World.cell?_setCell_other _ _ _ _ (addr_ne (by decide))]; exact h.c1
  · rw [World.cell?_setCell_other _ _ _ _ (addr_ne (by decide)), World.cell?_setCell_other _ _ _ _ (addr_ne (by decide)), World.cell?_setCell_other _ _ _ _ (addr_ne (by decide))]; exact h.c2
  · rw [World.cell?_setCell_other _ _ _ _ (addr_ne (by decide)), World.cell?_setCell_other _ _ _ _ (addr_ne (by decide)), World.cell?_setCell_same' _ _ _ (by rw [h.c3]; rfl)]
  · rw [World.cell?_setCell_other _ _ _ _ (addr_ne (by decide)), World.cell?_setCell_same' _ _ _ (by rw [World.cell?_setCell_other _ _ _ _ (addr_ne (by decide)), h.c4]; rfl)]
  · rw [World.cell?_setCell_same' _ _ _ (by rw [World.cell?_setCell_other _ _ _ _ (addr_ne (by decide)), World.cell?_setCell_other _ _ _ _ (addr_ne (by decide)), h.c5]; rfl)]
  · rw [World.cell?_setCell_other _ _ _ _ (addr_ne (by decide)), World.cell?_setCell_other _ _ _ _ (addr_ne (by decide)), World.cell?_setCell_other _ _ _ _ (addr_ne (by decide))]; exact h.c6
  · rw [World.cell?_setCell_other _ _ _ _ (addr_ne (by decide)), World.cell?_setCell_other _ _ _ _ (addr_ne (by decide)), World.cell?_setCell_other _ _ _ _ (addr_ne (by decide))]; exact h.c7
/-- Another table. -/
theorem SB8.setTab (h : SB8 W p S D) (A2 : Option Addr) (c2 : Nat) (A3 : Option Addr) (c3 : Nat) (l : List Le) (hh : List Du) : SB8 ((W.setCell ⟨p, 6, none⟩ (.slice A2 l.length c2)).setCell ⟨p, 7, none⟩ (.slice A3 hh.length c3)) p ⟨S.lv, S.lo, S.hi, S.cs, S.hd, S.sz, l, hh⟩ ⟨D.A, D.c, A2, c2, A3, c3⟩ := by
  have g : ∀ (j : Nat) (v : Value), j ≠ 6 → j ≠ 7 → W.cell? ⟨p, j, none⟩ = some v → ((W.setCell ⟨p, 6, none⟩ (.slice A2 l.length c2)).setCell ⟨p, 7, none⟩ (.slice A3 hh.length c3)).cell? ⟨p, j, none⟩ = some v := fun j v h6 h7 e => by
    rw [World.cell?_setCell_other _ _ _ _ (addr_ne h7.symm), World.cell?_setCell_other _ _ _ _ (addr_ne h6.symm)]; exact e
  refine ⟨g 0 _ (by decide) (by decide) h.c0, g 1 _ (by decide) (by decide) h.c1, g 2 _ (by decide) (by decide) h.c2, g 3 _ (by decide) (by decide) h.c3, g 4 _ (by decide) (by decide) h.c4, g 5 _ (by decide) (by decide) h.c5, ?_, ?_, fun o => by rw [World.frozen?_setCell, World.frozen?_setCell]; exact h.fr o, by simpa using h.lt⟩
  · rw [World.cell?_setCell_other _ _ _ _ (addr_ne (by decide)), World.cell?_setCell_same' _ _ _ (by rw [h.c6]; rfl)]
  · rw [World.cell?_setCell_same' _ _ _ (by rw [World.cell?_setCell_other _ _ _ _ (addr_ne (by decide)), h.c7]; rfl)]
/-- The stores of a whole shard, as the walk has them. -/
abbrev set8s (W : World) (p : Nat) (S : Sh) (D : Sx) : World := (((((((W.setCell ⟨p, 0, none⟩ (.bool S.lv)).setCell ⟨p, 1, none⟩ (.int .i64 S.lo)).setCell ⟨p, 2, none⟩ (.int .i64 S.hi)).setCell ⟨p, 3, none⟩ (.slice D.A S.cs.length D.c)).setCell ⟨p, 4, none⟩ (.int .i64 S.hd)).setCell ⟨p, 5, none⟩ (.int .i64 S.sz)).setCell ⟨p, 6, none⟩ (.slice D.A2 S.l.length D.c2)).setCell ⟨p, 7, none⟩ (.slice D.A3 S.h.length D.c3)
def Sh.l8 (S : Sh) (D : Sx) : List Value := [.bool S.lv, .int .i64 S.lo, .int .i64 S.hi, .slice D.A S.cs.length D.c, .int .i64 S.hd, .int .i64 S.sz, .slice D.A2 S.l.length D.c2, .slice D.A3 S.h.length D.c3]
theorem set8s_eq (W : World) (p : Nat) (S : Sh) (D : Sx) : set8s W p S D = W.setCells p 0 (S.l8 D) := rfl
theorem set8s_size (W : World) (p : Nat) (S : Sh) (D : Sx) : (set8s W p S D).heap.size = W.heap.size := sets_size p (S.l8 D) 0 W
theorem set8s_below {B : Nat} {a : World} (hp : B ≤ p) (h : Below B a W) (S : Sh) (D : Sx) : Below B a (set8s W p S D) := sets_below hp (S.l8 D) 0 W h
theorem set8s_far {q : Addr} (hq : q.block ≠ p) : (set8s W p S D).cell? q = W.cell? q := sets_far hq 0 (S.l8 D)
theorem SB8.put {S0 : Sh} {D0 : Sx} (h : SB8 W p S0 D0) (S : Sh) (D : Sx) : SB8 (set8s W p S D) p S D := by
  have ht : ∀ j, j < (S.l8 D).length → (W.cell? ⟨p, 0 + j, none⟩).isSome = true := by
    intro j hj
    rw [Nat.zero_add]
    have hj8 : j < 8 := hj
    match j, hj8 with
    | 0, _ => rw [h.c0]; rfl
    | 1, _ => rw [h.c1]; rfl
    | 2, _ => rw [h.c2]; rfl
    | 3, _ => rw [h.c3]; rfl
    | 4, _ => rw [h.c4]; rfl
    | 5, _ => rw [h.c5]; rfl
    | 6, _ => rw [h.c6]; rfl
    | 7, _ => rw [h.c7]; rfl
  have g : ∀ j, j < 8 → (set8s W p S D).cell? ⟨p, j, none⟩ = (S.l8 D)[j]? := fun j hj => by
    have e := World.cell?_setCells_in p (S.l8 D) 0 W ht j hj
    rw [Nat.zero_add] at e
    rw [set8s_eq, e, List.getElem?_eq_getElem (show j < (S.l8 D).length from hj)]
    rfl
  exact ⟨g 0 (by decide), g 1 (by decide), g 2 (by decide), g 3 (by decide), g 4 (by decide), g 5 (by decide), g 6 (by decide), g 7 (by decide), fun o => by rw [set8s_eq, World.frozen?_setCells]; exact h.fr o, by rw [set8s_size]; exact h.lt⟩
end

/-- A box p of the call's own holds a shard whose lists do not lie there. -/
structure SAt (w : World) (p : Nat) (S : Sh) (D : Sx) (W : World) : Prop where
  s8 : SB8 W p S D
  sr : SR W W.heap.size S D
  off : SOff S D p
  bel : Below w.heap.size w W
  old : w.heap.size ≤ p
theorem SR.offs {w : World} {S : Sh} {D : Sx} {B p : Nat} (h : SR w B S D) (hp : B ≤ p) : SOff S D p := ⟨rd_off h.ls.rd hp, rd_off h.el.rd hp, rd_off h.dl.rd hp⟩
section
variable {w W W' : World} {p : Nat} {S : Sh} {D : Sx}
theorem SAt.below (h : SAt w p S D W) (hb : Below W.heap.size W W') : SAt w p S D W' := ⟨h.s8.up hb, h.sr.up hb, h.off, h.bel.trans (hb.mono h.bel.size), h.old⟩
theorem SAt.alloc (h : SAt w p S D W) (o : Obj) : SAt w p S D (W.alloc o) := h.below ((Below.refl _ _).alloc (Nat.le_refl _) o)
theorem SAt.drew (h : SAt w p S D W) : SAt w p S D W.drew := h.below ((Below.refl _ _).drew)
theorem SAt.start (t : TypeId) (h : SR w w.heap.size S D) : SAt w w.heap.size S D (w.alloc (.cells #[.bool S.lv, .int .i64 S.lo, .int .i64 S.hi, .slice D.A S.cs.length D.c, .int .i64 S.hd, .int .i64 S.sz, .slice D.A2 S.l.length D.c2, .slice D.A3 S.h.length D.c3] t)) :=
  ⟨SB8.start w S D t, h.up ((Below.refl _ _).alloc (Nat.le_refl _) _), h.offs (Nat.le_refl _), (Below.refl _ _).alloc (Nat.le_refl _) _, Nat.le_refl _⟩
theorem SAt.setRing (h : SAt w p S D W) {A : Option Addr} {c : Nat} {cs : List Msg} (hd sz : Int) (hl : Ls W W.heap.size (.slice A cs.length c) cs) (ho : OffB p cs.length A) : SAt w p ⟨S.lv, S.lo, S.hi, cs, hd, sz, S.l, S.h⟩ ⟨A, c, D.A2, D.c2, D.A3, D.c3⟩ (((W.setCell ⟨p, 3, none⟩ (.slice A cs.length c)).setCell ⟨p, 4, none⟩ (.int .i64 hd)).setCell ⟨p, 5, none⟩ (.int .i64 sz)) :=
  ⟨h.s8.setRing A c cs hd sz, ⟨(((hl.offp ho _).offp ho _).offp ho _).more (by simp), (((h.sr.el.offp (p := ⟨p, 3, none⟩) h.off.o2 _).offp (p := ⟨p, 4, none⟩) h.off.o2 _).offp (p := ⟨p, 5, none⟩) h.off.o2 _).more (by simp), (((h.sr.dl.offp (p := ⟨p, 3, none⟩) h.off.o3 _).offp (p := ⟨p, 4, none⟩) h.off.o3 _).offp (p := ⟨p, 5, none⟩) h.off.o3 _).more (by simp)⟩, ⟨ho, h.off.o2, h.off.o3⟩,
   ((h.bel.setCell (p := ⟨p, 3, none⟩) h.old _).setCell (p := ⟨p, 4, none⟩) h.old _).setCell (p := ⟨p, 5, none⟩) h.old _, h.old⟩
theorem SAt.setTab (h : SAt w p S D W) {A2 : Option Addr} {c2 : Nat} {A3 : Option Addr} {c3 : Nat} {l : List Le} {hh : List Du} (hl : El W W.heap.size (.slice A2 l.length c2) l) (hd : Dl W W.heap.size (.slice A3 hh.length c3) hh) (o2 : OffB p l.length A2) (o3 : OffB p hh.length A3) : SAt w p ⟨S.lv, S.lo, S.hi, S.cs, S.hd, S.sz, l, hh⟩ ⟨D.A, D.c, A2, c2, A3, c3⟩ ((W.setCell ⟨p, 6, none⟩ (.slice A2 l.length c2)).setCell ⟨p, 7, none⟩ (.slice A3 hh.length c3)) :=
  ⟨h.s8.setTab A2 c2 A3 c3 l hh, ⟨((h.sr.ls.offp (p := ⟨p, 6, none⟩) h.off.o1 _).offp (p := ⟨p, 7, none⟩) h.off.o1 _).more (by simp), ((hl.offp (p := ⟨p, 6, none⟩) o2 _).offp (p := ⟨p, 7, none⟩) o2 _).more (by simp), ((hd.offp (p := ⟨p, 6, none⟩) o3 _).offp (p := ⟨p, 7, none⟩) o3 _).more (by simp)⟩, ⟨h.off.o1, o2, o3⟩,
   (h.bel.setCell (p := ⟨p, 6, none⟩) h.old _).setCell (p := ⟨p, 7, none⟩) h.old _, h.old⟩
theorem SR.sets (ho : SOff S D p) : ∀ (vs : List Value) (m : Nat) (W : World), SR W W.heap.size S D → SR (W.setCells p m vs) (W.setCells p m vs).heap.size S D
  | [], _, _, h => h
  | v :: r, m, W, h => SR.sets ho r (m + 1) _ ((h.offp (p := ⟨p, m, none⟩) ho v).more (by simp))
/-- One list laid anew. -/
theorem SAt.setA (h : SAt w p S D W) {A : Option Addr} {c : Nat} (hl : Ls W W.heap.size (.slice A S.cs.length c) S.cs) (ho : OffB p S.cs.length A) : SAt w p S ⟨A, c, D.A2, D.c2, D.A3, D.c3⟩ (W.setCell ⟨p, 3, none⟩ (.slice A S.cs.length c)) := by
  have g : ∀ (j : Nat) (v : Value), j ≠ 3 → W.cell? ⟨p, j, none⟩ = some v → (W.setCell ⟨p, 3, none⟩ (.slice A S.cs.length c)).cell? ⟨p, j, none⟩ = some v := fun j v h3 e => by
    rw [World.cell?_setCell_other _ _ _ _ (addr_ne h3.symm)]; exact e
  exact ⟨⟨g 0 _ (by decide) h.s8.c0, g 1 _ (by decide) h.s8.c1, g 2 _ (by decide) h.s8.c2, by rw [World.cell?_setCell_same' _ _ _ (by rw [h.s8.c3]; rfl)], g 4 _ (by decide) h.s8.c4, g 5 _ (by decide) h.s8.c5, g 6 _ (by decide) h.s8.c6, g 7 _ (by decide) h.s8.c7, fun o => by rw [World.frozen?_setCell]; exact h.s8.fr o, by simpa using h.s8.lt⟩,
    ⟨(hl.offp (p := ⟨p, 3, none⟩) ho _).more (by simp), (h.sr.el.offp (p := ⟨p, 3, none⟩) h.off.o2 _).more (by simp), (h.sr.dl.offp (p := ⟨p, 3, none⟩) h.off.o3 _).more (by simp)⟩, ⟨ho, h.off.o2, h.off.o3⟩, h.bel.setCell (p := ⟨p, 3, none⟩) h.old _, h.old⟩
theorem SAt.setL (h : SAt w p S D W) {A : Option Addr} {c : Nat} (hl : El W W.heap.size (.slice A S.l.length c) S.l) (ho : OffB p S.l.length A) : SAt w p S ⟨D.A, D.c, A, c, D.A3, D.c3⟩ (W.setCell ⟨p, 6, none⟩ (.slice A S.l.length c)) := by
  have g : ∀ (j : Nat) (v : Value), j ≠ 6 → W.cell? ⟨p, j, none⟩ = some v → (W.setCell ⟨p, 6, none⟩ (.slice A S.l.length c)).cell? ⟨p, j, none⟩ = some v := fun j v h3 e => by
    rw [World.cell?_setCell_other _ _ _ _ (addr_ne h3.symm)]; exact e
  exact ⟨⟨g 0 _ (by decide) h.s8.c0, g 1 _ (by decide) h.s8.c1, g 2 _ (by decide) h.s8.c2, g 3 _ (by decide) h.s8.c3, g 4 _ (by decide) h.s8.c4, g 5 _ (by decide) h.s8.c5, by rw [World.cell?_setCell_same' _ _ _ (by rw [h.s8.c6]; rfl)], g 7 _ (by decide) h.s8.c7, fun o => by rw [World.frozen?_setCell]; exact h.s8.fr o, by simpa using h.s8.lt⟩,
    ⟨(h.sr.ls.offp (p := ⟨p, 6, none⟩) h.off.o1 _).more (by simp), (hl.offp (p := ⟨p, 6, none⟩) ho _).more (by simp), (h.sr.dl.offp (p := ⟨p, 6, none⟩) h.off.o3 _).more (by simp)⟩, ⟨h.off.o1, ho, h.off.o3⟩, h.bel.setCell (p := ⟨p, 6, none⟩) h.old _, h.old⟩
theorem SAt.setH (h : SAt w p S D W) {A : Option Addr} {c : Nat} (hl : Dl W W.heap.size (.slice A S.h.length c) S.h) (ho : OffB p S.h.length A) : SAt w p S ⟨D.A, D.c, D.A2, D.c2, A, c⟩ (W.setCell ⟨p, 7, none⟩ (.slice A S.h.length c)) := by
  have g : ∀ (j : Nat) (v : Value), j ≠ 7 → W.cell? ⟨p, j, none⟩ = some v → (W.setCell ⟨p, 7, none⟩ (.slice A S.h.length c)).cell? ⟨p, j, none⟩ = some v := fun j v h3 e => by
    rw [World.cell?_setCell_other _ _ _ _ (addr_ne h3.symm)]; exact e
  exact ⟨⟨g 0 _ (by decide) h.s8.c0, g 1 _ (by decide) h.s8.c1, g 2 _ (by decide) h.s8.c2, g 3 _ (by decide) h.s8.c3, g 4 _ (by decide) h.s8.c4, g 5 _ (by decide) h.s8.c5, g 6 _ (by decide) h.s8.c6, by rw [World.cell?_setCell_same' _ _ _ (by rw [h.s8.c7]; rfl)], fun o => by rw [World.frozen?_setCell]; exact h.s8.fr o, by simpa using h.s8.lt⟩,
    ⟨(h.sr.ls.offp (p := ⟨p, 7, none⟩) h.off.o1 _).more (by simp), (h.sr.el.offp (p := ⟨p, 7, none⟩) h.off.o2 _).more (by simp), (hl.offp (p := ⟨p, 7, none⟩) ho _).more (by simp)⟩, ⟨h.off.o1, h.off.o2, ho⟩, h.bel.setCell (p := ⟨p, 7, none⟩) h.old _, h.old⟩
theorem SAt.put {S0 : Sh} {D0 : Sx} (h : SAt w p S0 D0 W) (hr : SR W W.heap.size S D) (ho : SOff S D p) : SAt w p S D (set8s W p S D) :=
  ⟨h.s8.put S D, SR.sets ho (S.l8 D) 0 W hr, ho, set8s_below h.old h.bel S D, h.old⟩
/-- Stores into another box. -/
theorem SAt.other (h : SAt w p S D W) {q : Addr} (hq : q.block ≠ p) (ho : SOff S D q.block) (hw : w.heap.size ≤ q.block) (v : Value) : SAt w p S D (W.setCell q v) :=
  ⟨h.s8.other hq v, (h.sr.offp ho v).more (by simp), h.off, h.bel.setCell hw v, h.old⟩
theorem SAt.put_far {q : Nat} (h : SAt w p S D W) (hq : q ≠ p) (ho : SOff S D q) (hw : w.heap.size ≤ q) (S' : Sh) (D' : Sx) : SAt w p S D (set8s W q S' D') :=
  ⟨h.s8.keep (fun o => set8s_far (q := ⟨p, o, none⟩) (fun e => hq e.symm)) (fun o => by rw [set8s_eq, World.frozen?_setCells]) (by rw [set8s_size]; exact Nat.le_refl _), SR.sets ho (S'.l8 D') 0 W h.sr, h.off, set8s_below hw h.bel S' D', h.old⟩
theorem SAt.lt (h : SAt w p S D W) : p < W.heap.size := h.s8.lt
end

/-- A shard as a result. -/
def SV (w : World) (S : Sh) (e : Ending) (w' : World) : Prop := ∃ D, e = .returned (sv S D) ∧ D.nw w.heap.size ∧ SR w' w'.heap.size S D ∧ Below w.heap.size w w'
/-- A shard and an error as a result. -/
def SE (w : World) (S : Sh) (x : Int) (e : Ending) (w' : World) : Prop := ∃ D, e = .returned (.tuple #[sv S D, .int .i64 x]) ∧ D.nw w.heap.size ∧ SR w' w'.heap.size S D ∧ Below w.heap.size w w'
theorem se_nil {w w' : World} {x : Int} (hb : Below w.heap.size w w') : SE w zS x (.returned (.tuple #[.agg #[.bool false, .int .i64 0, .int .i64 0, .slice none 0 0, .int .i64 0, .int .i64 0, .slice none 0 0, .slice none 0 0], .int .i64 x])) w' :=
  ⟨zX, rfl, zX_nw _, SR.zero, hb⟩
end Go.Proofs.YtnldgfhkdllinaaGreat
namespace Go.Proofs.YtnldgfhkdllinaaGreat
open Go.RowKit
set_option linter.unusedVariables false

section
variable {w : World} {B : Nat} {A : Option Addr} {n c : Nat} {l : List Le}
theorem el_under : Tryz.prog.underlying 28 = some (.slice (Tryz.prog.elem 28)) := by kernel_rfl
theorem el_elem : Tryz.prog.elem 28 = 61 := by kernel_rfl
theorem El.upto (h : El w B (.slice A n c) l) (j : Nat) (hj : j ≤ n) : El w B (.slice A j c) (l.take j) := by
  obtain ⟨hn, hl, hm⟩ := h.len
  have hlen : (l.take j).length = j := by simp; omega
  refine ⟨A, c, by rw [hlen], by rw [hlen]; omega, hm, by rw [ecs_len], fun h0 => ?_⟩
  rw [hlen] at h0
  obtain ⟨b, o, rfl, hb, hc⟩ := h.rd.2 (by omega)
  refine ⟨b, o, rfl, hb, fun k u hu => hc k u ?_⟩
  rw [← ecs_take] at hu
  have hk : k < j * 8 := by
    have := (List.getElem?_eq_some_iff.1 hu).1
    simp at this; omega
  rw [← hu, List.getElem?_take_of_lt hk]
theorem El.cut (h : El w B (.slice A n c) l) (k : Nat) (hk : k ≤ n) : El w B (.slice (if c = k then A else A.map (·.add (k * 8))) (n - k) (c - k)) (l.drop k) := by
  obtain ⟨hn, hl, hm⟩ := h.len
  refine ⟨_, c - k, by rw [List.length_drop, hn], by simp; omega, by omega, by rw [ecs_len], fun h0 => ?_⟩
  rw [List.length_drop] at h0
  obtain ⟨b, o, rfl, hb, hc⟩ := h.rd.2 (by omega)
  rw [if_neg (by omega)]
  refine ⟨b, o + k * 8, by rw [Option.map_some, add_mk], hb, fun j u hu => ?_⟩
  rw [Nat.add_assoc]
  refine hc _ u ?_
  rw [← hu, ← ecs_drop, List.getElem?_drop]
theorem run_eupto (A : Option Addr) (n c : Nat) (kh : IntKind) (j : Nat) (hj : j ≤ c) : ∀ W, (Instr.slice 28 (.slice A n c) none (some (.int kh (j : Int))) none).run Tryz.prog W = .ok (.slice A j c) W := fun W => by
  rw [run_slice_h W _ _ _ _ el_under kh _ (by omega) (by omega), el_elem, Tryz.sizeOf61]
  cases A <;> simp [Result.andThen, sliced, Addr.add]
theorem run_ecut (A : Option Addr) (n c : Nat) (kl : IntKind) (k : Nat) (hk : k ≤ n) : ∃ A', A' = (if c = k then A else A.map (·.add (k * 8))) ∧ ∀ W, (Instr.slice 28 (.slice A n c) (some (.int kl (k : Int))) none none).run Tryz.prog W = .ok (.slice A' (n - k) (c - k)) W := by
  refine ⟨_, rfl, fun W => ?_⟩
  rw [run_slice_l W _ _ _ _ el_under kl _ (by omega) (by omega), el_elem, Tryz.sizeOf61]
  simp [Result.andThen, sliced]
end
end Go.Proofs.YtnldgfhkdllinaaGreat
namespace Go.Proofs.YtnldgfhkdllinaaGreat
open Go.RowKit
set_option linter.unusedVariables false

section
variable {P : Program}
theorem run_copy_sized (w : World) (dT sT ty elem : TypeId) (size g o dLen dCap : Nat) (a : Addr) (sLen sCap : Nat) (cur : List Value) (t : TypeId) (cs : List Value)
    (hu : P.underlying dT = some (.slice elem)) (hs : (P.info? elem).map (·.size) = some size)
    (hg : w.heap[g]? = some (.cells cur.toArray t (0, 0))) (hn : cs.length = Nat.min sLen dLen * size)
    (hsrc : ∀ j v, cs[j]? = some v → w.cell? (a.add j) = some v) (hfit : o + cs.length ≤ cur.length) (h1 : ∀ v ∈ cs, v.oneCell' = true) :
    (Builtin.copy_ #[dT, sT] ty #[.slice (some ⟨g, o, none⟩) dLen dCap, .slice (some a) sLen sCap]).run P w =
      .ok (goInt (Nat.min sLen dLen)) (w.setRow g (splice cur o cs).toArray) := by
  have hl := run_loadCells_list (P := P) w a cs hsrc
  have hst := run_storeCells_at P g o t cs 0 cur.toArray w hg (by simpa using hfit) h1
  cases hq : P.info? elem with
  | none => simp [hq] at hs
  | some i =>
    have hi : i.size = size := by simpa [hq] using hs
    have e : w.setRow g (cur.take o ++ cs ++ cur.drop (o + cs.length)).toArray = w.setRow g (splice cur o cs).toArray := by
      unfold splice; rw [List.append_assoc]
    simp [Builtin.copy_, run_underlying hu, Builtin.lenOf, Builtin.firstCells, sizeOf, typeInfo, hq, hi, ← hn, hl, hst]
    rw [← e]
    simp
end

/-- A row of leases that is known whole: block g has the cells cur. -/
abbrev Rw (W : World) (g : Nat) (t : TypeId) (cur : List Value) : Prop := W.heap[g]? = some (.cells cur.toArray t (0, 0))
section
variable {W : World} {g base n cap size : Nat} {t e : TypeId} {cur xs : List Value} {v : Value}
theorem Rw.set (h : Rw W g t cur) (o : Nat) (cs : List Value) : Rw (W.setRow g (splice cur o cs).toArray) g t (splice cur o cs) := setRow_heap W g _ _ t _ h
theorem Rw.cell (h : Rw W g t cur) {j : Nat} {u : Value} (hj : cur[j]? = some u) : W.cell? ⟨g, j, none⟩ = some u := by
  simp [World.cell?, h, hj]
theorem Rw.of_own (h : W.ownsRow base e size v n xs) (h0 : 0 < n) : ∃ g cap cur, v = .slice (some ⟨g, 0, none⟩) n cap ∧ base ≤ g ∧ Rw W g e cur ∧ n ≤ cap ∧ cap ≤ maxLen ∧ cur.length = cap * size ∧ cur.take (n * size) = xs := by
  rcases h.2 with ⟨_, h⟩ | ⟨g, cap, cur, hv, hb, hh, hl, hm, hs, ht⟩
  · omega
  · exact ⟨g, cap, cur.toList, hv, hb, by simpa using hh, hl, hm, by simpa using hs, ht⟩
theorem Rw.own (h : Rw W g e cur) (hb : base ≤ g) (hl : n ≤ cap) (hm : cap ≤ maxLen) (hs : cur.length = cap * size) (ht : cur.take (n * size) = xs) : W.ownsRow base e size (.slice (some ⟨g, 0, none⟩) n cap) n xs := by
  refine ⟨?_, .inr ⟨g, cap, cur.toArray, rfl, hb, h, hl, hm, by simpa using hs, by simpa using ht⟩⟩
  rw [← ht, List.length_take, hs]
  exact Nat.min_eq_left (Nat.mul_le_mul_right _ hl)
theorem Rw.lt (h : Rw W g t cur) : g < W.heap.size := (Array.getElem?_eq_some_iff.1 h).1
theorem splice_len (cur : List Value) (o : Nat) (cs : List Value) (h : o + cs.length ≤ cur.length) : (splice cur o cs).length = cur.length := length_splice cur o cs h
/-- Shifting up, then laying in. -/
theorem splice_shift {A M B C : List Value} {cur : List Value} (h : cur = A ++ (B ++ C)) (hM : M.length ≤ C.length) :
    splice (splice cur (A.length + M.length) B) A.length M = A ++ (M ++ (B ++ C.drop M.length)) := by
  subst h
  have e1 : splice (A ++ (B ++ C)) (A.length + M.length) B = (A ++ (B ++ C)).take (A.length + M.length) ++ (B ++ C.drop M.length) := by
    unfold splice
    congr 2
    rw [show A.length + M.length + B.length = A.length + (B.length + M.length) by omega, List.drop_append, List.drop_eq_nil_of_le (by omega), List.nil_append, show A.length + (B.length + M.length) - A.length = B.length + M.length by omega, List.drop_append, List.drop_eq_nil_of_le (by omega), List.nil_append, show B.length + M.length - B.length = M.length by omega]
  have hT : ((A ++ (B ++ C)).take (A.length + M.length)).length = A.length + M.length := by
    rw [List.length_take]; simp; omega
  rw [e1]
  unfold splice
  rw [List.take_append, hT, show A.length - (A.length + M.length) = 0 by omega, List.take_zero, List.append_nil, List.take_take, Nat.min_eq_left (by omega), List.take_left, List.drop_append, hT, Nat.sub_self, List.drop_zero, List.drop_eq_nil_of_le (by omega), List.nil_append]
/-- Laying two parts behind what is there. -/
theorem splice_two {A M B : List Value} {cur : List Value} (hA : cur.take A.length = A) (hl : A.length + M.length + B.length ≤ cur.length) :
    (splice (splice cur A.length M) (A.length + M.length) B).take (A.length + M.length + B.length) = A ++ (M ++ B) := by
  have e1 : splice cur A.length M = A ++ (M ++ cur.drop (A.length + M.length)) := by unfold splice; rw [hA]
  have e2 : splice (A ++ (M ++ cur.drop (A.length + M.length))) (A.length + M.length) B = A ++ M ++ (B ++ cur.drop (A.length + M.length + B.length)) := by
    unfold splice
    rw [show A ++ (M ++ cur.drop (A.length + M.length)) = (A ++ M) ++ cur.drop (A.length + M.length) by simp, List.take_append_of_le_length (by simp), List.take_of_length_le (by simp), List.drop_append, List.drop_eq_nil_of_le (by simp), List.nil_append, List.length_append, List.drop_drop, show A.length + M.length + (A.length + M.length + B.length - (A.length + M.length)) = A.length + M.length + B.length by omega]
  rw [e1, e2, List.take_append, List.take_of_length_le (by simp)]
  rw [show A.length + M.length + B.length - (A ++ M).length = B.length by simp, List.take_append_of_le_length (Nat.le_refl _), List.take_of_length_le (Nat.le_refl _)]
  simp
theorem grown_setRow (w : World) (g : Nat) (cs : Array Value) : w.grownBy (w.setRow g cs) (some g) :=
  ⟨rfl, rfl, rfl, by simp [World.setRow], fun k _ hne => setRow_other w g k cs (fun e => hne (by rw [e]))⟩
theorem Rw.grown {W W' : World} {g : Nat} {t : TypeId} {cur : List Value} {row : Option Nat} (h : Rw W g t cur) (hg : W.grownBy W' row) (hne : some g ≠ row) : Rw W' g t cur := (hg.block g h.lt hne).trans h
theorem Rw.below {W W' : World} {B g : Nat} {t : TypeId} {cur : List Value} (h : Rw W g t cur) (hb : Below B W W') (hl : g < B) : Rw W' g t cur := (hb.block g hl).trans h
theorem Rw.shape {W : World} {g : Nat} {t : TypeId} {cur : List Value} (h : Rw W g t cur) : W.shape? g = some (t, cur.length) := by
  have h : W.heap[g]? = some (.cells cur.toArray t (0, 0)) := h
  simp [World.shape?, h]
theorem Rw.free {W : World} {g : Nat} {t : TypeId} {cur : List Value} (h : Rw W g t cur) (o : Nat) : W.frozen? ⟨g, o, none⟩ = false := by
  have h : W.heap[g]? = some (.cells cur.toArray t (0, 0)) := h
  simp [World.frozen?, h]
theorem Rw.fresh (w : World) (cs : Array Value) (t : TypeId) : Rw (w.alloc (.cells cs t)) w.heap.size t cs.toList := by
  show (w.heap.push (.cells cs t))[w.heap.size]? = some (.cells cs.toList.toArray t (0, 0))
  simp
section
variable {P : Program} {ops : Array Oper} {o : Oper} {a : Act} {w : World}
/-- 'copy' into a row that is known whole. -/
theorem wp_copy_rw {K : Act → World → Prop} {Q : Exit → Act → World → Prop} (d s : Operand) (t : TypeId)
    (ho : o.op = .call { callee := .builtin .copy, args := #[d, s], argTypes := #[t, t] }) (elem : TypeId) (size : Nat) (hu : P.underlying t = some (.slice elem)) (hsz : (P.info? elem).map (·.size) = some size)
    (g off dLen dCap : Nat) (ad : Addr) (sLen sCap : Nat) (hd : a.eval d = .slice (some ⟨g, off, none⟩) dLen dCap) (hs : a.eval s = .slice (some ad) sLen sCap)
    (cur : List Value) (e : TypeId) (hg : Rw w g e cur) (cs : List Value) (hn : cs.length = Nat.min sLen dLen * size)
    (hsrc : ∀ j v, cs[j]? = some v → w.cell? (ad.add j) = some v) (hfit : off + cs.length ≤ cur.length) (h1 : ∀ v ∈ cs, v.oneCell' = true)
    (h : ∀ n w', Rw w' g e (splice cur off cs) → w.grownBy w' (some g) → K (a.put o.dst (goInt n)) w') : o.wp P a w K Q := by
  have hrun := run_copy_sized (P := P) w t t o.type elem size g off dLen dCap ad sLen sCap cur e cs hu hsz hg hn hsrc hfit h1
  unfold Oper.wp
  simp [execOp, ho, resolve, invoke, builtin, hd, hs, hrun, Result.andThen]
  exact h _ _ (Rw.set hg off cs) (grown_setRow w g _)
theorem wpList_copy_rw {rest : List Oper} {Q : Exit → Act → World → Prop} (hgd : o.guard = none) (d s : Operand) (t : TypeId)
    (ho : o.op = .call { callee := .builtin .copy, args := #[d, s], argTypes := #[t, t] }) (elem : TypeId) (size : Nat) (hu : P.underlying t = some (.slice elem)) (hsz : (P.info? elem).map (·.size) = some size)
    (g off dLen dCap : Nat) (ad : Addr) (sLen sCap : Nat) (hd : a.eval d = .slice (some ⟨g, off, none⟩) dLen dCap) (hs : a.eval s = .slice (some ad) sLen sCap)
    (cur : List Value) (e : TypeId) (hg : Rw w g e cur) (cs : List Value) (hn : cs.length = Nat.min sLen dLen * size)
    (hsrc : ∀ j v, cs[j]? = some v → w.cell? (ad.add j) = some v) (hfit : off + cs.length ≤ cur.length) (h1 : ∀ v ∈ cs, v.oneCell' = true)
    (h : ∀ n w', Rw w' g e (splice cur off cs) → w.grownBy w' (some g) → wpList P ops Q rest (a.put o.dst (goInt n)) w') : wpList P ops Q (o :: rest) a w :=
  wpList_plain hgd fun _ hK => wp_copy_rw d s t ho elem size hu hsz g off dLen dCap ad sLen sCap hd hs cur e hg cs hn hsrc hfit h1 fun n w' x y => hK _ _ (h n w' x y)
theorem step_copy_rw (w : World) {K : Act → World → Prop} {Q : Exit → Act → World → Prop} {E : Prop} (hgd : o.guard = none) (d s : Operand) (t : TypeId)
    (ho : o.op = .call { callee := .builtin .copy, args := #[d, s], argTypes := #[t, t] }) (elem : TypeId) (size : Nat) (hu : P.underlying t = some (.slice elem)) (hsz : (P.info? elem).map (·.size) = some size)
    (g off dLen dCap : Nat) (ad : Addr) (sLen sCap : Nat) (hd : a.eval d = .slice (some ⟨g, off, none⟩) dLen dCap) (hs : a.eval s = .slice (some ad) sLen sCap)
    (cur : List Value) (e : TypeId) (hg : Rw w g e cur) (cs : List Value) (hn : cs.length = Nat.min sLen dLen * size)
    (hsrc : ∀ j v, cs[j]? = some v → w.cell? (ad.add j) = some v) (hfit : off + cs.length ≤ cur.length) (h1 : ∀ v ∈ cs, v.oneCell' = true)
    (h : ∀ n w', Rw w' g e (splice cur off cs) → w.grownBy w' (some g) → K (a.put o.dst (goInt n)) w') :
    if Region.wanted o (yielded ops a.tmps) = true then Oper.wp P o a w K Q else E := by
  have hw : Region.wanted o (yielded ops a.tmps) = true := by simp [Region.wanted, hgd]
  rw [if_pos hw]
  exact wp_copy_rw d s t ho elem size hu hsz g off dLen dCap ad sLen sCap hd hs cur e hg cs hn hsrc hfit h1 h
end
end
end Go.Proofs.YtnldgfhkdllinaaGreat
