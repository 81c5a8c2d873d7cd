/- What is proved here: (plain) the boxes and the growing lists of ref10.Apply; ref10.Apply by a contract (split); ref10.Apply by a contract (merge, the upper one goes); ref10.Apply by a contract (merge, the lower one goes); ref10.Apply by a contract. -/
import Derived.Test.YtkecnihgjepfeaaJ07
import Derived.Test.YtkecnihgjepfeaaJ06
import Derived.Test.YtkecnihgjepfeaaJ04
import Derived.Deep.QuietTactic
import Derived.BigQuiet
namespace Go.Proofs.Ytkecnihgjepfeaa
open Go.RowKit
set_option linter.unusedVariables false

/-- The cells of the argument and of the change that the indices are asked with. -/
abbrev K5 (p q : Nat) (d : Dd) (X : Dx) (e : Ed) (W : World) : Prop := K3 p d X W ∧ W.cell? ⟨q, 1, none⟩ = some (.int .i64 e.fr) ∧ W.cell? ⟨q, 2, none⟩ = some (.int .i64 e.to)
theorem Ab.k5 {w W : World} {p q r : Nat} {d : Dd} {X : Dx} {e : Ed} (h : Ab w p q r d X e W) : K5 p q d X e W := ⟨h.da.k, h.eb.c1, h.eb.c2⟩
/-- The next directory while its lists grow. -/
structure Rz (w : World) (p q r y : Nat) (d : Dd) (X : Dx) (e : Ed) (L : List Sp) (F : List Int) (Y : Dx) (W : World) : Prop where
  ab : Ab w p q r d X e W
  xb : Db10 W y ⟨d.vn + 1, L, F⟩ Y
  ol : W.ownsRow (r + 1) 44 3 (.slice Y.A L.length Y.c) L.length (scs L)
  of : W.ownsRow (r + 1) 3 1 (.slice Y.A2 F.length Y.c2) F.length (ics F)
  d1 : ∀ k, (Value.slice Y.A L.length Y.c).ownBlock = some k → (Value.slice Y.A2 F.length Y.c2).ownBlock ≠ some k
  d2 : ∀ k, (Value.slice Y.A L.length Y.c).ownBlock = some k → k ≠ y
  d3 : ∀ k, (Value.slice Y.A2 F.length Y.c2).ownBlock = some k → k ≠ y
  ry : r < y
section
variable {w W W' : World} {p q r y : Nat} {d : Dd} {X Y : Dx} {e : Ed} {L : List Sp} {F : List Int} {A2 : Option Addr} {c2 : Nat}
theorem Rz.below (h : Rz w p q r y d X e L F Y W) (hb : Below W.heap.size W W') : Rz w p q r y d X e L F Y W' :=
  ⟨h.ab.below hb, h.xb.up hb, own_up10 h.ol hb, own_up10 h.of hb, h.d1, h.d2, h.d3, h.ry⟩
theorem rz_1 (h : Nx w p q r d X e none (some (.slice A2 d.F.length c2)) none W) (t : TypeId) : Rz w p q r W.heap.size d X e [] d.F ⟨none, 0, A2, c2⟩ (W.alloc (.cells #[.int .i64 (d.vn + 1), .slice none 0 0, .slice A2 d.F.length c2] t)) := by
  have k := h.below ((Below.refl _ _).alloc (Nat.le_refl _) (.cells #[.int .i64 (d.vn + 1), .slice none 0 0, .slice A2 d.F.length c2] t))
  exact ⟨k.ab, Db10.start W ⟨d.vn + 1, [], d.F⟩ ⟨none, 0, A2, c2⟩ t, World.ownsRow_nil _ _ _ _, k.ff _ rfl, fun j hj => by simp [Value.ownBlock] at hj, fun j hj => by simp [Value.ownBlock] at hj, fun j hj => by have := ((h.ff _ rfl).lt j hj).2; omega, h.ab.rb.lt⟩
theorem rz_2 {x : Nat} (h : Nx w p q r d X e none (some (.slice A2 d.F.length c2)) (some x) W) : Rz w p q r x d X e [] d.F ⟨none, 0, A2, c2⟩ (((W.setCell ⟨x, 0, none⟩ (.int .i64 (d.vn + 1))).setCell ⟨x, 1, none⟩ (.slice none 0 0)).setCell ⟨x, 2, none⟩ (.slice A2 d.F.length c2)) := by
  obtain ⟨h1, h2⟩ := h.xf
  have hn := h.ab.ne
  have o1 : ∀ (j : Nat) (v : Value) (W : World), Ab w p q r d X e W → DOff d X x → Ab w p q r d X e (W.setCell ⟨x, j, none⟩ v) := fun j v W k ho =>
    ⟨k.da.other (a := ⟨x, j, none⟩) (show x ≠ p by omega) ho (show w.heap.size ≤ x by omega) v, k.eb.other (a := ⟨x, j, none⟩) (show x ≠ q by omega) v, k.rb.other (a := ⟨x, j, none⟩) (show x ≠ r by omega) v, k.ne, k.of⟩
  have ho := h.ab.of x (by omega)
  have f2 : ∀ j k, (Value.slice A2 d.F.length c2).ownBlock = some k → k ≠ (⟨x, j, none⟩ : Addr).block := fun j k hk => h.d3 _ _ rfl rfl k hk
  exact ⟨o1 2 _ _ (o1 1 _ _ (o1 0 _ _ h.ab ho) ho) ho, h1.set ⟨d.vn + 1, [], d.F⟩ ⟨none, 0, A2, c2⟩, World.ownsRow_nil _ _ _ _, own_oth (own_oth (own_oth (h.ff _ rfl) (f2 0) _) (f2 1) _) (f2 2) _, fun j hj => by simp [Value.ownBlock] at hj, fun j hj => by simp [Value.ownBlock] at hj, fun j hj => h.d3 _ _ rfl rfl j hj, h2⟩
theorem at_world {a b : Option Value} {c : Option Nat} (_ : Nx w p q r d X e a b c W) {P : Program} {o : Oper} {a' : Act} {K : Act → World → Prop} {Q : Exit → Act → World → Prop} {E : Prop} {B : Prop} [Decidable B] (h : if B then Oper.wp P o a' W K Q else E) : if B then Oper.wp P o a' W K Q else E := h
theorem nil_below {W W' : World} (hg : W.grownBy W' (Value.ownBlock (.slice none 0 0))) : Below W.heap.size W W' := (Below.refl _ _).grown hg (Nat.le_refl _) (fun k e => by simp [Value.ownBlock] at e)
end

section
variable {w W W' : World} {p q r y : Nat} {d : Dd} {X Y : Dx} {e : Ed} {L L' : List Sp} {F : List Int} {A : Option Addr} {c : Nat} {ob : Option Nat}
theorem Ab.oth (h : Ab w p q r d X e W) (hy : r < y) (j : Nat) (v : Value) : Ab w p q r d X e (W.setCell ⟨y, j, none⟩ v) := by
  have hn := h.ne
  exact ⟨h.da.other (a := ⟨y, j, none⟩) (show y ≠ p by omega) (h.of y (by omega)) (show w.heap.size ≤ y by omega) v, h.eb.other (a := ⟨y, j, none⟩) (show y ≠ q by omega) v, h.rb.other (a := ⟨y, j, none⟩) (show y ≠ r by omega) v, h.ne, h.of⟩
theorem Pl.grownV {B n c : Nat} {A : Option Addr} {l : List Sp} {g : Nat} (h : Pl W B (.slice A n c) l) (ho : ∀ a, A = some a → 0 < n → a.block ≠ g) (hB : B ≤ W.heap.size) (hg : W.grownBy W' (some g)) : Pl W' B (.slice A n c) l := by
  obtain ⟨h1, h2, h3⟩ := h.len
  subst h1
  refine ⟨A, c, rfl, h2, h3, h.rd.1, fun hn => ?_⟩
  obtain ⟨b, o, e, hb, hc⟩ := h.rd.2 hn
  have := ho _ e hn
  exact ⟨b, o, e, hb, fun j u hu => (hg.cell_far ⟨b, o + j, none⟩ (by show b < _; omega) (fun e' => by injection e' with e'; exact this e')).trans (hc j u hu)⟩
theorem Fl.grownV {B n c : Nat} {A : Option Addr} {l : List Int} {g : Nat} (h : Fl W B (.slice A n c) l) (ho : ∀ a, A = some a → 0 < n → a.block ≠ g) (hB : B ≤ W.heap.size) (hg : W.grownBy W' (some g)) : Fl W' B (.slice A n c) l := by
  obtain ⟨h1, h2, h3⟩ := h.len
  subst h1
  refine ⟨A, c, rfl, h2, h3, h.rd.1, fun hn => ?_⟩
  obtain ⟨b, o, e, hb, hc⟩ := h.rd.2 hn
  have := ho _ e hn
  exact ⟨b, o, e, hb, fun j u hu => (hg.cell_far ⟨b, o + j, none⟩ (by show b < _; omega) (fun e' => by injection e' with e'; exact this e')).trans (hc j u hu)⟩
theorem Ab.grownV (h : Ab w p q r d X e W) (hg : W.grownBy W' ob) (hlt : ∀ k, ob = some k → r < k) : Ab w p q r d X e W' := by
  have hn := h.ne
  cases ob with
  | none => exact h.below ((Below.refl _ _).grown hg (Nat.le_refl _) (fun k e => by cases e))
  | some g =>
    have hrg := hlt g rfl
    have ho := h.of g (by omega)
    exact ⟨⟨h.da.db.grown hg (by omega), (⟨h.da.dr.pl.grownV ho.o1 (Nat.le_refl _) hg, h.da.dr.fl.grownV ho.o2 (Nat.le_refl _) hg⟩ : DR W' W.heap.size d X).more hg.size, h.da.off, h.da.bel.grown hg h.da.bel.size (fun k e => by injection e with e; omega), h.da.old⟩, h.eb.grown hg (by omega), h.rb.grown hg (by omega), h.ne, h.of⟩
/-- Another list of spans is stored. -/
theorem Rz.newL (h : Rz w p q r y d X e L F Y W) (ho : W'.ownsRow (r + 1) 44 3 (.slice A L'.length c) L'.length (scs L')) (hg : W.grownBy W' ob) (h1 : ∀ k, ob = some k → r < k ∧ k ≠ y ∧ (Value.slice Y.A2 F.length Y.c2).ownBlock ≠ some k) (h2 : ∀ k, (Value.slice A L'.length c).ownBlock = some k → ob = some k ∨ W.heap.size ≤ k) :
    (W'.cell? ⟨y, 1, none⟩ = some (.slice Y.A L.length Y.c) ∧ W'.frozen? ⟨y, 1, none⟩ = false ∧ y < W'.heap.size) ∧ Rz w p q r y d X e L' F ⟨A, c, Y.A2, Y.c2⟩ (W'.setCell ⟨y, 1, none⟩ (.slice A L'.length c)) := by
  have hry := h.ry
  have hx := h.xb.grownO hg (fun e => (h1 y e).2.1 rfl)
  have hyl := h.xb.lt
  have hf := own_farO h.of hg (fun k hk e => (h1 k e).2.2 hk)
  have hLy : ∀ k, (Value.slice A L'.length c).ownBlock = some k → k ≠ y := fun k hk => by
    rcases h2 k hk with e | e
    · exact (h1 k e).2.1
    · omega
  refine ⟨⟨hx.c1, hx.fr 1, hx.lt⟩, (h.ab.grownV hg (fun k e => (h1 k e).1)).oth hry 1 _, ⟨by simp [go_sem, hx.c0], by simp [go_sem, hx.c1], by simp [go_sem, hx.c2], fun o => by simp [go_sem, hx.fr o], by simp [hx.lt]⟩, own_oth ho hLy _, own_oth hf h.d3 _, fun k hk => ?_, hLy, h.d3, hry⟩
  rcases h2 k hk with e | e
  · exact (h1 k e).2.2
  · intro e2; have := (h.of.lt k e2).2; omega
/-- The spans of an append to the own row. -/
theorem Rz.app (h : Rz w p q r y d X e L F Y W) {m : List Sp} {v : Value} (ho : W'.ownsRow (r + 1) 44 3 v (L.length + m.length) (scs L ++ scs m)) (hg : W.grownBy W' (Value.slice Y.A L.length Y.c).ownBlock) (hat : v.ownBlock = (Value.slice Y.A L.length Y.c).ownBlock ∨ v.ownBlock = some W.heap.size) :
    ∃ A c, v = .slice A (L.length + m.length) c ∧ (W'.cell? ⟨y, 1, none⟩ = some (.slice Y.A L.length Y.c) ∧ W'.frozen? ⟨y, 1, none⟩ = false ∧ y < W'.heap.size) ∧ Rz w p q r y d X e (L ++ m) F ⟨A, c, Y.A2, Y.c2⟩ (W'.setCell ⟨y, 1, none⟩ (.slice A (L.length + m.length) c)) := by
  obtain ⟨A, c, rfl⟩ := own_form ho
  have el : (L ++ m).length = L.length + m.length := by simp
  have k := h.newL (L' := L ++ m) (A := A) (c := c) (by rw [el, scs_app]; exact ho) hg (fun k hk => ⟨by have := (h.ol.lt k hk).1; omega, h.d2 k hk, h.d1 k hk⟩) (fun k hk => by
    rw [el] at hk
    rcases hat with e | e
    · left; rw [← e]; exact hk
    · right; rw [e] at hk; injection hk with hk; omega)
  rw [el] at k
  exact ⟨A, c, rfl, k⟩
/-- A store into the forwards. -/
theorem Rz.setF (h : Rz w p q r y d X e L F Y W) {g : Nat} (hg : Y.A2 = some ⟨g, 0, none⟩) (j : Nat) (u : Int) : Rz w p q r y d X e L (F.set j u) Y (W.setCell ⟨g, j, none⟩ (.int .i64 u)) := by
  have hk : (Value.slice Y.A2 F.length Y.c2).ownBlock = some g := by rw [hg]; rfl
  have hn := h.ab.ne
  have ho := h.of
  rw [hg] at ho
  have hst := (ho.stored j (.int .i64 u)).1
  have e1 : (ics F).set j (.int .i64 u) = ics (F.set j u) := by simp [ics, List.map_set, i64v]
  rw [e1, ← hg] at hst
  have e2 : (F.set j u).length = F.length := by simp
  obtain ⟨hb, -⟩ := ho.lt g rfl
  have hgy := h.d3 g hk
  have hd := h.xb.other (a := ⟨g, j, none⟩) hgy (.int .i64 u)
  refine ⟨h.ab.oth (y := g) (by omega) j _, ⟨hd.c0, hd.c1, by have := hd.c2; rw [← e2] at this; exact this, hd.fr, hd.lt⟩, own_oth h.ol (fun k hk' e => ?_) _, by rw [← e2] at hst; exact hst, ?_, h.d2, ?_, h.ry⟩
  · have e' : k = g := e
    rw [e'] at hk'; exact h.d1 g hk' hk
  · intro k hk' e; exact h.d1 k hk' (by rw [hg] at e ⊢; exact e)
  · intro k hk'; exact h.d3 k (by rw [hg] at hk' ⊢; exact hk')
/-- The result. -/
theorem Rz.out (h : Rz w p q r y d X e L F Y W) (x : Int) : DE w.heap.size w ⟨d.vn + 1, L, F⟩ x (.returned (.tuple #[dv ⟨d.vn + 1, L, F⟩ Y, .int .i64 x])) (((W.setCell ⟨r, 0, none⟩ (.int .i64 (d.vn + 1))).setCell ⟨r, 1, none⟩ (.slice Y.A L.length Y.c)).setCell ⟨r, 2, none⟩ (.slice Y.A2 F.length Y.c2)) :=
  h.ab.out (D := ⟨d.vn + 1, L, F⟩) (Y := Y) (B := r + 1) ⟨nwv_of (nwv_own h.ol (Nat.le_refl _)), nwv_of (nwv_own h.of (Nat.le_refl _))⟩ (Nat.lt_succ_self r) ⟨Pl.of_own h.ol, Fl.of_own h.of⟩ x
end

/-- The two spans of a split. -/
def s12 (M : Sp) (e : Ed) : List Sp := [⟨M.lo, e.md, e.fr⟩, ⟨e.md + 1, M.hi, e.to⟩]
/-- The work of a split: the box of the span, the first spans' copy, the two new spans. -/
structure Rs (w : World) (p q r y u : Nat) (d : Dd) (X : Dx) (e : Ed) (F : List Int) (Y : Dx) (i : Nat) (M : Sp) (oA : Option Value) (oB : Option Nat) (W : World) : Prop where
  rz : Rz w p q r y d X e [] F Y W
  u0 : W.cell? ⟨u, 0, none⟩ = some (.int .i64 M.lo)
  u1 : W.cell? ⟨u, 1, none⟩ = some (.int .i64 M.hi)
  ul : u < W.heap.size
  yu : y < u
  fa : ∀ v, oA = some v → W.ownsRow (r + 1) 44 3 v i (scs (d.l.take i)) ∧ ∀ k, v.ownBlock = some k → u < k ∧ (Value.slice Y.A2 F.length Y.c2).ownBlock ≠ some k
  fb : ∀ b, oB = some b → Rd W W.heap.size 3 (some ⟨b, 0, none⟩) 2 (scs (s12 M e))
/-- The cells that a split reads. -/
abbrev K9 (p q u : Nat) (d : Dd) (X : Dx) (e : Ed) (M : Sp) (W : World) : Prop := (W.cell? ⟨p, 0, none⟩ = some (.int .i64 d.vn) ∧ W.cell? ⟨p, 1, none⟩ = some (.slice X.A d.l.length X.c) ∧ W.cell? ⟨p, 2, none⟩ = some (.slice X.A2 d.F.length X.c2)) ∧ W.cell? ⟨q, 1, none⟩ = some (.int .i64 e.fr) ∧ W.cell? ⟨q, 2, none⟩ = some (.int .i64 e.to) ∧ W.cell? ⟨q, 3, none⟩ = some (.int .i64 e.md) ∧ W.cell? ⟨u, 0, none⟩ = some (.int .i64 M.lo) ∧ W.cell? ⟨u, 1, none⟩ = some (.int .i64 M.hi)
section
variable {w W W' : World} {p q r y u i : Nat} {d : Dd} {X Y : Dx} {e : Ed} {F : List Int} {M : Sp} {oA : Option Value} {oB : Option Nat}
theorem Rs.below (h : Rs w p q r y u d X e F Y i M oA oB W) (hb : Below W.heap.size W W') : Rs w p q r y u d X e F Y i M oA oB W' :=
  ⟨h.rz.below hb, (hb.cell (p := ⟨u, 0, none⟩) h.ul).trans h.u0, (hb.cell (p := ⟨u, 1, none⟩) h.ul).trans h.u1, Nat.lt_of_lt_of_le h.ul hb.size, h.yu, fun v ev => ⟨own_up10 (h.fa v ev).1 hb, (h.fa v ev).2⟩, fun b eb => ((h.fb b eb).keep (fun p hp => hb.cell hp)).more hb.size⟩
theorem Rs.drew (h : Rs w p q r y u d X e F Y i M oA oB W) : Rs w p q r y u d X e F Y i M oA oB W.drew := h.below (Below.refl _ _).drew
theorem Rs.k9 (h : Rs w p q r y u d X e F Y i M oA oB W) (hb : Below (u + 1) W W') : K9 p q u d X e M W' := by
  have hn := h.rz.ab.ne
  have h1 := h.rz.ry
  have h2 := h.yu
  have hc : ∀ (a j : Nat), a ≤ u → W'.cell? ⟨a, j, none⟩ = W.cell? ⟨a, j, none⟩ := fun a j ha => hb.cell (p := ⟨a, j, none⟩) (show a < u + 1 by omega)
  exact ⟨⟨(hc p 0 (by omega)).trans h.rz.ab.da.db.c0, (hc p 1 (by omega)).trans h.rz.ab.da.db.c1, (hc p 2 (by omega)).trans h.rz.ab.da.db.c2⟩, (hc q 1 (by omega)).trans h.rz.ab.eb.c1, (hc q 2 (by omega)).trans h.rz.ab.eb.c2, (hc q 3 (by omega)).trans h.rz.ab.eb.c3, (hc u 0 (by omega)).trans h.u0, (hc u 1 (by omega)).trans h.u1⟩
theorem Rs.k9s (h : Rs w p q r y u d X e F Y i M oA oB W) (hb : Below (u + 1) W W') (v : Value) : K9 p q u d X e M (W'.setCell ⟨y, 1, none⟩ v) := by
  have hn := h.rz.ab.ne
  have h1 := h.rz.ry
  have h2 := h.yu
  obtain ⟨⟨a, b, c⟩, k1, k2, k3, k4, k5⟩ := h.k9 hb
  have o : ∀ (z j : Nat) (x : Value), z ≠ y → W'.cell? ⟨z, j, none⟩ = some x → (W'.setCell ⟨y, 1, none⟩ v).cell? ⟨z, j, none⟩ = some x := fun z j x hz hx => (World.cell?_setCell_other _ _ _ _ (fun e => by injection e with e; exact hz e.symm)).trans hx
  exact ⟨⟨o _ _ _ (by omega) a, o _ _ _ (by omega) b, o _ _ _ (by omega) c⟩, o _ _ _ (by omega) k1, o _ _ _ (by omega) k2, o _ _ _ (by omega) k3, o _ _ _ (by omega) k4, o _ _ _ (by omega) k5⟩
theorem Rs.a1 (h : Rs w p q r y u d X e F Y i M none oB W) {v : Value} (ho : W'.ownsRow W.heap.size 44 3 v i (scs (d.l.take i))) (hb : Below W.heap.size W W') : Rs w p q r y u d X e F Y i M (some v) oB W' := by
  have k := h.below hb
  have hr := h.rz.ab.rb.lt
  refine ⟨k.rz, k.u0, k.u1, k.ul, k.yu, fun v' ev => ?_, k.fb⟩
  injection ev with ev; subst ev
  refine ⟨own_low ho (by omega), fun j hj => ⟨?_, fun e2 => ?_⟩⟩
  · have := (ho.lt j hj).1; have := h.ul; omega
  · have := (ho.lt j hj).1; have := (h.rz.of.lt j e2).2; omega
theorem Rs.b1 (h : Rs w p q r y u d X e F Y i M oA none W) (t : TypeId) : Rs w p q r y u d X e F Y i M oA (some W.heap.size) (W.alloc (.cells #[.int .i64 M.lo, .int .i64 e.md, .int .i64 e.fr, .int .i64 (e.md + 1), .int .i64 M.hi, .int .i64 e.to] t)) := by
  have k := h.below ((Below.refl _ _).alloc (Nat.le_refl _) (.cells #[.int .i64 M.lo, .int .i64 e.md, .int .i64 e.fr, .int .i64 (e.md + 1), .int .i64 M.hi, .int .i64 e.to] t))
  refine ⟨k.rz, k.u0, k.u1, k.ul, k.yu, k.fa, fun b eb => ?_⟩
  injection eb with eb; subst eb
  refine ⟨rfl, fun _ => ⟨W.heap.size, 0, rfl, by simp, fun j x hx => ?_⟩⟩
  have hj : j < 6 := by have := (List.getElem?_eq_some_iff.1 hx).1; exact this
  match j, hj with
  | 0, _ => injection hx with hx; subst hx; simp [go_sem]
  | 1, _ => injection hx with hx; subst hx; simp [go_sem]
  | 2, _ => injection hx with hx; subst hx; simp [go_sem]
  | 3, _ => injection hx with hx; subst hx; simp [go_sem]
  | 4, _ => injection hx with hx; subst hx; simp [go_sem]
  | 5, _ => injection hx with hx; subst hx; simp [go_sem]
theorem Rs.app2 {v : Value} {b : Nat} (h : Rs w p q r y u d X e F Y i M (some v) (some b) W) (hi : i ≤ d.l.length) {v2 : Value} (ho : W'.ownsRow (r + 1) 44 3 v2 (i + 2) (scs (d.l.take i) ++ scs (s12 M e))) (hg : W.grownBy W' v.ownBlock) (hat : v2.ownBlock = v.ownBlock ∨ v2.ownBlock = some W.heap.size) :
    ∃ A c, v2 = .slice A (i + 2) c ∧ (W'.cell? ⟨y, 1, none⟩ = some (.slice Y.A 0 Y.c) ∧ W'.frozen? ⟨y, 1, none⟩ = false ∧ y < W'.heap.size) ∧ Rz w p q r y d X e (d.l.take i ++ s12 M e) F ⟨A, c, Y.A2, Y.c2⟩ (W'.setCell ⟨y, 1, none⟩ (.slice A (i + 2) c)) ∧ (i + 2 ≤ c ∧ c ≤ maxLen) := by
  obtain ⟨A, c, rfl⟩ := own_form ho
  have el : (d.l.take i ++ s12 M e).length = i + 2 := by simp [s12]; omega
  have h1 := h.rz.ry
  have h2 := h.yu
  have fa := h.fa v rfl
  have hl : i + 2 ≤ c ∧ c ≤ maxLen := by
    have hp : Pl W' W'.heap.size (.slice A (i + 2) c) (d.l.take i ++ s12 M e) := Pl.of_own (by rw [scs_app]; exact ho)
    have := hp.len
    omega
  have k := h.rz.newL (L' := d.l.take i ++ s12 M e) (A := A) (c := c) (by rw [el, scs_app]; exact ho) hg (fun k hk => ⟨by have := (fa.2 k hk).1; omega, by have := (fa.2 k hk).1; omega, (fa.2 k hk).2⟩) (fun k hk => by
    rw [el] at hk
    rcases hat with e | e
    · left; rw [← e]; exact hk
    · right; rw [e] at hk; injection hk with hk; omega)
  rw [el] at k
  exact ⟨A, c, rfl, k.1, k.2, hl⟩
theorem k9_set (h : K9 p q u d X e M W) (hp : p ≠ y) (hq : q ≠ y) (hu : u ≠ y) (v : Value) : K9 p q u d X e M (W.setCell ⟨y, 1, none⟩ v) := by
  obtain ⟨⟨a, b, c⟩, k1, k2, k3, k4, k5⟩ := h
  have o : ∀ (z j : Nat) (x : Value), z ≠ y → W.cell? ⟨z, j, none⟩ = some x → (W.setCell ⟨y, 1, none⟩ v).cell? ⟨z, j, none⟩ = some x := fun z j x hz hx => (World.cell?_setCell_other _ _ _ _ (fun e => by injection e with e; exact hz e.symm)).trans hx
  exact ⟨⟨o _ _ _ hp a, o _ _ _ hp b, o _ _ _ hp c⟩, o _ _ _ hq k1, o _ _ _ hq k2, o _ _ _ hq k3, o _ _ _ hu k4, o _ _ _ hu k5⟩
theorem Rs.k9g {v : Value} {W2 : World} (h : Rs w p q r y u d X e F Y i M (some v) oB W) (hg : W.grownBy W' v.ownBlock) (hb : Below (u + 1) W' W2) : K9 p q u d X e M W2 := by
  have hn := h.rz.ab.ne
  have h1 := h.rz.ry
  have h2 := h.yu
  have hul := h.ul
  have fa := (h.fa v rfl).2
  have hc : ∀ (a j : Nat), a ≤ u → W2.cell? ⟨a, j, none⟩ = W.cell? ⟨a, j, none⟩ := fun a j ha => (hb.cell (p := ⟨a, j, none⟩) (show a < u + 1 by omega)).trans (hg.cell_far ⟨a, j, none⟩ (by show a < _; omega) (fun e => by have := (fa a e.symm).1; omega))
  exact ⟨⟨(hc p 0 (by omega)).trans h.rz.ab.da.db.c0, (hc p 1 (by omega)).trans h.rz.ab.da.db.c1, (hc p 2 (by omega)).trans h.rz.ab.da.db.c2⟩, (hc q 1 (by omega)).trans h.rz.ab.eb.c1, (hc q 2 (by omega)).trans h.rz.ab.eb.c2, (hc q 3 (by omega)).trans h.rz.ab.eb.c3, (hc u 0 (by omega)).trans h.u0, (hc u 1 (by omega)).trans h.u1⟩
theorem Rs.k9gs {v : Value} {W2 : World} (h : Rs w p q r y u d X e F Y i M (some v) oB W) (hg : W.grownBy W' v.ownBlock) (x : Value) (hb : Below (u + 1) W' W2) : K9 p q u d X e M (W2.setCell ⟨y, 1, none⟩ x) := by
  have hn := h.rz.ab.ne
  have h1 := h.rz.ry
  have h2 := h.yu
  exact k9_set (h.k9g hg hb) (by omega) (by omega) (by omega) x
theorem at_rs (_ : Rs w p q r y u d X e F Y i M oA oB W) {P : Program} {o : Oper} {a' : Act} {K : Act → World → Prop} {Q : Exit → Act → World → Prop} {E : Prop} {B : Prop} [Decidable B] (h : if B then Oper.wp P o a' W K Q else E) : if B then Oper.wp P o a' W K Q else E := h
end

/-- The new span of a merge. -/
def s1m (M N : Sp) (e : Ed) : List Sp := [⟨M.lo, N.hi, e.to⟩]
/-- The work of a merge: the first spans' copy, the new span. -/
structure Rm (w : World) (p q r y : Nat) (d : Dd) (X : Dx) (e : Ed) (F : List Int) (Y : Dx) (i : Nat) (M N : Sp) (oA : Option Value) (oB : Option Nat) (W : World) : Prop where
  rz : Rz w p q r y d X e [] F Y W
  fa : ∀ v, oA = some v → W.ownsRow (r + 1) 44 3 v i (scs (d.l.take i)) ∧ ∀ k, v.ownBlock = some k → y < k ∧ (Value.slice Y.A2 F.length Y.c2).ownBlock ≠ some k
  fb : ∀ b, oB = some b → Rd W W.heap.size 3 (some ⟨b, 0, none⟩) 1 (scs (s1m M N e))
/-- The cells that a merge reads. -/
abbrev K9m (p q b o1 o2 : Nat) (d : Dd) (X : Dx) (e : Ed) (M N : Sp) (W : World) : Prop := (W.cell? ⟨p, 0, none⟩ = some (.int .i64 d.vn) ∧ W.cell? ⟨p, 1, none⟩ = some (.slice X.A d.l.length X.c) ∧ W.cell? ⟨p, 2, none⟩ = some (.slice X.A2 d.F.length X.c2)) ∧ W.cell? ⟨q, 1, none⟩ = some (.int .i64 e.fr) ∧ W.cell? ⟨q, 2, none⟩ = some (.int .i64 e.to) ∧ W.cell? ⟨b, o1, none⟩ = some (.int .i64 M.lo) ∧ W.cell? ⟨b, o2, none⟩ = some (.int .i64 N.hi)
section
variable {w W W' : World} {p q r y i b o1 o2 : Nat} {d : Dd} {X Y : Dx} {e : Ed} {F : List Int} {M N : Sp} {oA : Option Value} {oB : Option Nat}
theorem Rm.below (h : Rm w p q r y d X e F Y i M N oA oB W) (hb : Below W.heap.size W W') : Rm w p q r y d X e F Y i M N oA oB W' :=
  ⟨h.rz.below hb, fun v ev => ⟨own_up10 (h.fa v ev).1 hb, (h.fa v ev).2⟩, fun b eb => ((h.fb b eb).keep (fun p hp => hb.cell hp)).more hb.size⟩
theorem Rm.drew (h : Rm w p q r y d X e F Y i M N oA oB W) : Rm w p q r y d X e F Y i M N oA oB W.drew := h.below (Below.refl _ _).drew
theorem k9m_keep (h : K9m p q b o1 o2 d X e M N W) (hp : p ≤ y) (hq : q ≤ y) (hbb : b ≤ y) (hc : ∀ (a j : Nat), a ≤ y → W'.cell? ⟨a, j, none⟩ = W.cell? ⟨a, j, none⟩) : K9m p q b o1 o2 d X e M N W' := by
  obtain ⟨⟨a, c, f⟩, k1, k2, k4, k5⟩ := h
  exact ⟨⟨(hc p 0 hp).trans a, (hc p 1 hp).trans c, (hc p 2 hp).trans f⟩, (hc q 1 hq).trans k1, (hc q 2 hq).trans k2, (hc b o1 hbb).trans k4, (hc b o2 hbb).trans k5⟩
theorem k9m_below (h : K9m p q b o1 o2 d X e M N W) (hp : p ≤ y) (hq : q ≤ y) (hbb : b ≤ y) (hb : Below (y + 1) W W') : K9m p q b o1 o2 d X e M N W' :=
  k9m_keep h hp hq hbb (fun a j ha => hb.cell (p := ⟨a, j, none⟩) (show a < y + 1 by omega))
theorem k9m_set (h : K9m p q b o1 o2 d X e M N W) (hp : p ≠ y) (hq : q ≠ y) (hu : b ≠ y) (v : Value) : K9m p q b o1 o2 d X e M N (W.setCell ⟨y, 1, none⟩ v) := by
  obtain ⟨⟨a, c, f⟩, k1, k2, k4, k5⟩ := h
  have o : ∀ (z j : Nat) (x : Value), z ≠ y → W.cell? ⟨z, j, none⟩ = some x → (W.setCell ⟨y, 1, none⟩ v).cell? ⟨z, j, none⟩ = some x := fun z j x hz hx => (World.cell?_setCell_other _ _ _ _ (fun e => by injection e with e; exact hz e.symm)).trans hx
  exact ⟨⟨o _ _ _ hp a, o _ _ _ hp c, o _ _ _ hp f⟩, o _ _ _ hq k1, o _ _ _ hq k2, o _ _ _ hu k4, o _ _ _ hu k5⟩
theorem Rm.k9g {v : Value} (h : Rm w p q r y d X e F Y i M N (some v) oB W) (hk : K9m p q b o1 o2 d X e M N W) (hbb : b < y) (hg : W.grownBy W' v.ownBlock) : K9m p q b o1 o2 d X e M N W' := by
  have hn := h.rz.ab.ne
  have h1 := h.rz.ry
  have hyl := h.rz.xb.lt
  have fa := (h.fa v rfl).2
  exact k9m_keep (y := y) hk (by omega) (by omega) (by omega) (fun a j ha => hg.cell_far ⟨a, j, none⟩ (by show a < _; omega) (fun e => by have := (fa a e.symm).1; omega))
theorem Rm.a1 (h : Rm w p q r y d X e F Y i M N none oB W) {v : Value} (ho : W'.ownsRow W.heap.size 44 3 v i (scs (d.l.take i))) (hb : Below W.heap.size W W') : Rm w p q r y d X e F Y i M N (some v) oB W' := by
  have k := h.below hb
  have hr := h.rz.ab.rb.lt
  have hyl := h.rz.xb.lt
  refine ⟨k.rz, fun v' ev => ?_, k.fb⟩
  injection ev with ev; subst ev
  refine ⟨own_low ho (by omega), fun j hj => ⟨?_, fun e2 => ?_⟩⟩
  · have := (ho.lt j hj).1; omega
  · have := (ho.lt j hj).1; have := (h.rz.of.lt j e2).2; omega
theorem Rm.b1 (h : Rm w p q r y d X e F Y i M N oA none W) (t : TypeId) : Rm w p q r y d X e F Y i M N oA (some W.heap.size) (W.alloc (.cells #[.int .i64 M.lo, .int .i64 N.hi, .int .i64 e.to] t)) := by
  have k := h.below ((Below.refl _ _).alloc (Nat.le_refl _) (.cells #[.int .i64 M.lo, .int .i64 N.hi, .int .i64 e.to] t))
  refine ⟨k.rz, k.fa, fun b eb => ?_⟩
  injection eb with eb; subst eb
  refine ⟨rfl, fun _ => ⟨W.heap.size, 0, rfl, by simp, fun j x hx => ?_⟩⟩
  have hj : j < 3 := by have := (List.getElem?_eq_some_iff.1 hx).1; exact this
  match j, hj with
  | 0, _ => injection hx with hx; subst hx; simp [go_sem]
  | 1, _ => injection hx with hx; subst hx; simp [go_sem]
  | 2, _ => injection hx with hx; subst hx; simp [go_sem]
theorem Rm.app2 {v : Value} {b : Nat} (h : Rm w p q r y d X e F Y i M N (some v) (some b) W) (hi : i ≤ d.l.length) {v2 : Value} (ho : W'.ownsRow (r + 1) 44 3 v2 (i + 1) (scs (d.l.take i) ++ scs (s1m M N e))) (hg : W.grownBy W' v.ownBlock) (hat : v2.ownBlock = v.ownBlock ∨ v2.ownBlock = some W.heap.size) :
    ∃ A c, v2 = .slice A (i + 1) c ∧ (W'.cell? ⟨y, 1, none⟩ = some (.slice Y.A 0 Y.c) ∧ W'.frozen? ⟨y, 1, none⟩ = false ∧ y < W'.heap.size) ∧ Rz w p q r y d X e (d.l.take i ++ s1m M N e) F ⟨A, c, Y.A2, Y.c2⟩ (W'.setCell ⟨y, 1, none⟩ (.slice A (i + 1) c)) := by
  obtain ⟨A, c, rfl⟩ := own_form ho
  have el : (d.l.take i ++ s1m M N e).length = i + 1 := by simp [s1m]; omega
  have h1 := h.rz.ry
  have fa := h.fa v rfl
  have k := h.rz.newL (L' := d.l.take i ++ s1m M N e) (A := A) (c := c) (by rw [el, scs_app]; exact ho) hg (fun k hk => ⟨by have := (fa.2 k hk).1; omega, by have := (fa.2 k hk).1; omega, (fa.2 k hk).2⟩) (fun k hk => by
    rw [el] at hk
    rcases hat with e | e
    · left; rw [← e]; exact hk
    · right; rw [e] at hk; injection hk with hk; omega)
  rw [el] at k
  exact ⟨A, c, rfl, k.1, k.2⟩
abbrev K9n (p q b o1 o2 : Nat) (A : Option Addr) (d : Dd) (X : Dx) (e : Ed) (M N : Sp) (W : World) : Prop := (W.cell? ⟨p, 0, none⟩ = some (.int .i64 d.vn) ∧ W.cell? ⟨p, 1, none⟩ = some (.slice A d.l.length X.c) ∧ W.cell? ⟨p, 2, none⟩ = some (.slice X.A2 d.F.length X.c2)) ∧ W.cell? ⟨q, 1, none⟩ = some (.int .i64 e.fr) ∧ W.cell? ⟨q, 2, none⟩ = some (.int .i64 e.to) ∧ W.cell? ⟨b, o1, none⟩ = some (.int .i64 M.lo) ∧ W.cell? ⟨b, o2, none⟩ = some (.int .i64 N.hi)
theorem k9n_of {A : Option Addr} (hA : X.A = A) (h : K9m p q b o1 o2 d X e M N W) : K9n p q b o1 o2 A d X e M N W := by subst hA; exact h
theorem at_rm (_ : Rm w p q r y d X e F Y i M N oA oB W) {P : Program} {o : Oper} {a' : Act} {K : Act → World → Prop} {Q : Exit → Act → World → Prop} {E : Prop} {B : Prop} [Decidable B] (h : if B then Oper.wp P o a' W K Q else E) : if B then Oper.wp P o a' W K Q else E := h
end
end Go.Proofs.Ytkecnihgjepfeaa
namespace Go.Proofs.Ytkecnihgjepfeaa
open Go.RowKit
set_option linter.unusedVariables false

set_option maxHeartbeats 16000000 in
set_option maxRecDepth 20000 in
theorem rap_split (d : Dd) (X : Dx) (e : Ed) (w : World) (hd : DR w w.heap.size d X) (hl : d.l.length ≤ 90) (hv : vaD d = 0) (h6 : d.vn ≠ 1099511627776) (hk : e.kd = 1) (hs : slotP d.F.length e.fr ∧ slotP d.F.length e.to) :
    Calls Try.prog 22 #[dv d X, e.v] w (DE w.heap.size w (apD d e) (apE d e)) := by
  have H0 := Lib.hid (Ab.start d X e hd)
  have HVA := Lib.hid (fun p q r W (k : Ab w p q r d X e W) => rvalid10_any d X W k.da.dr)
  have HHL := Lib.hid hl
  obtain ⟨p, hp⟩ : ∃ p, p = w.heap.size := ⟨_, rfl⟩
  obtain ⟨q, hq⟩ : ∃ q, q = w.heap.size + 1 := ⟨_, rfl⟩
  obtain ⟨r, hr⟩ : ∃ r, r = w.heap.size + 1 + 1 := ⟨_, rfl⟩
  have HPP := Lib.hid (show (p = w.heap.size ∧ q = w.heap.size + 1 ∧ r = w.heap.size + 1 + 1) ∧ (¬ p = q ∧ ¬ q = p ∧ ¬ p = r ∧ ¬ r = p ∧ ¬ q = r ∧ ¬ r = q) by omega)
  obtain ⟨R, hR⟩ : ∃ R, R = apD d e := ⟨_, rfl⟩
  obtain ⟨x, hx⟩ : ∃ x, x = apE d e := ⟨_, rfl⟩
  rw [← hR, ← hx]
  have HRX := Lib.hid (And.intro hR hx)
  clear hR hx hp hq hr hd hl
  rw [hv] at HVA
  have h6' : (d.vn == 1099511627776) = false := by simpa using h6
  have HOK := Lib.hid (ok_va hv)
  have HAN := Lib.hid (apN_0 hv h6 (.inl hk) hs.1 hs.2)
  have HSL := Lib.hid hs
  obtain ⟨⟨s0, s1⟩, s2, s3⟩ := hs
  clear h6
  have HEX := Lib.hid (show x = spE d e ∧ R = if spE d e = 0 then Dd.mk (d.vn + 1) (spL d.l (ixS d.l e.fr).toNat e) (d.F.set e.to.toNat (-1)) else zD10 from by
    have h7 : apE d e = spE d e := apE_1 HAN.out hk
    refine ⟨HRX.out.2.trans h7, ?_⟩
    rw [HRX.out.1]
    by_cases h8 : spE d e = 0
    · rw [if_pos h8, apD_1 (by rw [h7]; exact h8) hk]; rfl
    · rw [if_neg h8, apD_no (by rw [h7]; exact h8)])
  have k1 : (e.kd != 1) = false := by simpa using hk
  have k3 : (e.kd == 1) = true := by simpa using hk
  clear hv hk
  go_enter Try.func22, Try.ntmps22
  go_wp2_with fail
  have H0 := Lib.hid (show Ab w p q r d X e (((w.alloc (.cells #[.int .i64 d.vn, .slice X.A d.l.length X.c, .slice X.A2 d.F.length X.c2] 40)).alloc (.cells #[.int .i64 e.kd, .int .i64 e.fr, .int .i64 e.to, .int .i64 e.md] 55)).alloc (.cells #[.int .i64 0, .slice none 0 0, .slice none 0 0] 40)) from by rw [HPP.out.1.1, HPP.out.1.2.1, HPP.out.1.2.2]; exact H0.out)
  rw [← HPP.out.1.2.2, ← HPP.out.1.2.1, ← HPP.out.1.1]
  generalize ((w.alloc (.cells #[.int .i64 d.vn, .slice X.A d.l.length X.c, .slice X.A2 d.F.length X.c2] 40)).alloc (.cells #[.int .i64 e.kd, .int .i64 e.fr, .int .i64 e.to, .int .i64 e.md] 55)).alloc (.cells #[.int .i64 0, .slice none 0 0, .slice none 0 0] 40) = w0 at *
  refine (HVA.out _ _ _ _ H0.out).mono ?_
  rintro e1 w1 ⟨rfl, hb⟩
  have H1 := Lib.hid (H0.out.below hb)
  clear hb H0 HVA
  obtain ⟨x0, x1, x2, -, xl⟩ := H1.out.da.db
  obtain ⟨y0, y1, y2, y3, yl⟩ := H1.out.eb
  have HI1 := Lib.hid (fun W (k : Ab w p q r d X e W) => rindex10_any d X e.fr W k.da.dr)
  have HI2 := Lib.hid (fun W (k : Ab w p q r d X e W) => rindex10_any d X e.to W k.da.dr)
  go_upto_region 11 with (fail)
  clear x0 x1 x2 xl y0 y1 y2 y3 yl
  go_cut [8, 9] (fun s8 s9 wx => s8 = .int .i64 (ixS d.l e.fr) ∧ s9 = .int .i64 (ixS d.l e.to) ∧ Hid (Ab w p q r d X e wx))
  case first =>
    have HK0 := Lib.hid H1.out.k5
    have HP := Lib.hid (H1.out.below (Below.refl _ _).drew)
    have HK := Lib.hid HP.out.k5
    clear H1
    go_region_held3 (fun W => K5 p q d X e W)
      (first | with_reducible exact HK.out | with_reducible exact HK0.out)
      (first
        | (go_at_call 25; (with_reducible refine (HI1.out _ HP.out).mono ?_); rintro e1 w1 ⟨rfl, hb⟩; have HP := Lib.hid (HP.out.below hb); have HK := Lib.hid HP.out.k5; clear hb)
        | (go_at_call 25; (with_reducible refine (HI2.out _ HP.out).mono ?_); rintro e1 w1 ⟨rfl, hb⟩; have HP := Lib.hid (HP.out.below hb); have HK := Lib.hid HP.out.k5; clear hb))
    all_goals
      go_wp2_with fail
      go_meet
      exact ⟨rfl, rfl, HP⟩
  case rest =>
    obtain ⟨rfl, rfl, H2⟩ := hcut
    generalize wc = w2 at *
    go_upto_region 12 with (fail)
    have HP0 := Lib.hid (show Nx w p q r d X e none none none w2 from Nx.start H2.out)
    have HP := Lib.hid HP0.out.drew
    have hwv : wrap64 (d.vn + 1) = d.vn + 1 := IntWalk.wrap64_in _ (by have := HOK.out.rg.1; omega)
    have hwv2 : IntKind.i64.wrap (d.vn + 1) = d.vn + 1 := IntWalk.i64_in _ (by have := HOK.out.rg.1; omega)
    obtain ⟨j0, hi0, hz0⟩ := Option.map_eq_some_iff.1 info_ni
    simp only [Prod.mk.injEq] at hz0
    have HJ := Lib.hid hi0
    have HY := Lib.hid hz0
    clear hi0 hz0
    go_cut [10] (fun s10 wx => ∃ (y : Nat) (A2 : Option Addr) (c2 : Nat), s10 = .pointer (some ⟨y, 0, none⟩) ∧ Hid (Rz w p q r y d X e [] d.F ⟨none, 0, A2, c2⟩ wx))
    case first =>
      have HSK := Lib.hid (fun W' (hb : Below (p + 1) w2 W') => H2.out.k3 hb)
      have HBZ := Lib.hid (Below.refl (p + 1) w2)
      have hpl := H2.out.da.db.lt
      go_region_held3 (fun W => K3 p d X W)
        ((refine HSK.out _ ?_; repeat' (first | with_reducible exact HBZ.out | with_reducible refine dal ?_ ?_ | with_reducible refine dst ?_ ?_ | with_reducible refine ddr ?_ | omega | (simp; omega))))
        (first
          | ((first | (have HV := Lib.hid HP.out; with_reducible refine at_world HV.out ?_) | (have HV := Lib.hid (HP.out.ax 40); with_reducible refine at_world HV.out ?_) | (have HV := Lib.hid (HP0.out.ax 40).drew; with_reducible refine at_world HV.out ?_)); refine step_append_rd _ (by rfl) _ _ _ (by rfl) _ 3 j0 _ 1 8 Try.underlying24 HJ.out HY.out.1 HY.out.2.1 HY.out.2.2 rfl (by omega) (.slice none 0 0) 0 [] (by rfl) (World.ownsRow_nil _ _ _ _) _ X.A2 d.F.length X.c2 (ics d.F) (by rfl) HV.out.ab.da.dr.fl.rd (ics_one _) (by have := HOK.out.rg.2; unfold maxLen; omega) (by have := HOK.out.rg.2; omega) (Nat.le_refl _) ?_; intro v w3 hown hg hat; rw [Nat.zero_add, List.nil_append] at hown; obtain ⟨A2, c2, rfl⟩ := own_form hown; have HP := Lib.hid (HV.out.cf hown (nil_below hg)); have HSK := Lib.hid (fun W' (hb : Below (p + 1) w3 W') => HP.out.ab.k3 hb); have HBZ := Lib.hid (Below.refl (p + 1) w3); have hpl := HP.out.ab.da.db.lt; (try (obtain ⟨⟨b0, b1, b2, bl⟩, g0, g1, g2⟩ := HP.out.xf.1.all; have hxr := HP.out.xf.2; have hrq := HP.out.ab.ne)); clear HV hown hg hat))
      all_goals
        go_wp2_with fail
        go_meet
        (try rw [hwv2])
        first
        | exact ⟨_, A2, c2, rfl, Lib.hid (rz_1 HP.out 40)⟩
        | exact ⟨_, A2, c2, rfl, Lib.hid (rz_2 HP.out)⟩
    case rest =>
      obtain ⟨y, A2, c2, rfl, HZ⟩ := hcut
      generalize wc = w3 at *
      clear HP0 HP H2 HJ HY
      by_cases hA : ixS d.l e.fr < 0 ∨ 0 ≤ ixS d.l e.to
      · have HRE := Lib.hid (show x = 7 ∧ R = zD10 from ⟨HEX.out.1.trans (spE_7 hA), by rw [HEX.out.2, if_neg (by rw [spE_7 hA]; decide)]⟩)
        have hw : ixS d.l e.fr < 0 ∨ (0 ≤ ixS d.l e.fr ∧ 0 ≤ ixS d.l e.to) := by omega
        clear hA HEX
        generalize ixS d.l e.fr = i1 at *
        generalize ixS d.l e.to = i2 at *
        rcases hw with u1 | ⟨u1, u2⟩
        all_goals
          obtain ⟨⟨r0, r1, r2, rl⟩, g0, g1, g2⟩ := HZ.out.ab.rb.all
          obtain ⟨y0, y1, y2, y3, yl⟩ := HZ.out.ab.eb
          have HO := Lib.hid (HZ.out.ab.out0 7)
          go_wp2
          exact bodyPost_ret (v := .tuple #[.agg #[.int .i64 0, .slice none 0 0, .slice none 0 0], .int .i64 7]) (by simp only [results, Try.results22]; go_simp <;> rfl) rfl (by rw [HRE.out.1, HRE.out.2]; exact HO.out)
      · have hfr : 0 ≤ ixS d.l e.fr := by omega
        have hto : ¬ 0 ≤ ixS d.l e.to := by omega
        obtain ⟨i, hi, hil, -, -⟩ := ixS_pos hfr
        have hne := (ixS_neg hto).1
        have HEY := Lib.hid (show (sg d.l i).lo ≤ e.md ∧ e.md < (sg d.l i).hi → x = 0 ∧ R = Dd.mk (d.vn + 1) (spL d.l i e) (d.F.set e.to.toNat (-1)) from fun h => by
          have h9 : spE d e = 0 := spE_0 hfr (by omega) (by rw [hi]; exact h)
          have h8 : (ixS d.l e.fr).toNat = i := by rw [hi]; rfl
          exact ⟨HEX.out.1.trans h9, by rw [HEX.out.2, if_pos h9, h8]⟩)
        have HEN := Lib.hid (show ¬ ((sg d.l i).lo ≤ e.md ∧ e.md < (sg d.l i).hi) → x = 1 ∧ R = zD10 from fun h => by
          have h9 : spE d e = 1 := spE_1 hfr (by omega) (by rw [hi]; exact h)
          exact ⟨HEX.out.1.trans h9, by rw [HEX.out.2, if_neg (by rw [h9]; decide)]⟩)
        rw [hi, hne]
        have hi0 : (0 : Int) ≤ (i : Int) := by omega
        have hilI : (i : Int) < (d.l.length : Int) := by omega
        clear hA hfr hto hi hne HEX
        obtain ⟨b, o, hAb, hbl, c0, c1, c2'⟩ := HZ.out.ab.da.dr.pl.atg hil
        obtain ⟨x0, x1, x2, -, xl⟩ := HZ.out.ab.da.db
        obtain ⟨y0, y1, y2, y3, yl⟩ := HZ.out.ab.eb
        rw [hAb] at x1
        have HSP := Lib.hid (show spL d.l i e = (d.l.take i ++ s12 (sg d.l i) e) ++ d.l.drop (i + 1) by simp [spL, s12])
        have HML := Lib.hid (ok_rng HOK.out hil)
        generalize sg d.l i = M at *
        go_upto_region 17 with (fail)
        clear x0 x1 x2 xl y0 y1 y2 y3 yl c0 c1 c2' hAb hbl
        obtain ⟨u, hu⟩ : ∃ u, u = w3.heap.size := ⟨_, rfl⟩
        have HU := Lib.hid (show (w3.alloc (.cells #[.int .i64 M.lo, .int .i64 M.hi, .int .i64 M.sh] 44)).cell? ⟨u, 0, none⟩ = some (.int .i64 M.lo) ∧ (w3.alloc (.cells #[.int .i64 M.lo, .int .i64 M.hi, .int .i64 M.sh] 44)).cell? ⟨u, 1, none⟩ = some (.int .i64 M.hi) ∧ u < (w3.alloc (.cells #[.int .i64 M.lo, .int .i64 M.hi, .int .i64 M.sh] 44)).heap.size ∧ y < u from by
          rw [hu]
          exact ⟨by simp [go_sem], by simp [go_sem], by simp, HZ.out.xb.lt⟩)
        rw [← hu]
        clear hu
        have HZ := Lib.hid (HZ.out.below ((Below.refl _ _).alloc (Nat.le_refl _) (.cells #[.int .i64 M.lo, .int .i64 M.hi, .int .i64 M.sh] 44)))
        generalize w3.alloc (.cells #[.int .i64 M.lo, .int .i64 M.hi, .int .i64 M.sh] 44) = w4 at *
        obtain ⟨u0, u1, ul, -⟩ := HU.out
        by_cases hm : M.lo ≤ e.md ∧ e.md < M.hi
        · have HRE := Lib.hid (HEY.out hm)
          obtain ⟨m1, m2⟩ := hm
          clear HEY HEN
          obtain ⟨y0, y1, y2, y3, yl⟩ := HZ.out.ab.eb
          go_upto_region 19 with (fail)
          clear u0 u1 ul y0 y1 y2 y3 yl
          have HP0 := Lib.hid (show Rs w p q r y u d X e d.F ⟨none, 0, A2, c2⟩ i M none none w4 from ⟨HZ.out, HU.out.1, HU.out.2.1, HU.out.2.2.1, HU.out.2.2.2, by simp, by simp⟩)
          have HP := Lib.hid HP0.out.drew
          have hwm : wrap64 (e.md + 1) = e.md + 1 := IntWalk.wrap64_in _ (by have := HML.out; omega)
          have hwm2 : IntKind.i64.wrap (e.md + 1) = e.md + 1 := IntWalk.i64_in _ (by have := HML.out; omega)
          have hlc := HZ.out.ab.da.dr.pl.len
          have hic : i ≤ X.c := by omega
          have hicI : (i : Int) ≤ (X.c : Int) := by omega
          have hi90 : i ≤ 90 ∧ d.l.length ≤ 90 := by have := HHL.out; omega
          have HI9 := Lib.hid (And.intro hil hi90)
          have HPU := Lib.hid (fun W (k : Ab w p q r d X e W) => (k.da.dr.pl.upto (Nat.le_of_lt hil)))
          obtain ⟨i0, hi0', hz0⟩ := Option.map_eq_some_iff.1 info_sp
          simp only [Prod.mk.injEq] at hz0
          have HI := Lib.hid hi0'
          have HY := Lib.hid hz0
          clear hi0' hz0 hlc hi90 HU HZ
          go_cut [10] (fun s10 wx => s10 = .pointer (some ⟨y, 0, none⟩) ∧ ∃ A c, Hid (Rz w p q r y d X e (d.l.take i ++ s12 M e) d.F ⟨A, c, A2, c2⟩ wx))
          case first =>
            have HSK := Lib.hid (fun W' (hb : Below (u + 1) w4 W') => HP0.out.k9 hb)
            have HSS := Lib.hid (fun W' v (hb : Below (u + 1) w4 W') => HP0.out.k9s hb v)
            have HBZ := Lib.hid (Below.refl (u + 1) w4)
            have hul := HP0.out.ul
            go_region_held3 (fun W => K9 p q u d X e M W)
              (first | (with_reducible refine HSS.out _ _ ?_; repeat' (first | with_reducible exact HBZ.out | with_reducible refine dal ?_ ?_ | with_reducible refine ddr ?_ | omega | (simp; omega))) | (refine HSK.out _ ?_; repeat' (first | with_reducible exact HBZ.out | with_reducible refine dal ?_ ?_ | with_reducible refine ddr ?_ | omega | (simp; omega))))
              (first
                | ((first | (have HV := Lib.hid HP.out; with_reducible refine at_rs HV.out ?_) | (have HV := Lib.hid (HP.out.b1 44); with_reducible refine at_rs HV.out ?_) | (have HV := Lib.hid (HP0.out.b1 44).drew; with_reducible refine at_rs HV.out ?_)); refine step_append_rd _ (by rfl) _ _ _ (by rfl) _ 44 i0 _ 3 24 Try.underlying38 HI.out HY.out.1 HY.out.2.1 HY.out.2.2 rfl (by omega) (.slice none 0 0) 0 [] (by rfl) (World.ownsRow_nil _ _ _ _) _ X.A i X.c (scs (d.l.take i)) (by rfl) (HPU.out _ HV.out.rz.ab).rd (scs_one _) (by have := HI9.out; unfold maxLen; omega) (by have := HI9.out; omega) (Nat.le_refl _) ?_; intro v w6 hown hg hat; rw [Nat.zero_add, List.nil_append] at hown; have HP := Lib.hid (HV.out.a1 hown (nil_below hg)); obtain ⟨A1, c1, rfl⟩ := own_form hown; have HSK := Lib.hid (fun W' (hb : Below (u + 1) w6 W') => HP.out.k9 hb); have HSS := Lib.hid (fun W' v (hb : Below (u + 1) w6 W') => HP.out.k9s hb v); have HBZ := Lib.hid (Below.refl (u + 1) w6); have hul := HP.out.ul; clear HV hown hg hat)
                | ((first | (have HV := Lib.hid HP.out; with_reducible refine at_rs HV.out ?_) | (have HV := Lib.hid (HP.out.b1 44); with_reducible refine at_rs HV.out ?_) | (have HV := Lib.hid (HP0.out.b1 44).drew; with_reducible refine at_rs HV.out ?_)); refine step_append_rd _ (by rfl) _ _ _ (by rfl) (r + 1) 44 i0 _ 3 24 Try.underlying38 HI.out HY.out.1 HY.out.2.1 HY.out.2.2 rfl (by omega) (.slice A1 i c1) i (scs (d.l.take i)) (by rfl) (HV.out.fa _ rfl).1 _ _ 2 2 (scs (s12 M e)) (by rfl) (HV.out.fb _ rfl) (scs_one _) (by have := HI9.out; unfold maxLen; omega) (by have := HI9.out; omega) (Nat.succ_le_of_lt HV.out.rz.ab.rb.lt) ?_; intro v w6 hown hg hat; have HSK := Lib.hid (fun W' (hb : Below (u + 1) w6 W') => HV.out.k9g hg hb); have HSS := Lib.hid (fun W' v (hb : Below (u + 1) w6 W') => HV.out.k9gs hg v hb); have HBZ := Lib.hid (Below.refl (u + 1) w6); have hul := Nat.lt_of_lt_of_le HV.out.ul hg.size; obtain ⟨A3, c3, rfl, ⟨b1, f1, byl⟩, hrz, hcap⟩ := HV.out.app2 (by have := HI9.out; omega) hown hg hat; have HRZ := Lib.hid hrz; clear HV hown hg hat hrz))
            all_goals
              go_wp2_with fail
              go_meet
              exact ⟨rfl, A3, c3, HRZ⟩
          case rest =>
            obtain ⟨rfl, A3, c3, HRZ⟩ := hcut
            generalize wc = w5 at *
            go_upto_region 20 with (fail)
            obtain ⟨L1, hL1⟩ : ∃ L1, L1 = d.l.take i ++ s12 M e := ⟨_, rfl⟩
            have HL1 := Lib.hid (show L1.length = i + 2 from by rw [hL1]; have := HI9.out; simp [s12]; omega)
            rw [← hL1] at HRZ HSP
            have HD := Lib.hid (HRZ.out.below (Below.refl _ _).drew)
            obtain ⟨x0, x1, x2, -, xl⟩ := HRZ.out.ab.da.db
            obtain ⟨z0, z1, z2, zf, zl⟩ := HRZ.out.xb
            have zf1 := zf 1
            have hwi : IntKind.i64.wrap ((i : Int) + 1) = (i : Int) + 1 := IntWalk.i64_in _ (by have := HI9.out; omega)
            have hlc := HRZ.out.ab.da.dr.pl.len
            have hk1 : i + 1 ≤ d.l.length := by omega
            have hk1I : (i : Int) + 1 ≤ (d.l.length : Int) := by omega
            have hk2 : i + 1 ≤ X.c := by omega
            have hk2I : (i : Int) + 1 ≤ (X.c : Int) := by omega
            have HFR := Lib.hid (fun W (k : Ab w p q r d X e W) => (k.da.dr.pl.from hk1))
            have hk0 : (0 : Int) ≤ (i : Int) + 1 := by omega
            dsimp only at z1
            clear hL1 x0 x2 z0 z2 zf hlc
            go_cut [10] (fun s10 wx => s10 = .pointer (some ⟨y, 0, none⟩) ∧ ∃ A c, Hid (Rz w p q r y d X e (L1 ++ d.l.drop (i + 1)) d.F ⟨A, c, A2, c2⟩ wx))
            case first =>
              go_region_law (refine step_append_rd _ (by rfl) _ _ _ (by rfl) (r + 1) 44 i0 _ 3 24 Try.underlying38 HI.out HY.out.1 HY.out.2.1 HY.out.2.2 rfl (by omega) (.slice A3 L1.length c3) L1.length (scs L1) (by rfl) HD.out.ol _ _ (d.l.length - (i + 1)) _ (scs (d.l.drop (i + 1))) (by rfl) (HFR.out _ HD.out.ab).rd (scs_one _) (by have := HI9.out; have := HL1.out; unfold maxLen; omega) (by have := HI9.out; have := HL1.out; omega) (Nat.succ_le_of_lt HD.out.ab.rb.lt) ?_; intro v w6 hown hg hat; obtain ⟨A4, c4, rfl, ⟨b1, f1, byl⟩, hrz⟩ := HD.out.app (m := d.l.drop (i + 1)) (by rw [List.length_drop]; exact hown) hg hat; rw [List.length_drop] at hrz; have HRZ2 := Lib.hid hrz; clear hown hg hat hrz)
              all_goals
                go_wp2_with fail
                all_goals
                  go_meet
                  exact ⟨rfl, A4, c4, HRZ2⟩
            case rest =>
              clear HD HRZ x1 xl z1 zl zf1
              obtain ⟨rfl, A4, c4, HRZ⟩ := hcut
              generalize wc = w7 at *
              obtain ⟨LL, hLL⟩ : ∃ LL, LL = L1 ++ d.l.drop (i + 1) := ⟨_, rfl⟩
              rw [← hLL] at HRZ HSP
              clear hLL
              obtain ⟨t, ht⟩ : ∃ t : Nat, e.to = t := ⟨e.to.toNat, by omega⟩
              have htn : t < d.F.length := by omega
              have htn' : (t : Int) < (d.F.length : Int) := by omega
              obtain ⟨g2, hg2⟩ := own_addr HRZ.out.of (by omega)
              dsimp only at hg2
              subst hg2
              have HO0 := (HRZ.out.setF (g := g2) rfl t (-1)).out 0
              have hls : (d.F.set t (-1)).length = d.F.length := List.length_set ..
              dsimp only [dv] at HO0
              rw [hls] at HO0
              have HO := Lib.hid HO0
              obtain ⟨hg2y, hrg2, hry⟩ : g2 ≠ y ∧ r ≠ g2 ∧ r ≠ y := ⟨HRZ.out.d3 g2 rfl, by have := (HRZ.out.of.lt g2 rfl).1; omega, by have := HRZ.out.ry; omega⟩
              have hyg2 : ¬ y = g2 := fun e => hg2y e.symm
              have hg2r : ¬ g2 = r := fun e => hrg2 e.symm
              have hyr : ¬ y = r := fun e => hry e.symm
              have HRF := Lib.hid (show x = 0 ∧ R = Dd.mk (d.vn + 1) LL (d.F.set t (-1)) from ⟨HRE.out.1, by rw [HRE.out.2, HSP.out, ht]; rfl⟩)
              obtain ⟨z0, z1, z2, zf, zl⟩ := HRZ.out.xb
              obtain ⟨y0, y1, y2, y3, yl⟩ := HRZ.out.ab.eb
              obtain ⟨⟨r0, r1, r2, rl⟩, g0, g1, g3⟩ := HRZ.out.ab.rb.all
              rw [ht] at y2
              dsimp only at z0 z1 z2
              obtain ⟨b', o', hA', -, hc'⟩ := (Fl.of_own HRZ.out.of).atg htn
              injection hA' with hA'
              injection hA' with hA1 hA2
              subst hA1 hA2
              rw [Nat.zero_add] at hc'
              have hfro := HRZ.out.of.frozenAt t
              have hgl := (HRZ.out.of.lt g2 rfl).2
              clear HO0 hls hg2y hg2r
              go_wp2
              exact bodyPost_ret (v := .tuple #[.agg #[.int .i64 (d.vn + 1), .slice A4 LL.length c4, .slice (some ⟨g2, 0, none⟩) d.F.length c2], .int .i64 0]) (by simp only [results, Try.results22]; go_simp <;> rfl) rfl (by rw [HRF.out.1, HRF.out.2]; exact HO.out)
        · have HRE := Lib.hid (HEN.out hm)
          have hw : e.md < M.lo ∨ (M.lo ≤ e.md ∧ M.hi ≤ e.md) := by omega
          clear hm HEY HEN
          rcases hw with m1 | ⟨m1, m2⟩
          all_goals
            obtain ⟨⟨r0, r1, r2, rl⟩, g0, g1, g2⟩ := HZ.out.ab.rb.all
            obtain ⟨y0, y1, y2, y3, yl⟩ := HZ.out.ab.eb
            have HO := Lib.hid (HZ.out.ab.out0 1)
            go_wp2
            exact bodyPost_ret (v := .tuple #[.agg #[.int .i64 0, .slice none 0 0, .slice none 0 0], .int .i64 1]) (by simp only [results, Try.results22]; go_simp <;> rfl) rfl (by rw [HRE.out.1, HRE.out.2]; exact HO.out)

end Go.Proofs.Ytkecnihgjepfeaa
namespace Go.Proofs.Ytkecnihgjepfeaa
open Go.RowKit
set_option linter.unusedVariables false

set_option maxHeartbeats 16000000 in
set_option maxRecDepth 20000 in
theorem rap_me1 (d : Dd) (X : Dx) (e : Ed) (w : World) (hd : DR w w.heap.size d X) (hl : d.l.length ≤ 90) (hv : vaD d = 0) (h6 : d.vn ≠ 1099511627776) (hk : e.kd = 2) (hs : slotP d.F.length e.fr ∧ slotP d.F.length e.to) (hcs : ixS d.l e.fr - ixS d.l e.to = 1) :
    Calls Try.prog 22 #[dv d X, e.v] w (DE w.heap.size w (apD d e) (apE d e)) := by
  have HCS := Lib.hid hcs
  clear hcs
  have H0 := Lib.hid (Ab.start d X e hd)
  have HVA := Lib.hid (fun p q r W (k : Ab w p q r d X e W) => rvalid10_any d X W k.da.dr)
  have HHL := Lib.hid hl
  obtain ⟨p, hp⟩ : ∃ p, p = w.heap.size := ⟨_, rfl⟩
  obtain ⟨q, hq⟩ : ∃ q, q = w.heap.size + 1 := ⟨_, rfl⟩
  obtain ⟨r, hr⟩ : ∃ r, r = w.heap.size + 1 + 1 := ⟨_, rfl⟩
  have HPP := Lib.hid (show (p = w.heap.size ∧ q = w.heap.size + 1 ∧ r = w.heap.size + 1 + 1) ∧ (¬ p = q ∧ ¬ q = p ∧ ¬ p = r ∧ ¬ r = p ∧ ¬ q = r ∧ ¬ r = q) by omega)
  obtain ⟨R, hR⟩ : ∃ R, R = apD d e := ⟨_, rfl⟩
  obtain ⟨x, hx⟩ : ∃ x, x = apE d e := ⟨_, rfl⟩
  rw [← hR, ← hx]
  have HRX := Lib.hid (And.intro hR hx)
  clear hR hx hp hq hr hd hl
  rw [hv] at HVA
  have h6' : (d.vn == 1099511627776) = false := by simpa using h6
  have HOK := Lib.hid (ok_va hv)
  have HAN := Lib.hid (apN_0 hv h6 (.inr hk) hs.1 hs.2)
  have HSL := Lib.hid hs
  obtain ⟨⟨s0, s1⟩, s2, s3⟩ := hs
  clear h6
  have HEX := Lib.hid (show x = meE d e ∧ R = if meE d e = 0 then Dd.mk (d.vn + 1) (meL d.l (min (ixS d.l e.fr) (ixS d.l e.to)).toNat e) (d.F.set e.fr.toNat e.to) else zD10 from by
    have h7 : apE d e = meE d e := apE_2 HAN.out hk
    refine ⟨HRX.out.2.trans h7, ?_⟩
    rw [HRX.out.1]
    by_cases h8 : meE d e = 0
    · rw [if_pos h8, apD_2 (by rw [h7]; exact h8) hk]; rfl
    · rw [if_neg h8, apD_no (by rw [h7]; exact h8)])
  have k1 : (e.kd != 1) = true := by rw [hk]; decide
  have k2 : (e.kd != 2) = false := by simpa using hk
  have k3 : (e.kd == 1) = false := by rw [hk]; decide
  clear hv hk
  go_enter Try.func22, Try.ntmps22
  go_wp2_with fail
  have H0 := Lib.hid (show Ab w p q r d X e (((w.alloc (.cells #[.int .i64 d.vn, .slice X.A d.l.length X.c, .slice X.A2 d.F.length X.c2] 40)).alloc (.cells #[.int .i64 e.kd, .int .i64 e.fr, .int .i64 e.to, .int .i64 e.md] 55)).alloc (.cells #[.int .i64 0, .slice none 0 0, .slice none 0 0] 40)) from by rw [HPP.out.1.1, HPP.out.1.2.1, HPP.out.1.2.2]; exact H0.out)
  rw [← HPP.out.1.2.2, ← HPP.out.1.2.1, ← HPP.out.1.1]
  generalize ((w.alloc (.cells #[.int .i64 d.vn, .slice X.A d.l.length X.c, .slice X.A2 d.F.length X.c2] 40)).alloc (.cells #[.int .i64 e.kd, .int .i64 e.fr, .int .i64 e.to, .int .i64 e.md] 55)).alloc (.cells #[.int .i64 0, .slice none 0 0, .slice none 0 0] 40) = w0 at *
  refine (HVA.out _ _ _ _ H0.out).mono ?_
  rintro e1 w1 ⟨rfl, hb⟩
  have H1 := Lib.hid (H0.out.below hb)
  clear hb H0 HVA
  obtain ⟨x0, x1, x2, -, xl⟩ := H1.out.da.db
  obtain ⟨y0, y1, y2, y3, yl⟩ := H1.out.eb
  have HI1 := Lib.hid (fun W (k : Ab w p q r d X e W) => rindex10_any d X e.fr W k.da.dr)
  have HI2 := Lib.hid (fun W (k : Ab w p q r d X e W) => rindex10_any d X e.to W k.da.dr)
  go_upto_region 11 with (fail)
  clear x0 x1 x2 xl y0 y1 y2 y3 yl
  go_cut [8, 9] (fun s8 s9 wx => s8 = .int .i64 (ixS d.l e.fr) ∧ s9 = .int .i64 (ixS d.l e.to) ∧ Hid (Ab w p q r d X e wx))
  case first =>
    have HK0 := Lib.hid H1.out.k5
    have HP := Lib.hid (H1.out.below (Below.refl _ _).drew)
    have HK := Lib.hid HP.out.k5
    clear H1
    go_region_held3 (fun W => K5 p q d X e W)
      (first | with_reducible exact HK.out | with_reducible exact HK0.out)
      (first
        | (go_at_call 25; (with_reducible refine (HI1.out _ HP.out).mono ?_); rintro e1 w1 ⟨rfl, hb⟩; have HP := Lib.hid (HP.out.below hb); have HK := Lib.hid HP.out.k5; clear hb)
        | (go_at_call 25; (with_reducible refine (HI2.out _ HP.out).mono ?_); rintro e1 w1 ⟨rfl, hb⟩; have HP := Lib.hid (HP.out.below hb); have HK := Lib.hid HP.out.k5; clear hb))
    all_goals
      go_wp2_with fail
      go_meet
      exact ⟨rfl, rfl, HP⟩
  case rest =>
    obtain ⟨rfl, rfl, H2⟩ := hcut
    generalize wc = w2 at *
    go_upto_region 12 with (fail)
    have HP0 := Lib.hid (show Nx w p q r d X e none none none w2 from Nx.start H2.out)
    have HP := Lib.hid HP0.out.drew
    have hwv : wrap64 (d.vn + 1) = d.vn + 1 := IntWalk.wrap64_in _ (by have := HOK.out.rg.1; omega)
    have hwv2 : IntKind.i64.wrap (d.vn + 1) = d.vn + 1 := IntWalk.i64_in _ (by have := HOK.out.rg.1; omega)
    obtain ⟨j0, hi0, hz0⟩ := Option.map_eq_some_iff.1 info_ni
    simp only [Prod.mk.injEq] at hz0
    have HJ := Lib.hid hi0
    have HY := Lib.hid hz0
    clear hi0 hz0
    go_cut [10] (fun s10 wx => ∃ (y : Nat) (A2 : Option Addr) (c2 : Nat), s10 = .pointer (some ⟨y, 0, none⟩) ∧ Hid (Rz w p q r y d X e [] d.F ⟨none, 0, A2, c2⟩ wx))
    case first =>
      have HSK := Lib.hid (fun W' (hb : Below (p + 1) w2 W') => H2.out.k3 hb)
      have HBZ := Lib.hid (Below.refl (p + 1) w2)
      have hpl := H2.out.da.db.lt
      go_region_held3 (fun W => K3 p d X W)
        ((refine HSK.out _ ?_; repeat' (first | with_reducible exact HBZ.out | with_reducible refine dal ?_ ?_ | with_reducible refine dst ?_ ?_ | with_reducible refine ddr ?_ | omega | (simp; omega))))
        (first
          | ((first | (have HV := Lib.hid HP.out; with_reducible refine at_world HV.out ?_) | (have HV := Lib.hid (HP.out.ax 40); with_reducible refine at_world HV.out ?_) | (have HV := Lib.hid (HP0.out.ax 40).drew; with_reducible refine at_world HV.out ?_)); refine step_append_rd _ (by rfl) _ _ _ (by rfl) _ 3 j0 _ 1 8 Try.underlying24 HJ.out HY.out.1 HY.out.2.1 HY.out.2.2 rfl (by omega) (.slice none 0 0) 0 [] (by rfl) (World.ownsRow_nil _ _ _ _) _ X.A2 d.F.length X.c2 (ics d.F) (by rfl) HV.out.ab.da.dr.fl.rd (ics_one _) (by have := HOK.out.rg.2; unfold maxLen; omega) (by have := HOK.out.rg.2; omega) (Nat.le_refl _) ?_; intro v w3 hown hg hat; rw [Nat.zero_add, List.nil_append] at hown; obtain ⟨A2, c2, rfl⟩ := own_form hown; have HP := Lib.hid (HV.out.cf hown (nil_below hg)); have HSK := Lib.hid (fun W' (hb : Below (p + 1) w3 W') => HP.out.ab.k3 hb); have HBZ := Lib.hid (Below.refl (p + 1) w3); have hpl := HP.out.ab.da.db.lt; (try (obtain ⟨⟨b0, b1, b2, bl⟩, g0, g1, g2⟩ := HP.out.xf.1.all; have hxr := HP.out.xf.2; have hrq := HP.out.ab.ne)); clear HV hown hg hat))
      all_goals
        go_wp2_with fail
        go_meet
        (try rw [hwv2])
        first
        | exact ⟨_, A2, c2, rfl, Lib.hid (rz_1 HP.out 40)⟩
        | exact ⟨_, A2, c2, rfl, Lib.hid (rz_2 HP.out)⟩
    case rest =>
      obtain ⟨y, A2, c2, rfl, HZ⟩ := hcut
      generalize wc = w3 at *
      clear HP0 HP H2 HJ HY
      have HGE := Lib.hid (And.intro (ixS_ge d.l e.fr) (ixS_ge d.l e.to))
      by_cases hA : (ixS d.l e.fr < 0 ∨ ixS d.l e.to < 0) ∨ (ixS d.l e.fr - ixS d.l e.to ≠ 1 ∧ ixS d.l e.to - ixS d.l e.fr ≠ 1)
      · have HRE := Lib.hid (show x = 7 ∧ R = zD10 from ⟨HEX.out.1.trans (meE_7 hA), by rw [HEX.out.2, if_neg (by rw [meE_7 hA]; decide)]⟩)
        have hg1 := HGE.out
        have hll := HHL.out
        generalize ixS d.l e.fr = i1 at *
        generalize ixS d.l e.to = i2 at *
        have hd1 : IntKind.i64.wrap (i1 - i2) = i1 - i2 := IntWalk.i64_in _ (by omega)
        have hd2 : IntKind.i64.wrap (i2 - i1) = i2 - i1 := IntWalk.i64_in _ (by omega)
        have hw : i1 < 0 ∨ (0 ≤ i1 ∧ i2 < 0) ∨ (0 ≤ i1 ∧ 0 ≤ i2 ∧ (i1 - i2 != 1) = true ∧ (i2 - i1 != 1) = true) := by
          by_cases q1 : i1 < 0
          · exact .inl q1
          · by_cases q2 : i2 < 0
            · exact .inr (.inl ⟨by omega, q2⟩)
            · exact .inr (.inr ⟨by omega, by omega, bne_iff_ne.2 (by omega), bne_iff_ne.2 (by omega)⟩)
        clear hA HEX hg1 hll HGE
        rcases hw with u1 | ⟨u1, u2⟩ | ⟨u1, u2, u3, u4⟩
        all_goals
          obtain ⟨⟨r0, r1, r2, rl⟩, g0, g1, g2⟩ := HZ.out.ab.rb.all
          obtain ⟨y0, y1, y2, y3, yl⟩ := HZ.out.ab.eb
          have HO := Lib.hid (HZ.out.ab.out0 7)
          go_wp2
          exact bodyPost_ret (v := .tuple #[.agg #[.int .i64 0, .slice none 0 0, .slice none 0 0], .int .i64 7]) (by simp only [results, Try.results22]; go_simp <;> rfl) rfl (by rw [HRE.out.1, HRE.out.2]; exact HO.out)
      · have hfr : 0 ≤ ixS d.l e.fr := by omega
        have hto : 0 ≤ ixS d.l e.to := by omega
        have h10 : meE d e = 0 := meE_0 hfr hto (by omega)
        obtain ⟨i, hi, hil⟩ : ∃ i : Nat, min (ixS d.l e.fr) (ixS d.l e.to) = i ∧ i + 1 < d.l.length := ⟨(min (ixS d.l e.fr) (ixS d.l e.to)).toNat, by omega, by have := HGE.out; omega⟩
        have HRE := Lib.hid (show x = 0 ∧ R = Dd.mk (d.vn + 1) (meL d.l i e) (d.F.set e.fr.toNat e.to) from by
          have h8 : (min (ixS d.l e.fr) (ixS d.l e.to)).toNat = i := by rw [hi]; rfl
          exact ⟨HEX.out.1.trans h10, by rw [HEX.out.2, if_pos h10, h8]⟩)
        have hg1 := HGE.out
        have hll := HHL.out
        have hdd : ixS d.l e.fr - ixS d.l e.to = 1 ∨ (¬ ixS d.l e.fr - ixS d.l e.to = 1 ∧ ixS d.l e.to - ixS d.l e.fr = 1) := by omega
        clear hA HEX h10 HGE
        generalize ixS d.l e.fr = i1 at *
        generalize ixS d.l e.to = i2 at *
        have hd1 : IntKind.i64.wrap (i1 - i2) = i1 - i2 := IntWalk.i64_in _ (by omega)
        have hd2 : IntKind.i64.wrap (i2 - i1) = i2 - i1 := IntWalk.i64_in _ (by omega)
        have hdb : (i1 - i2 != 1) = false := by
          have h : i1 - i2 = 1 := HCS.out
          rw [h]; rfl
        clear hdd hg1 hll
        obtain ⟨f1, hf1⟩ : ∃ f1, f1 = i + 1 := ⟨_, rfl⟩
        have hil1 : i < d.l.length := by omega
        have hf1l : f1 < d.l.length := by omega
        obtain ⟨b, o, hAb, hbl, c0, -, -⟩ := HZ.out.ab.da.dr.pl.atg hil1
        obtain ⟨b', o', hAb', -, -, c1, -⟩ := HZ.out.ab.da.dr.pl.atg hf1l
        rw [hAb] at hAb'
        injection hAb' with hAb'
        injection hAb' with hb1 hb2
        subst hb1 hb2
        have HME := Lib.hid (show meL d.l i e = (d.l.take i ++ s1m (sg d.l i) (sg d.l f1) e) ++ d.l.drop (f1 + 1) by rw [hf1]; simp [meL, s1m])
        have hwi : IntKind.i64.wrap ((i : Int) + 1) = (f1 : Int) := by rw [IntWalk.i64_in _ (by have := HHL.out; omega), hf1]; rfl
        have hbp : b < w.heap.size := by
          apply Classical.byContradiction
          intro h
          exact (HZ.out.ab.of b (by omega)).o1 _ hAb (by omega) rfl
        have hnn := HZ.out.ab.ne
        have hry := HZ.out.ry
        have HLE := Lib.hid (show p ≤ y ∧ q ≤ y ∧ b ≤ y ∧ p ≠ y ∧ q ≠ y ∧ b ≠ y by omega)
        have hby : b < y := by omega
        have HAB := Lib.hid hAb
        have HF1 := Lib.hid hf1
        have hi0 : (0 : Int) ≤ (i : Int) := by omega
        have hilI : (i : Int) < (d.l.length : Int) := by omega
        have hf0 : (0 : Int) ≤ (f1 : Int) := by omega
        have hflI : (f1 : Int) < (d.l.length : Int) := by omega
        have hlc := HZ.out.ab.da.dr.pl.len
        have hic : i ≤ X.c := by omega
        have hicI : (i : Int) ≤ (X.c : Int) := by omega
        have HI9 := Lib.hid (show i + 1 < d.l.length ∧ d.l.length ≤ 90 from ⟨hil, HHL.out⟩)
        have HPU := Lib.hid (fun W (k : Ab w p q r d X e W) => (k.da.dr.pl.upto (Nat.le_of_lt hil1)))
        generalize sg d.l i = M at *
        generalize sg d.l f1 = N at *
        have HKM3 := Lib.hid (show K9m p q b (o + i * 3) (o + f1 * 3 + 1) d X e M N w3 from ⟨HZ.out.ab.da.k, HZ.out.ab.eb.c1, HZ.out.ab.eb.c2, c0, c1⟩)
        have HP0 := Lib.hid (show Rm w p q r y d X e d.F ⟨none, 0, A2, c2⟩ i M N none none w3 from ⟨HZ.out, by simp, by simp⟩)
        have HP := Lib.hid HP0.out.drew
        obtain ⟨i0, hi0', hz0⟩ := Option.map_eq_some_iff.1 info_sp
        simp only [Prod.mk.injEq] at hz0
        have HI := Lib.hid hi0'
        have HY := Lib.hid hz0
        clear hi0' hz0 hlc c0 c1 hbl hbp hnn hry hAb hf1 hil hfr hto
        obtain ⟨y0, y1, y2, y3, yl⟩ := HZ.out.ab.eb
        go_upto_region 26 with (fail)
        clear hd1 hd2 hi y0 y1 y2 y3 yl
        go_cut [10] (fun s10 wx => s10 = .pointer (some ⟨y, 0, none⟩) ∧ ∃ A c, Hid (Rz w p q r y d X e (d.l.take i ++ s1m M N e) d.F ⟨A, c, A2, c2⟩ wx))
        case first =>
          have HKM := HKM3
          have HSK := Lib.hid (fun W' (hb : Below (y + 1) w3 W') => k9n_of HAB.out (k9m_below HKM.out HLE.out.1 HLE.out.2.1 HLE.out.2.2.1 hb))
          have HSS := Lib.hid (fun W' v (hb : Below (y + 1) w3 W') => k9n_of HAB.out (k9m_set (k9m_below HKM.out HLE.out.1 HLE.out.2.1 HLE.out.2.2.1 hb) HLE.out.2.2.2.1 HLE.out.2.2.2.2.1 HLE.out.2.2.2.2.2 v))
          have HBZ := Lib.hid (Below.refl (y + 1) w3)
          have hyl := HP0.out.rz.xb.lt
          go_region_held3 (fun W => K9n p q b (o + i * 3) (o + f1 * 3 + 1) (some ⟨b, o, none⟩) d X e M N W)
            (first | (with_reducible refine HSS.out _ _ ?_; repeat' (first | with_reducible exact HBZ.out | with_reducible refine dal ?_ ?_ | with_reducible refine ddr ?_ | omega | (simp; omega))) | (refine HSK.out _ ?_; repeat' (first | with_reducible exact HBZ.out | with_reducible refine dal ?_ ?_ | with_reducible refine ddr ?_ | omega | (simp; omega))))
            (first
              | ((first | (have HV := Lib.hid HP.out; with_reducible refine at_rm HV.out ?_) | (have HV := Lib.hid (HP.out.b1 44); with_reducible refine at_rm HV.out ?_) | (have HV := Lib.hid (HP0.out.b1 44).drew; with_reducible refine at_rm HV.out ?_)); refine step_append_rd _ (by rfl) _ _ _ (by rfl) _ 44 i0 _ 3 24 Try.underlying38 HI.out HY.out.1 HY.out.2.1 HY.out.2.2 rfl (by omega) (.slice none 0 0) 0 [] (by rfl) (World.ownsRow_nil _ _ _ _) _ (some ⟨b, o, none⟩) i X.c (scs (d.l.take i)) (by rfl) (by rw [← HAB.out]; exact (HPU.out _ HV.out.rz.ab).rd) (scs_one _) (by have := HI9.out; unfold maxLen; omega) (by have := HI9.out; omega) (Nat.le_refl _) ?_; intro v w6 hown hg hat; rw [Nat.zero_add, List.nil_append] at hown; have HKM := Lib.hid (k9m_below HKM.out HLE.out.1 HLE.out.2.1 HLE.out.2.2.1 (Below.trans (by repeat' (first | with_reducible exact HBZ.out | with_reducible refine dal ?_ ?_ | with_reducible refine ddr ?_ | omega | (simp; omega))) ((nil_below hg).mono (Nat.succ_le_of_lt HV.out.rz.xb.lt)))); have HP := Lib.hid (HV.out.a1 hown (nil_below hg)); have hyl := HP.out.rz.xb.lt; obtain ⟨A1, c1, rfl⟩ := own_form hown; have HSK := Lib.hid (fun W' (hb : Below (y + 1) w6 W') => k9n_of HAB.out (k9m_below HKM.out HLE.out.1 HLE.out.2.1 HLE.out.2.2.1 hb)); have HSS := Lib.hid (fun W' v (hb : Below (y + 1) w6 W') => k9n_of HAB.out (k9m_set (k9m_below HKM.out HLE.out.1 HLE.out.2.1 HLE.out.2.2.1 hb) HLE.out.2.2.2.1 HLE.out.2.2.2.2.1 HLE.out.2.2.2.2.2 v)); have HBZ := Lib.hid (Below.refl (y + 1) w6); clear HV hown hg hat)
              | ((first | (have HV := Lib.hid HP.out; with_reducible refine at_rm HV.out ?_) | (have HV := Lib.hid (HP.out.b1 44); with_reducible refine at_rm HV.out ?_) | (have HV := Lib.hid (HP0.out.b1 44).drew; with_reducible refine at_rm HV.out ?_)); refine step_append_rd _ (by rfl) _ _ _ (by rfl) (r + 1) 44 i0 _ 3 24 Try.underlying38 HI.out HY.out.1 HY.out.2.1 HY.out.2.2 rfl (by omega) (.slice A1 i c1) i (scs (d.l.take i)) (by rfl) (HV.out.fa _ rfl).1 _ _ 1 1 (scs (s1m M N e)) (by rfl) (HV.out.fb _ rfl) (scs_one _) (by have := HI9.out; unfold maxLen; omega) (by have := HI9.out; omega) (Nat.succ_le_of_lt HV.out.rz.ab.rb.lt) ?_; intro v w6 hown hg hat; have HKM := Lib.hid (HV.out.k9g (k9m_below HKM.out HLE.out.1 HLE.out.2.1 HLE.out.2.2.1 (by repeat' (first | with_reducible exact HBZ.out | with_reducible refine dal ?_ ?_ | with_reducible refine ddr ?_ | omega | (simp; omega)))) hby hg); have hyl := Nat.lt_of_lt_of_le HV.out.rz.xb.lt hg.size; have HSK := Lib.hid (fun W' (hb : Below (y + 1) w6 W') => k9n_of HAB.out (k9m_below HKM.out HLE.out.1 HLE.out.2.1 HLE.out.2.2.1 hb)); have HSS := Lib.hid (fun W' v (hb : Below (y + 1) w6 W') => k9n_of HAB.out (k9m_set (k9m_below HKM.out HLE.out.1 HLE.out.2.1 HLE.out.2.2.1 hb) HLE.out.2.2.2.1 HLE.out.2.2.2.2.1 HLE.out.2.2.2.2.2 v)); have HBZ := Lib.hid (Below.refl (y + 1) w6); obtain ⟨A3, c3, rfl, ⟨b1, f2, byl⟩, hrz⟩ := HV.out.app2 (by have := HI9.out; omega) hown hg hat; have HRZ := Lib.hid hrz; clear HV hown hg hat hrz))
          all_goals
            go_wp2_with fail
            go_meet
            exact ⟨rfl, A3, c3, HRZ⟩
        case rest =>
          obtain ⟨rfl, A3, c3, HRZ⟩ := hcut
          generalize wc = w5 at *
          go_upto_region 27 with (fail)
          obtain ⟨L1, hL1⟩ : ∃ L1, L1 = d.l.take i ++ s1m M N e := ⟨_, rfl⟩
          have HL1 := Lib.hid (show L1.length = i + 1 from by rw [hL1]; have := HI9.out; simp [s1m]; omega)
          have HME := Lib.hid (show meL d.l i e = L1 ++ d.l.drop (i + 2) from by rw [HME.out, ← hL1, HF1.out])
          rw [← hL1] at HRZ
          have HD := Lib.hid (HRZ.out.below (Below.refl _ _).drew)
          obtain ⟨x0, x1, x2, -, xl⟩ := HRZ.out.ab.da.db
          obtain ⟨z0, z1, z2, zf, zl⟩ := HRZ.out.xb
          have zf1 := zf 1
          have hwi2 : IntKind.i64.wrap ((i : Int) + 2) = (i : Int) + 2 := IntWalk.i64_in _ (by have := HI9.out; omega)
          have hlc := HRZ.out.ab.da.dr.pl.len
          have hk1 : i + 2 ≤ d.l.length := by have := HI9.out; omega
          have hk1I : (i : Int) + 2 ≤ (d.l.length : Int) := by omega
          have hk2 : i + 2 ≤ X.c := by omega
          have hk2I : (i : Int) + 2 ≤ (X.c : Int) := by omega
          have HFR := Lib.hid (fun W (k : Ab w p q r d X e W) => (k.da.dr.pl.from hk1))
          have hk0 : (0 : Int) ≤ (i : Int) + 2 := by omega
          dsimp only at z1
          clear hL1 x0 x2 z0 z2 zf hlc
          go_cut [10] (fun s10 wx => s10 = .pointer (some ⟨y, 0, none⟩) ∧ ∃ A c, Hid (Rz w p q r y d X e (L1 ++ d.l.drop (i + 2)) d.F ⟨A, c, A2, c2⟩ wx))
          case first =>
            go_region_law (refine step_append_rd _ (by rfl) _ _ _ (by rfl) (r + 1) 44 i0 _ 3 24 Try.underlying38 HI.out HY.out.1 HY.out.2.1 HY.out.2.2 rfl (by omega) (.slice A3 L1.length c3) L1.length (scs L1) (by rfl) HD.out.ol _ _ (d.l.length - (i + 2)) _ (scs (d.l.drop (i + 2))) (by rfl) (HFR.out _ HD.out.ab).rd (scs_one _) (by have := HI9.out; have := HL1.out; unfold maxLen; omega) (by have := HI9.out; have := HL1.out; omega) (Nat.succ_le_of_lt HD.out.ab.rb.lt) ?_; intro v w6 hown hg hat; obtain ⟨A4, c4, rfl, ⟨b1, f2, byl⟩, hrz⟩ := HD.out.app (m := d.l.drop (i + 2)) (by rw [List.length_drop]; exact hown) hg hat; rw [List.length_drop] at hrz; have HRZ2 := Lib.hid hrz; clear hown hg hat hrz)
            all_goals
              go_wp2_with fail
              all_goals
                go_meet
                exact ⟨rfl, A4, c4, HRZ2⟩
          case rest =>
            clear HD HRZ x1 xl z1 zl zf1
            obtain ⟨rfl, A4, c4, HRZ⟩ := hcut
            generalize wc = w7 at *
            obtain ⟨LL, hLL⟩ : ∃ LL, LL = L1 ++ d.l.drop (i + 2) := ⟨_, rfl⟩
            rw [← hLL] at HRZ HME
            clear hLL
            obtain ⟨t, ht⟩ : ∃ t : Nat, e.fr = t := ⟨e.fr.toNat, by omega⟩
            have htn : t < d.F.length := by omega
            have htn' : (t : Int) < (d.F.length : Int) := by omega
            obtain ⟨g2, hg2⟩ := own_addr HRZ.out.of (by omega)
            dsimp only at hg2
            subst hg2
            have HO0 := (HRZ.out.setF (g := g2) rfl t e.to).out 0
            have hls : (d.F.set t e.to).length = d.F.length := List.length_set ..
            dsimp only [dv] at HO0
            rw [hls] at HO0
            have HO := Lib.hid HO0
            obtain ⟨hg2y, hrg2, hry⟩ : g2 ≠ y ∧ r ≠ g2 ∧ r ≠ y := ⟨HRZ.out.d3 g2 rfl, by have := (HRZ.out.of.lt g2 rfl).1; omega, by have := HRZ.out.ry; omega⟩
            have hyg2 : ¬ y = g2 := fun e => hg2y e.symm
            have hg2r : ¬ g2 = r := fun e => hrg2 e.symm
            have hyr : ¬ y = r := fun e => hry e.symm
            have HRF := Lib.hid (show x = 0 ∧ R = Dd.mk (d.vn + 1) LL (d.F.set t e.to) from ⟨HRE.out.1, by rw [HRE.out.2, HME.out, ht]; rfl⟩)
            obtain ⟨z0, z1, z2, zf, zl⟩ := HRZ.out.xb
            obtain ⟨y0, y1, y2, y3, yl⟩ := HRZ.out.ab.eb
            obtain ⟨⟨r0, r1, r2, rl⟩, g0, g1, g3⟩ := HRZ.out.ab.rb.all
            rw [ht] at y1
            dsimp only at z0 z1 z2
            obtain ⟨b', o', hA', -, hc'⟩ := (Fl.of_own HRZ.out.of).atg htn
            injection hA' with hA'
            injection hA' with hA1 hA2
            subst hA1 hA2
            rw [Nat.zero_add] at hc'
            have hfro := HRZ.out.of.frozenAt t
            have hgl := (HRZ.out.of.lt g2 rfl).2
            clear HO0 hls hg2y hg2r
            go_wp2
            exact bodyPost_ret (v := .tuple #[.agg #[.int .i64 (d.vn + 1), .slice A4 LL.length c4, .slice (some ⟨g2, 0, none⟩) d.F.length c2], .int .i64 0]) (by simp only [results, Try.results22]; go_simp <;> rfl) rfl (by rw [HRF.out.1, HRF.out.2]; exact HO.out)

end Go.Proofs.Ytkecnihgjepfeaa
namespace Go.Proofs.Ytkecnihgjepfeaa
open Go.RowKit
set_option linter.unusedVariables false

set_option maxHeartbeats 16000000 in
set_option maxRecDepth 20000 in
theorem rap_me2 (d : Dd) (X : Dx) (e : Ed) (w : World) (hd : DR w w.heap.size d X) (hl : d.l.length ≤ 90) (hv : vaD d = 0) (h6 : d.vn ≠ 1099511627776) (hk : e.kd = 2) (hs : slotP d.F.length e.fr ∧ slotP d.F.length e.to) (hcs : ¬ ixS d.l e.fr - ixS d.l e.to = 1) :
    Calls Try.prog 22 #[dv d X, e.v] w (DE w.heap.size w (apD d e) (apE d e)) := by
  have HCS := Lib.hid hcs
  clear hcs
  have H0 := Lib.hid (Ab.start d X e hd)
  have HVA := Lib.hid (fun p q r W (k : Ab w p q r d X e W) => rvalid10_any d X W k.da.dr)
  have HHL := Lib.hid hl
  obtain ⟨p, hp⟩ : ∃ p, p = w.heap.size := ⟨_, rfl⟩
  obtain ⟨q, hq⟩ : ∃ q, q = w.heap.size + 1 := ⟨_, rfl⟩
  obtain ⟨r, hr⟩ : ∃ r, r = w.heap.size + 1 + 1 := ⟨_, rfl⟩
  have HPP := Lib.hid (show (p = w.heap.size ∧ q = w.heap.size + 1 ∧ r = w.heap.size + 1 + 1) ∧ (¬ p = q ∧ ¬ q = p ∧ ¬ p = r ∧ ¬ r = p ∧ ¬ q = r ∧ ¬ r = q) by omega)
  obtain ⟨R, hR⟩ : ∃ R, R = apD d e := ⟨_, rfl⟩
  obtain ⟨x, hx⟩ : ∃ x, x = apE d e := ⟨_, rfl⟩
  rw [← hR, ← hx]
  have HRX := Lib.hid (And.intro hR hx)
  clear hR hx hp hq hr hd hl
  rw [hv] at HVA
  have h6' : (d.vn == 1099511627776) = false := by simpa using h6
  have HOK := Lib.hid (ok_va hv)
  have HAN := Lib.hid (apN_0 hv h6 (.inr hk) hs.1 hs.2)
  have HSL := Lib.hid hs
  obtain ⟨⟨s0, s1⟩, s2, s3⟩ := hs
  clear h6
  have HEX := Lib.hid (show x = meE d e ∧ R = if meE d e = 0 then Dd.mk (d.vn + 1) (meL d.l (min (ixS d.l e.fr) (ixS d.l e.to)).toNat e) (d.F.set e.fr.toNat e.to) else zD10 from by
    have h7 : apE d e = meE d e := apE_2 HAN.out hk
    refine ⟨HRX.out.2.trans h7, ?_⟩
    rw [HRX.out.1]
    by_cases h8 : meE d e = 0
    · rw [if_pos h8, apD_2 (by rw [h7]; exact h8) hk]; rfl
    · rw [if_neg h8, apD_no (by rw [h7]; exact h8)])
  have k1 : (e.kd != 1) = true := by rw [hk]; decide
  have k2 : (e.kd != 2) = false := by simpa using hk
  have k3 : (e.kd == 1) = false := by rw [hk]; decide
  clear hv hk
  go_enter Try.func22, Try.ntmps22
  go_wp2_with fail
  have H0 := Lib.hid (show Ab w p q r d X e (((w.alloc (.cells #[.int .i64 d.vn, .slice X.A d.l.length X.c, .slice X.A2 d.F.length X.c2] 40)).alloc (.cells #[.int .i64 e.kd, .int .i64 e.fr, .int .i64 e.to, .int .i64 e.md] 55)).alloc (.cells #[.int .i64 0, .slice none 0 0, .slice none 0 0] 40)) from by rw [HPP.out.1.1, HPP.out.1.2.1, HPP.out.1.2.2]; exact H0.out)
  rw [← HPP.out.1.2.2, ← HPP.out.1.2.1, ← HPP.out.1.1]
  generalize ((w.alloc (.cells #[.int .i64 d.vn, .slice X.A d.l.length X.c, .slice X.A2 d.F.length X.c2] 40)).alloc (.cells #[.int .i64 e.kd, .int .i64 e.fr, .int .i64 e.to, .int .i64 e.md] 55)).alloc (.cells #[.int .i64 0, .slice none 0 0, .slice none 0 0] 40) = w0 at *
  refine (HVA.out _ _ _ _ H0.out).mono ?_
  rintro e1 w1 ⟨rfl, hb⟩
  have H1 := Lib.hid (H0.out.below hb)
  clear hb H0 HVA
  obtain ⟨x0, x1, x2, -, xl⟩ := H1.out.da.db
  obtain ⟨y0, y1, y2, y3, yl⟩ := H1.out.eb
  have HI1 := Lib.hid (fun W (k : Ab w p q r d X e W) => rindex10_any d X e.fr W k.da.dr)
  have HI2 := Lib.hid (fun W (k : Ab w p q r d X e W) => rindex10_any d X e.to W k.da.dr)
  go_upto_region 11 with (fail)
  clear x0 x1 x2 xl y0 y1 y2 y3 yl
  go_cut [8, 9] (fun s8 s9 wx => s8 = .int .i64 (ixS d.l e.fr) ∧ s9 = .int .i64 (ixS d.l e.to) ∧ Hid (Ab w p q r d X e wx))
  case first =>
    have HK0 := Lib.hid H1.out.k5
    have HP := Lib.hid (H1.out.below (Below.refl _ _).drew)
    have HK := Lib.hid HP.out.k5
    clear H1
    go_region_held3 (fun W => K5 p q d X e W)
      (first | with_reducible exact HK.out | with_reducible exact HK0.out)
      (first
        | (go_at_call 25; (with_reducible refine (HI1.out _ HP.out).mono ?_); rintro e1 w1 ⟨rfl, hb⟩; have HP := Lib.hid (HP.out.below hb); have HK := Lib.hid HP.out.k5; clear hb)
        | (go_at_call 25; (with_reducible refine (HI2.out _ HP.out).mono ?_); rintro e1 w1 ⟨rfl, hb⟩; have HP := Lib.hid (HP.out.below hb); have HK := Lib.hid HP.out.k5; clear hb))
    all_goals
      go_wp2_with fail
      go_meet
      exact ⟨rfl, rfl, HP⟩
  case rest =>
    obtain ⟨rfl, rfl, H2⟩ := hcut
    generalize wc = w2 at *
    go_upto_region 12 with (fail)
    have HP0 := Lib.hid (show Nx w p q r d X e none none none w2 from Nx.start H2.out)
    have HP := Lib.hid HP0.out.drew
    have hwv : wrap64 (d.vn + 1) = d.vn + 1 := IntWalk.wrap64_in _ (by have := HOK.out.rg.1; omega)
    have hwv2 : IntKind.i64.wrap (d.vn + 1) = d.vn + 1 := IntWalk.i64_in _ (by have := HOK.out.rg.1; omega)
    obtain ⟨j0, hi0, hz0⟩ := Option.map_eq_some_iff.1 info_ni
    simp only [Prod.mk.injEq] at hz0
    have HJ := Lib.hid hi0
    have HY := Lib.hid hz0
    clear hi0 hz0
    go_cut [10] (fun s10 wx => ∃ (y : Nat) (A2 : Option Addr) (c2 : Nat), s10 = .pointer (some ⟨y, 0, none⟩) ∧ Hid (Rz w p q r y d X e [] d.F ⟨none, 0, A2, c2⟩ wx))
    case first =>
      have HSK := Lib.hid (fun W' (hb : Below (p + 1) w2 W') => H2.out.k3 hb)
      have HBZ := Lib.hid (Below.refl (p + 1) w2)
      have hpl := H2.out.da.db.lt
      go_region_held3 (fun W => K3 p d X W)
        ((refine HSK.out _ ?_; repeat' (first | with_reducible exact HBZ.out | with_reducible refine dal ?_ ?_ | with_reducible refine dst ?_ ?_ | with_reducible refine ddr ?_ | omega | (simp; omega))))
        (first
          | ((first | (have HV := Lib.hid HP.out; with_reducible refine at_world HV.out ?_) | (have HV := Lib.hid (HP.out.ax 40); with_reducible refine at_world HV.out ?_) | (have HV := Lib.hid (HP0.out.ax 40).drew; with_reducible refine at_world HV.out ?_)); refine step_append_rd _ (by rfl) _ _ _ (by rfl) _ 3 j0 _ 1 8 Try.underlying24 HJ.out HY.out.1 HY.out.2.1 HY.out.2.2 rfl (by omega) (.slice none 0 0) 0 [] (by rfl) (World.ownsRow_nil _ _ _ _) _ X.A2 d.F.length X.c2 (ics d.F) (by rfl) HV.out.ab.da.dr.fl.rd (ics_one _) (by have := HOK.out.rg.2; unfold maxLen; omega) (by have := HOK.out.rg.2; omega) (Nat.le_refl _) ?_; intro v w3 hown hg hat; rw [Nat.zero_add, List.nil_append] at hown; obtain ⟨A2, c2, rfl⟩ := own_form hown; have HP := Lib.hid (HV.out.cf hown (nil_below hg)); have HSK := Lib.hid (fun W' (hb : Below (p + 1) w3 W') => HP.out.ab.k3 hb); have HBZ := Lib.hid (Below.refl (p + 1) w3); have hpl := HP.out.ab.da.db.lt; (try (obtain ⟨⟨b0, b1, b2, bl⟩, g0, g1, g2⟩ := HP.out.xf.1.all; have hxr := HP.out.xf.2; have hrq := HP.out.ab.ne)); clear HV hown hg hat))
      all_goals
        go_wp2_with fail
        go_meet
        (try rw [hwv2])
        first
        | exact ⟨_, A2, c2, rfl, Lib.hid (rz_1 HP.out 40)⟩
        | exact ⟨_, A2, c2, rfl, Lib.hid (rz_2 HP.out)⟩
    case rest =>
      obtain ⟨y, A2, c2, rfl, HZ⟩ := hcut
      generalize wc = w3 at *
      clear HP0 HP H2 HJ HY
      have HGE := Lib.hid (And.intro (ixS_ge d.l e.fr) (ixS_ge d.l e.to))
      by_cases hA : (ixS d.l e.fr < 0 ∨ ixS d.l e.to < 0) ∨ (ixS d.l e.fr - ixS d.l e.to ≠ 1 ∧ ixS d.l e.to - ixS d.l e.fr ≠ 1)
      · have HRE := Lib.hid (show x = 7 ∧ R = zD10 from ⟨HEX.out.1.trans (meE_7 hA), by rw [HEX.out.2, if_neg (by rw [meE_7 hA]; decide)]⟩)
        have hg1 := HGE.out
        have hll := HHL.out
        generalize ixS d.l e.fr = i1 at *
        generalize ixS d.l e.to = i2 at *
        have hd1 : IntKind.i64.wrap (i1 - i2) = i1 - i2 := IntWalk.i64_in _ (by omega)
        have hd2 : IntKind.i64.wrap (i2 - i1) = i2 - i1 := IntWalk.i64_in _ (by omega)
        have hw : i1 < 0 ∨ (0 ≤ i1 ∧ i2 < 0) ∨ (0 ≤ i1 ∧ 0 ≤ i2 ∧ (i1 - i2 != 1) = true ∧ (i2 - i1 != 1) = true) := by
          by_cases q1 : i1 < 0
          · exact .inl q1
          · by_cases q2 : i2 < 0
            · exact .inr (.inl ⟨by omega, q2⟩)
            · exact .inr (.inr ⟨by omega, by omega, bne_iff_ne.2 (by omega), bne_iff_ne.2 (by omega)⟩)
        clear hA HEX hg1 hll HGE
        rcases hw with u1 | ⟨u1, u2⟩ | ⟨u1, u2, u3, u4⟩
        all_goals
          obtain ⟨⟨r0, r1, r2, rl⟩, g0, g1, g2⟩ := HZ.out.ab.rb.all
          obtain ⟨y0, y1, y2, y3, yl⟩ := HZ.out.ab.eb
          have HO := Lib.hid (HZ.out.ab.out0 7)
          go_wp2
          exact bodyPost_ret (v := .tuple #[.agg #[.int .i64 0, .slice none 0 0, .slice none 0 0], .int .i64 7]) (by simp only [results, Try.results22]; go_simp <;> rfl) rfl (by rw [HRE.out.1, HRE.out.2]; exact HO.out)
      · have hfr : 0 ≤ ixS d.l e.fr := by omega
        have hto : 0 ≤ ixS d.l e.to := by omega
        have h10 : meE d e = 0 := meE_0 hfr hto (by omega)
        obtain ⟨i, hi, hil⟩ : ∃ i : Nat, min (ixS d.l e.fr) (ixS d.l e.to) = i ∧ i + 1 < d.l.length := ⟨(min (ixS d.l e.fr) (ixS d.l e.to)).toNat, by omega, by have := HGE.out; omega⟩
        have HRE := Lib.hid (show x = 0 ∧ R = Dd.mk (d.vn + 1) (meL d.l i e) (d.F.set e.fr.toNat e.to) from by
          have h8 : (min (ixS d.l e.fr) (ixS d.l e.to)).toNat = i := by rw [hi]; rfl
          exact ⟨HEX.out.1.trans h10, by rw [HEX.out.2, if_pos h10, h8]⟩)
        have hg1 := HGE.out
        have hll := HHL.out
        have hdd : ixS d.l e.fr - ixS d.l e.to = 1 ∨ (¬ ixS d.l e.fr - ixS d.l e.to = 1 ∧ ixS d.l e.to - ixS d.l e.fr = 1) := by omega
        clear hA HEX h10 HGE
        generalize ixS d.l e.fr = i1 at *
        generalize ixS d.l e.to = i2 at *
        have hd1 : IntKind.i64.wrap (i1 - i2) = i1 - i2 := IntWalk.i64_in _ (by omega)
        have hd2 : IntKind.i64.wrap (i2 - i1) = i2 - i1 := IntWalk.i64_in _ (by omega)
        have hdb : (i1 - i2 != 1) = true := bne_iff_ne.2 HCS.out
        have hdb2 : (i2 - i1 != 1) = false := by
          have h : ¬ i1 - i2 = 1 := HCS.out
          have h2 : i2 - i1 = 1 := by omega
          rw [h2]; rfl
        clear hdd hg1 hll
        obtain ⟨f1, hf1⟩ : ∃ f1, f1 = i + 1 := ⟨_, rfl⟩
        have hil1 : i < d.l.length := by omega
        have hf1l : f1 < d.l.length := by omega
        obtain ⟨b, o, hAb, hbl, c0, -, -⟩ := HZ.out.ab.da.dr.pl.atg hil1
        obtain ⟨b', o', hAb', -, -, c1, -⟩ := HZ.out.ab.da.dr.pl.atg hf1l
        rw [hAb] at hAb'
        injection hAb' with hAb'
        injection hAb' with hb1 hb2
        subst hb1 hb2
        have HME := Lib.hid (show meL d.l i e = (d.l.take i ++ s1m (sg d.l i) (sg d.l f1) e) ++ d.l.drop (f1 + 1) by rw [hf1]; simp [meL, s1m])
        have hwi : IntKind.i64.wrap ((i : Int) + 1) = (f1 : Int) := by rw [IntWalk.i64_in _ (by have := HHL.out; omega), hf1]; rfl
        have hbp : b < w.heap.size := by
          apply Classical.byContradiction
          intro h
          exact (HZ.out.ab.of b (by omega)).o1 _ hAb (by omega) rfl
        have hnn := HZ.out.ab.ne
        have hry := HZ.out.ry
        have HLE := Lib.hid (show p ≤ y ∧ q ≤ y ∧ b ≤ y ∧ p ≠ y ∧ q ≠ y ∧ b ≠ y by omega)
        have hby : b < y := by omega
        have HAB := Lib.hid hAb
        have HF1 := Lib.hid hf1
        have hi0 : (0 : Int) ≤ (i : Int) := by omega
        have hilI : (i : Int) < (d.l.length : Int) := by omega
        have hf0 : (0 : Int) ≤ (f1 : Int) := by omega
        have hflI : (f1 : Int) < (d.l.length : Int) := by omega
        have hlc := HZ.out.ab.da.dr.pl.len
        have hic : i ≤ X.c := by omega
        have hicI : (i : Int) ≤ (X.c : Int) := by omega
        have HI9 := Lib.hid (show i + 1 < d.l.length ∧ d.l.length ≤ 90 from ⟨hil, HHL.out⟩)
        have HPU := Lib.hid (fun W (k : Ab w p q r d X e W) => (k.da.dr.pl.upto (Nat.le_of_lt hil1)))
        generalize sg d.l i = M at *
        generalize sg d.l f1 = N at *
        have HKM3 := Lib.hid (show K9m p q b (o + i * 3) (o + f1 * 3 + 1) d X e M N w3 from ⟨HZ.out.ab.da.k, HZ.out.ab.eb.c1, HZ.out.ab.eb.c2, c0, c1⟩)
        have HP0 := Lib.hid (show Rm w p q r y d X e d.F ⟨none, 0, A2, c2⟩ i M N none none w3 from ⟨HZ.out, by simp, by simp⟩)
        have HP := Lib.hid HP0.out.drew
        obtain ⟨i0, hi0', hz0⟩ := Option.map_eq_some_iff.1 info_sp
        simp only [Prod.mk.injEq] at hz0
        have HI := Lib.hid hi0'
        have HY := Lib.hid hz0
        clear hi0' hz0 hlc c0 c1 hbl hbp hnn hry hAb hf1 hil hfr hto
        obtain ⟨y0, y1, y2, y3, yl⟩ := HZ.out.ab.eb
        go_upto_region 26 with (fail)
        clear hd1 hd2 hi y0 y1 y2 y3 yl
        go_cut [10] (fun s10 wx => s10 = .pointer (some ⟨y, 0, none⟩) ∧ ∃ A c, Hid (Rz w p q r y d X e (d.l.take i ++ s1m M N e) d.F ⟨A, c, A2, c2⟩ wx))
        case first =>
          have HKM := HKM3
          have HSK := Lib.hid (fun W' (hb : Below (y + 1) w3 W') => k9n_of HAB.out (k9m_below HKM.out HLE.out.1 HLE.out.2.1 HLE.out.2.2.1 hb))
          have HSS := Lib.hid (fun W' v (hb : Below (y + 1) w3 W') => k9n_of HAB.out (k9m_set (k9m_below HKM.out HLE.out.1 HLE.out.2.1 HLE.out.2.2.1 hb) HLE.out.2.2.2.1 HLE.out.2.2.2.2.1 HLE.out.2.2.2.2.2 v))
          have HBZ := Lib.hid (Below.refl (y + 1) w3)
          have hyl := HP0.out.rz.xb.lt
          go_region_held3 (fun W => K9n p q b (o + i * 3) (o + f1 * 3 + 1) (some ⟨b, o, none⟩) d X e M N W)
            (first | (with_reducible refine HSS.out _ _ ?_; repeat' (first | with_reducible exact HBZ.out | with_reducible refine dal ?_ ?_ | with_reducible refine ddr ?_ | omega | (simp; omega))) | (refine HSK.out _ ?_; repeat' (first | with_reducible exact HBZ.out | with_reducible refine dal ?_ ?_ | with_reducible refine ddr ?_ | omega | (simp; omega))))
            (first
              | ((first | (have HV := Lib.hid HP.out; with_reducible refine at_rm HV.out ?_) | (have HV := Lib.hid (HP.out.b1 44); with_reducible refine at_rm HV.out ?_) | (have HV := Lib.hid (HP0.out.b1 44).drew; with_reducible refine at_rm HV.out ?_)); refine step_append_rd _ (by rfl) _ _ _ (by rfl) _ 44 i0 _ 3 24 Try.underlying38 HI.out HY.out.1 HY.out.2.1 HY.out.2.2 rfl (by omega) (.slice none 0 0) 0 [] (by rfl) (World.ownsRow_nil _ _ _ _) _ (some ⟨b, o, none⟩) i X.c (scs (d.l.take i)) (by rfl) (by rw [← HAB.out]; exact (HPU.out _ HV.out.rz.ab).rd) (scs_one _) (by have := HI9.out; unfold maxLen; omega) (by have := HI9.out; omega) (Nat.le_refl _) ?_; intro v w6 hown hg hat; rw [Nat.zero_add, List.nil_append] at hown; have HKM := Lib.hid (k9m_below HKM.out HLE.out.1 HLE.out.2.1 HLE.out.2.2.1 (Below.trans (by repeat' (first | with_reducible exact HBZ.out | with_reducible refine dal ?_ ?_ | with_reducible refine ddr ?_ | omega | (simp; omega))) ((nil_below hg).mono (Nat.succ_le_of_lt HV.out.rz.xb.lt)))); have HP := Lib.hid (HV.out.a1 hown (nil_below hg)); have hyl := HP.out.rz.xb.lt; obtain ⟨A1, c1, rfl⟩ := own_form hown; have HSK := Lib.hid (fun W' (hb : Below (y + 1) w6 W') => k9n_of HAB.out (k9m_below HKM.out HLE.out.1 HLE.out.2.1 HLE.out.2.2.1 hb)); have HSS := Lib.hid (fun W' v (hb : Below (y + 1) w6 W') => k9n_of HAB.out (k9m_set (k9m_below HKM.out HLE.out.1 HLE.out.2.1 HLE.out.2.2.1 hb) HLE.out.2.2.2.1 HLE.out.2.2.2.2.1 HLE.out.2.2.2.2.2 v)); have HBZ := Lib.hid (Below.refl (y + 1) w6); clear HV hown hg hat)
              | ((first | (have HV := Lib.hid HP.out; with_reducible refine at_rm HV.out ?_) | (have HV := Lib.hid (HP.out.b1 44); with_reducible refine at_rm HV.out ?_) | (have HV := Lib.hid (HP0.out.b1 44).drew; with_reducible refine at_rm HV.out ?_)); refine step_append_rd _ (by rfl) _ _ _ (by rfl) (r + 1) 44 i0 _ 3 24 Try.underlying38 HI.out HY.out.1 HY.out.2.1 HY.out.2.2 rfl (by omega) (.slice A1 i c1) i (scs (d.l.take i)) (by rfl) (HV.out.fa _ rfl).1 _ _ 1 1 (scs (s1m M N e)) (by rfl) (HV.out.fb _ rfl) (scs_one _) (by have := HI9.out; unfold maxLen; omega) (by have := HI9.out; omega) (Nat.succ_le_of_lt HV.out.rz.ab.rb.lt) ?_; intro v w6 hown hg hat; have HKM := Lib.hid (HV.out.k9g (k9m_below HKM.out HLE.out.1 HLE.out.2.1 HLE.out.2.2.1 (by repeat' (first | with_reducible exact HBZ.out | with_reducible refine dal ?_ ?_ | with_reducible refine ddr ?_ | omega | (simp; omega)))) hby hg); have hyl := Nat.lt_of_lt_of_le HV.out.rz.xb.lt hg.size; have HSK := Lib.hid (fun W' (hb : Below (y + 1) w6 W') => k9n_of HAB.out (k9m_below HKM.out HLE.out.1 HLE.out.2.1 HLE.out.2.2.1 hb)); have HSS := Lib.hid (fun W' v (hb : Below (y + 1) w6 W') => k9n_of HAB.out (k9m_set (k9m_below HKM.out HLE.out.1 HLE.out.2.1 HLE.out.2.2.1 hb) HLE.out.2.2.2.1 HLE.out.2.2.2.2.1 HLE.out.2.2.2.2.2 v)); have HBZ := Lib.hid (Below.refl (y + 1) w6); obtain ⟨A3, c3, rfl, ⟨b1, f2, byl⟩, hrz⟩ := HV.out.app2 (by have := HI9.out; omega) hown hg hat; have HRZ := Lib.hid hrz; clear HV hown hg hat hrz))
          all_goals
            go_wp2_with fail
            go_meet
            exact ⟨rfl, A3, c3, HRZ⟩
        case rest =>
          obtain ⟨rfl, A3, c3, HRZ⟩ := hcut
          generalize wc = w5 at *
          go_upto_region 27 with (fail)
          obtain ⟨L1, hL1⟩ : ∃ L1, L1 = d.l.take i ++ s1m M N e := ⟨_, rfl⟩
          have HL1 := Lib.hid (show L1.length = i + 1 from by rw [hL1]; have := HI9.out; simp [s1m]; omega)
          have HME := Lib.hid (show meL d.l i e = L1 ++ d.l.drop (i + 2) from by rw [HME.out, ← hL1, HF1.out])
          rw [← hL1] at HRZ
          have HD := Lib.hid (HRZ.out.below (Below.refl _ _).drew)
          obtain ⟨x0, x1, x2, -, xl⟩ := HRZ.out.ab.da.db
          obtain ⟨z0, z1, z2, zf, zl⟩ := HRZ.out.xb
          have zf1 := zf 1
          have hwi2 : IntKind.i64.wrap ((i : Int) + 2) = (i : Int) + 2 := IntWalk.i64_in _ (by have := HI9.out; omega)
          have hlc := HRZ.out.ab.da.dr.pl.len
          have hk1 : i + 2 ≤ d.l.length := by have := HI9.out; omega
          have hk1I : (i : Int) + 2 ≤ (d.l.length : Int) := by omega
          have hk2 : i + 2 ≤ X.c := by omega
          have hk2I : (i : Int) + 2 ≤ (X.c : Int) := by omega
          have HFR := Lib.hid (fun W (k : Ab w p q r d X e W) => (k.da.dr.pl.from hk1))
          have hk0 : (0 : Int) ≤ (i : Int) + 2 := by omega
          dsimp only at z1
          clear hL1 x0 x2 z0 z2 zf hlc
          go_cut [10] (fun s10 wx => s10 = .pointer (some ⟨y, 0, none⟩) ∧ ∃ A c, Hid (Rz w p q r y d X e (L1 ++ d.l.drop (i + 2)) d.F ⟨A, c, A2, c2⟩ wx))
          case first =>
            go_region_law (refine step_append_rd _ (by rfl) _ _ _ (by rfl) (r + 1) 44 i0 _ 3 24 Try.underlying38 HI.out HY.out.1 HY.out.2.1 HY.out.2.2 rfl (by omega) (.slice A3 L1.length c3) L1.length (scs L1) (by rfl) HD.out.ol _ _ (d.l.length - (i + 2)) _ (scs (d.l.drop (i + 2))) (by rfl) (HFR.out _ HD.out.ab).rd (scs_one _) (by have := HI9.out; have := HL1.out; unfold maxLen; omega) (by have := HI9.out; have := HL1.out; omega) (Nat.succ_le_of_lt HD.out.ab.rb.lt) ?_; intro v w6 hown hg hat; obtain ⟨A4, c4, rfl, ⟨b1, f2, byl⟩, hrz⟩ := HD.out.app (m := d.l.drop (i + 2)) (by rw [List.length_drop]; exact hown) hg hat; rw [List.length_drop] at hrz; have HRZ2 := Lib.hid hrz; clear hown hg hat hrz)
            all_goals
              go_wp2_with fail
              all_goals
                go_meet
                exact ⟨rfl, A4, c4, HRZ2⟩
          case rest =>
            clear HD HRZ x1 xl z1 zl zf1
            obtain ⟨rfl, A4, c4, HRZ⟩ := hcut
            generalize wc = w7 at *
            obtain ⟨LL, hLL⟩ : ∃ LL, LL = L1 ++ d.l.drop (i + 2) := ⟨_, rfl⟩
            rw [← hLL] at HRZ HME
            clear hLL
            obtain ⟨t, ht⟩ : ∃ t : Nat, e.fr = t := ⟨e.fr.toNat, by omega⟩
            have htn : t < d.F.length := by omega
            have htn' : (t : Int) < (d.F.length : Int) := by omega
            obtain ⟨g2, hg2⟩ := own_addr HRZ.out.of (by omega)
            dsimp only at hg2
            subst hg2
            have HO0 := (HRZ.out.setF (g := g2) rfl t e.to).out 0
            have hls : (d.F.set t e.to).length = d.F.length := List.length_set ..
            dsimp only [dv] at HO0
            rw [hls] at HO0
            have HO := Lib.hid HO0
            obtain ⟨hg2y, hrg2, hry⟩ : g2 ≠ y ∧ r ≠ g2 ∧ r ≠ y := ⟨HRZ.out.d3 g2 rfl, by have := (HRZ.out.of.lt g2 rfl).1; omega, by have := HRZ.out.ry; omega⟩
            have hyg2 : ¬ y = g2 := fun e => hg2y e.symm
            have hg2r : ¬ g2 = r := fun e => hrg2 e.symm
            have hyr : ¬ y = r := fun e => hry e.symm
            have HRF := Lib.hid (show x = 0 ∧ R = Dd.mk (d.vn + 1) LL (d.F.set t e.to) from ⟨HRE.out.1, by rw [HRE.out.2, HME.out, ht]; rfl⟩)
            obtain ⟨z0, z1, z2, zf, zl⟩ := HRZ.out.xb
            obtain ⟨y0, y1, y2, y3, yl⟩ := HRZ.out.ab.eb
            obtain ⟨⟨r0, r1, r2, rl⟩, g0, g1, g3⟩ := HRZ.out.ab.rb.all
            rw [ht] at y1
            dsimp only at z0 z1 z2
            obtain ⟨b', o', hA', -, hc'⟩ := (Fl.of_own HRZ.out.of).atg htn
            injection hA' with hA'
            injection hA' with hA1 hA2
            subst hA1 hA2
            rw [Nat.zero_add] at hc'
            have hfro := HRZ.out.of.frozenAt t
            have hgl := (HRZ.out.of.lt g2 rfl).2
            clear HO0 hls hg2y hg2r
            go_wp2
            exact bodyPost_ret (v := .tuple #[.agg #[.int .i64 (d.vn + 1), .slice A4 LL.length c4, .slice (some ⟨g2, 0, none⟩) d.F.length c2], .int .i64 0]) (by simp only [results, Try.results22]; go_simp <;> rfl) rfl (by rw [HRF.out.1, HRF.out.2]; exact HO.out)

end Go.Proofs.Ytkecnihgjepfeaa
namespace Go.Proofs.Ytkecnihgjepfeaa
open Go.RowKit
set_option linter.unusedVariables false

set_option maxHeartbeats 16000000 in
set_option maxRecDepth 20000 in
theorem rapply10_any (d : Dd) (X : Dx) (e : Ed) (w : World) (hd : DR w w.heap.size d X) (hl : d.l.length ≤ 90) :
    Calls Try.prog 22 #[dv d X, e.v] w (DE w.heap.size w (apD d e) (apE d e)) := by
  have H0 := Lib.hid (Ab.start d X e hd)
  have HVA := Lib.hid (fun p q r W (k : Ab w p q r d X e W) => rvalid10_any d X W k.da.dr)
  have HHL := Lib.hid hl
  have HDR := Lib.hid hd
  obtain ⟨p, hp⟩ : ∃ p, p = w.heap.size := ⟨_, rfl⟩
  obtain ⟨q, hq⟩ : ∃ q, q = w.heap.size + 1 := ⟨_, rfl⟩
  obtain ⟨r, hr⟩ : ∃ r, r = w.heap.size + 1 + 1 := ⟨_, rfl⟩
  have HPP := Lib.hid (show (p = w.heap.size ∧ q = w.heap.size + 1 ∧ r = w.heap.size + 1 + 1) ∧ (¬ p = q ∧ ¬ q = p ∧ ¬ p = r ∧ ¬ r = p ∧ ¬ q = r ∧ ¬ r = q) by omega)
  obtain ⟨R, hR⟩ : ∃ R, R = apD d e := ⟨_, rfl⟩
  obtain ⟨x, hx⟩ : ∃ x, x = apE d e := ⟨_, rfl⟩
  rw [← hR, ← hx]
  have HRX := Lib.hid (And.intro hR hx)
  clear hR hx hp hq hr hd hl
  by_cases hv : vaD d = 0
  · rw [hv] at HVA
    by_cases h6 : d.vn = 1099511627776
    · have HRE := Lib.hid (show x = 6 ∧ R = zD10 from by
        have h7 : apE d e = 6 := by rw [apE_N (by rw [apN_6 hv h6]; decide), apN_6 hv h6]
        exact ⟨HRX.out.2.trans h7, by rw [HRX.out.1, apD_no (by rw [h7]; decide)]⟩)
      have h6' : (d.vn == 1099511627776) = true := by simpa using h6
      clear hv h6
      go_enter Try.func22, Try.ntmps22
      go_wp2_with fail
      have H0 := Lib.hid (show Ab w p q r d X e (((w.alloc (.cells #[.int .i64 d.vn, .slice X.A d.l.length X.c, .slice X.A2 d.F.length X.c2] 40)).alloc (.cells #[.int .i64 e.kd, .int .i64 e.fr, .int .i64 e.to, .int .i64 e.md] 55)).alloc (.cells #[.int .i64 0, .slice none 0 0, .slice none 0 0] 40)) from by rw [HPP.out.1.1, HPP.out.1.2.1, HPP.out.1.2.2]; exact H0.out)
      rw [← HPP.out.1.2.2, ← HPP.out.1.2.1, ← HPP.out.1.1]
      generalize ((w.alloc (.cells #[.int .i64 d.vn, .slice X.A d.l.length X.c, .slice X.A2 d.F.length X.c2] 40)).alloc (.cells #[.int .i64 e.kd, .int .i64 e.fr, .int .i64 e.to, .int .i64 e.md] 55)).alloc (.cells #[.int .i64 0, .slice none 0 0, .slice none 0 0] 40) = w0 at *
      refine (HVA.out _ _ _ _ H0.out).mono ?_
      rintro e1 w1 ⟨rfl, hb⟩
      have H1 := Lib.hid (H0.out.below hb)
      clear hb H0 HVA
      obtain ⟨x0, x1, x2, -, xl⟩ := H1.out.da.db
      obtain ⟨y0, y1, y2, y3, yl⟩ := H1.out.eb
      obtain ⟨⟨r0, r1, r2, rl⟩, g0, g1, g2⟩ := H1.out.rb.all
      have HO := Lib.hid (H1.out.out0 6)
      go_wp2
      exact bodyPost_ret (v := .tuple #[.agg #[.int .i64 0, .slice none 0 0, .slice none 0 0], .int .i64 6]) (by simp only [results, Try.results22]; go_simp <;> rfl) rfl (by rw [HRE.out.1, HRE.out.2]; exact HO.out)
    · have h6' : (d.vn == 1099511627776) = false := by simpa using h6
      by_cases hk : e.kd = 1 ∨ e.kd = 2
      · have hkk : (e.kd != 1) = false ∨ ((e.kd != 1) = true ∧ (e.kd != 2) = false) := by
          rcases hk with h | h
          · left; simpa using h
          · right; rw [h]; decide
        by_cases hs : slotP d.F.length e.fr ∧ slotP d.F.length e.to
        · rw [HRX.out.1, HRX.out.2]
          rcases hk with hk | hk
          · exact rap_split d X e w HDR.out HHL.out hv h6 hk hs
          · by_cases hcs : ixS d.l e.fr - ixS d.l e.to = 1
            · exact rap_me1 d X e w HDR.out HHL.out hv h6 hk hs hcs
            · exact rap_me2 d X e w HDR.out HHL.out hv h6 hk hs hcs
        · have HRE := Lib.hid (show x = 4 ∧ R = zD10 from by
            have h7 : apE d e = 4 := by
              have h8 : apN d e = 4 := apN_4 hv h6 hk (by
                by_cases h : slotP d.F.length e.fr
                · exact .inr (fun g => hs ⟨h, g⟩)
                · exact .inl h)
              rw [apE_N (by rw [h8]; decide), h8]
            exact ⟨HRX.out.2.trans h7, by rw [HRX.out.1, apD_no (by rw [h7]; decide)]⟩)
          have hw : e.fr < 0 ∨ (0 ≤ e.fr ∧ (d.F.length : Int) ≤ e.fr) ∨ (0 ≤ e.fr ∧ e.fr < (d.F.length : Int) ∧ e.to < 0) ∨ (0 ≤ e.fr ∧ e.fr < (d.F.length : Int) ∧ 0 ≤ e.to ∧ (d.F.length : Int) ≤ e.to) := by
            unfold slotP at hs
            omega
          clear hv h6 hk hs
          rcases hkk with k1 | ⟨k1, k2⟩
          all_goals
            rcases hw with s1 | ⟨s1, s2⟩ | ⟨s1, s2, s3⟩ | ⟨s1, s2, s3, s4⟩
            all_goals
              go_enter Try.func22, Try.ntmps22
              go_wp2_with fail
              have H0 := Lib.hid (show Ab w p q r d X e (((w.alloc (.cells #[.int .i64 d.vn, .slice X.A d.l.length X.c, .slice X.A2 d.F.length X.c2] 40)).alloc (.cells #[.int .i64 e.kd, .int .i64 e.fr, .int .i64 e.to, .int .i64 e.md] 55)).alloc (.cells #[.int .i64 0, .slice none 0 0, .slice none 0 0] 40)) from by rw [HPP.out.1.1, HPP.out.1.2.1, HPP.out.1.2.2]; exact H0.out)
              rw [← HPP.out.1.2.2, ← HPP.out.1.2.1, ← HPP.out.1.1]
              generalize ((w.alloc (.cells #[.int .i64 d.vn, .slice X.A d.l.length X.c, .slice X.A2 d.F.length X.c2] 40)).alloc (.cells #[.int .i64 e.kd, .int .i64 e.fr, .int .i64 e.to, .int .i64 e.md] 55)).alloc (.cells #[.int .i64 0, .slice none 0 0, .slice none 0 0] 40) = w0 at *
              refine (HVA.out _ _ _ _ H0.out).mono ?_
              rintro e1 w1 ⟨rfl, hb⟩
              have H1 := Lib.hid (H0.out.below hb)
              clear hb H0 HVA
              obtain ⟨x0, x1, x2, -, xl⟩ := H1.out.da.db
              obtain ⟨y0, y1, y2, y3, yl⟩ := H1.out.eb
              obtain ⟨⟨r0, r1, r2, rl⟩, g0, g1, g2⟩ := H1.out.rb.all
              have HO := Lib.hid (H1.out.out0 4)
              go_wp2
              exact bodyPost_ret (v := .tuple #[.agg #[.int .i64 0, .slice none 0 0, .slice none 0 0], .int .i64 4]) (by simp only [results, Try.results22]; go_simp <;> rfl) rfl (by rw [HRE.out.1, HRE.out.2]; exact HO.out)
      · have HRE := Lib.hid (show x = 9 ∧ R = zD10 from by
          have h7 : apE d e = 9 := by rw [apE_N (by rw [apN_9 hv h6 (by omega)]; decide), apN_9 hv h6 (by omega)]
          exact ⟨HRX.out.2.trans h7, by rw [HRX.out.1, apD_no (by rw [h7]; decide)]⟩)
        have k1 : (e.kd != 1) = true := bne_iff_ne.2 (fun h => hk (.inl h))
        have k2 : (e.kd != 2) = true := bne_iff_ne.2 (fun h => hk (.inr h))
        clear hv h6 hk
        go_enter Try.func22, Try.ntmps22
        go_wp2_with fail
        have H0 := Lib.hid (show Ab w p q r d X e (((w.alloc (.cells #[.int .i64 d.vn, .slice X.A d.l.length X.c, .slice X.A2 d.F.length X.c2] 40)).alloc (.cells #[.int .i64 e.kd, .int .i64 e.fr, .int .i64 e.to, .int .i64 e.md] 55)).alloc (.cells #[.int .i64 0, .slice none 0 0, .slice none 0 0] 40)) from by rw [HPP.out.1.1, HPP.out.1.2.1, HPP.out.1.2.2]; exact H0.out)
        rw [← HPP.out.1.2.2, ← HPP.out.1.2.1, ← HPP.out.1.1]
        generalize ((w.alloc (.cells #[.int .i64 d.vn, .slice X.A d.l.length X.c, .slice X.A2 d.F.length X.c2] 40)).alloc (.cells #[.int .i64 e.kd, .int .i64 e.fr, .int .i64 e.to, .int .i64 e.md] 55)).alloc (.cells #[.int .i64 0, .slice none 0 0, .slice none 0 0] 40) = w0 at *
        refine (HVA.out _ _ _ _ H0.out).mono ?_
        rintro e1 w1 ⟨rfl, hb⟩
        have H1 := Lib.hid (H0.out.below hb)
        clear hb H0 HVA
        obtain ⟨x0, x1, x2, -, xl⟩ := H1.out.da.db
        obtain ⟨y0, y1, y2, y3, yl⟩ := H1.out.eb
        obtain ⟨⟨r0, r1, r2, rl⟩, g0, g1, g2⟩ := H1.out.rb.all
        have HO := Lib.hid (H1.out.out0 9)
        go_wp2
        exact bodyPost_ret (v := .tuple #[.agg #[.int .i64 0, .slice none 0 0, .slice none 0 0], .int .i64 9]) (by simp only [results, Try.results22]; go_simp <;> rfl) rfl (by rw [HRE.out.1, HRE.out.2]; exact HO.out)
  · have HRE := Lib.hid (show x = vaD d ∧ R = zD10 from by
      have h7 : apE d e = vaD d := by rw [apE_N (by rw [apN_va hv]; exact hv), apN_va hv]
      exact ⟨HRX.out.2.trans h7, by rw [HRX.out.1, apD_no (by rw [h7]; exact hv)]⟩)
    have hne : (vaD d != 0) = true := bne_iff_ne.2 hv
    clear hv
    generalize vaD d = v at *
    go_enter Try.func22, Try.ntmps22
    go_wp2_with fail
    have H0 := Lib.hid (show Ab w p q r d X e (((w.alloc (.cells #[.int .i64 d.vn, .slice X.A d.l.length X.c, .slice X.A2 d.F.length X.c2] 40)).alloc (.cells #[.int .i64 e.kd, .int .i64 e.fr, .int .i64 e.to, .int .i64 e.md] 55)).alloc (.cells #[.int .i64 0, .slice none 0 0, .slice none 0 0] 40)) from by rw [HPP.out.1.1, HPP.out.1.2.1, HPP.out.1.2.2]; exact H0.out)
    rw [← HPP.out.1.2.2, ← HPP.out.1.2.1, ← HPP.out.1.1]
    generalize ((w.alloc (.cells #[.int .i64 d.vn, .slice X.A d.l.length X.c, .slice X.A2 d.F.length X.c2] 40)).alloc (.cells #[.int .i64 e.kd, .int .i64 e.fr, .int .i64 e.to, .int .i64 e.md] 55)).alloc (.cells #[.int .i64 0, .slice none 0 0, .slice none 0 0] 40) = w0 at *
    refine (HVA.out _ _ _ _ H0.out).mono ?_
    rintro e1 w1 ⟨rfl, hb⟩
    have H1 := Lib.hid (H0.out.below hb)
    clear hb H0 HVA
    obtain ⟨x0, x1, x2, -, xl⟩ := H1.out.da.db
    obtain ⟨y0, y1, y2, y3, yl⟩ := H1.out.eb
    obtain ⟨⟨r0, r1, r2, rl⟩, g0, g1, g2⟩ := H1.out.rb.all
    have HO := Lib.hid (H1.out.out0 v)
    go_wp2
    exact bodyPost_ret (v := .tuple #[.agg #[.int .i64 0, .slice none 0 0, .slice none 0 0], .int .i64 v]) (by simp only [results, Try.results22]; go_simp <;> rfl) rfl (by rw [HRE.out.1, HRE.out.2]; exact HO.out)
end Go.Proofs.Ytkecnihgjepfeaa
