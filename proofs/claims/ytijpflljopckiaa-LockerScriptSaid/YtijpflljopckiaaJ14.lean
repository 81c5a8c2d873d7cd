/- What is proved here: (plain) 'copy' between rows whose elements take more than one cell; rows known whole; directory.split by a contract; Edit of the statements' base returns some change; a source of the statements' base and a directory in a box beside it; (plain) a change of a valid directory gives a valid one. -/
import Derived.Laws.CopyRow
import Derived.Laws.CopyOwn
import Derived.Deep.RegionLaw
import Derived.Test.YtijpflljopckiaaJ02
import Derived.Test.YtijpflljopckiaaJ13
import Derived.Laws.Slices
import Derived.Lib.Overlaps
import Derived.Laws.Externs
import Derived.Lib.AppendZerosOnto
import Derived.ArgAppend
import Derived.Deep.CutBlock
import Derived.Deep.DeepCutAuto
import Derived.KernelRfl
import Derived.Test.YtijpflljopckiaaJ01
namespace Go.Proofs.Ytijpflljopckiaa
open Go.RowKit
set_option linter.unusedVariables false

section
variable {P : Program}
theorem run_copy_sized (w : World) (dT sT ty elem : TypeId) (size g o dLen dCap : Nat) (a : Addr) (sLen sCap : Nat) (cur : List Value) (t : TypeId) (cs : List Value)
    (hu : P.underlying dT = some (.slice elem)) (hs : (P.info? elem).map (·.size) = some size)
    (hg : w.heap[g]? = some (.cells cur.toArray t (0, 0))) (hn : cs.length = Nat.min sLen dLen * size)
    (hsrc : ∀ j v, cs[j]? = some v → w.cell? (a.add j) = some v) (hfit : o + cs.length ≤ cur.length) (h1 : ∀ v ∈ cs, v.oneCell' = true) :
    (Builtin.copy_ #[dT, sT] ty #[.slice (some ⟨g, o, none⟩) dLen dCap, .slice (some a) sLen sCap]).run P w =
      .ok (goInt (Nat.min sLen dLen)) (w.setRow g (splice cur o cs).toArray) := by
  have hl := run_loadCells_list (P := P) w a cs hsrc
  have hst := run_storeCells_at P g o t cs 0 cur.toArray w hg (by simpa using hfit) h1
  cases hq : P.info? elem with
  | none => simp [hq] at hs
  | some i =>
    have hi : i.size = size := by simpa [hq] using hs
    have e : w.setRow g (cur.take o ++ cs ++ cur.drop (o + cs.length)).toArray = w.setRow g (splice cur o cs).toArray := by
      unfold splice; rw [List.append_assoc]
    simp [Builtin.copy_, run_underlying hu, Builtin.lenOf, Builtin.firstCells, sizeOf, typeInfo, hq, hi, ← hn, hl, hst]
    rw [← e]
    simp
end

/-- A row of leases that is known whole: block g has the cells cur. -/
abbrev Rw (W : World) (g : Nat) (t : TypeId) (cur : List Value) : Prop := W.heap[g]? = some (.cells cur.toArray t (0, 0))
section
variable {W : World} {g base n cap size : Nat} {t e : TypeId} {cur xs : List Value} {v : Value}
theorem Rw.set (h : Rw W g t cur) (o : Nat) (cs : List Value) : Rw (W.setRow g (splice cur o cs).toArray) g t (splice cur o cs) := setRow_heap W g _ _ t _ h
theorem Rw.cell (h : Rw W g t cur) {j : Nat} {u : Value} (hj : cur[j]? = some u) : W.cell? ⟨g, j, none⟩ = some u := by
  simp [World.cell?, h, hj]
theorem Rw.of_own (h : W.ownsRow base e size v n xs) (h0 : 0 < n) : ∃ g cap cur, v = .slice (some ⟨g, 0, none⟩) n cap ∧ base ≤ g ∧ Rw W g e cur ∧ n ≤ cap ∧ cap ≤ maxLen ∧ cur.length = cap * size ∧ cur.take (n * size) = xs := by
  rcases h.2 with ⟨_, h⟩ | ⟨g, cap, cur, hv, hb, hh, hl, hm, hs, ht⟩
  · omega
  · exact ⟨g, cap, cur.toList, hv, hb, by simpa using hh, hl, hm, by simpa using hs, ht⟩
theorem Rw.own (h : Rw W g e cur) (hb : base ≤ g) (hl : n ≤ cap) (hm : cap ≤ maxLen) (hs : cur.length = cap * size) (ht : cur.take (n * size) = xs) : W.ownsRow base e size (.slice (some ⟨g, 0, none⟩) n cap) n xs := by
  refine ⟨?_, .inr ⟨g, cap, cur.toArray, rfl, hb, h, hl, hm, by simpa using hs, by simpa using ht⟩⟩
  rw [← ht, List.length_take, hs]
  exact Nat.min_eq_left (Nat.mul_le_mul_right _ hl)
theorem Rw.lt (h : Rw W g t cur) : g < W.heap.size := (Array.getElem?_eq_some_iff.1 h).1
theorem splice_len (cur : List Value) (o : Nat) (cs : List Value) (h : o + cs.length ≤ cur.length) : (splice cur o cs).length = cur.length := length_splice cur o cs h
theorem grown_setRow (w : World) (g : Nat) (cs : Array Value) : w.grownBy (w.setRow g cs) (some g) :=
  ⟨rfl, rfl, rfl, by simp [World.setRow], fun k _ hne => setRow_other w g k cs (fun e => hne (by rw [e]))⟩
theorem Rw.grown {W W' : World} {g : Nat} {t : TypeId} {cur : List Value} {row : Option Nat} (h : Rw W g t cur) (hg : W.grownBy W' row) (hne : some g ≠ row) : Rw W' g t cur := (hg.block g h.lt hne).trans h
theorem Rw.below {W W' : World} {B g : Nat} {t : TypeId} {cur : List Value} (h : Rw W g t cur) (hb : Below B W W') (hl : g < B) : Rw W' g t cur := (hb.block g hl).trans h
theorem Rw.free {W : World} {g : Nat} {t : TypeId} {cur : List Value} (h : Rw W g t cur) (o : Nat) : W.frozen? ⟨g, o, none⟩ = false := by
  have h : W.heap[g]? = some (.cells cur.toArray t (0, 0)) := h
  simp [World.frozen?, h]
theorem Rw.fresh (w : World) (cs : Array Value) (t : TypeId) : Rw (w.alloc (.cells cs t)) w.heap.size t cs.toList := by
  show (w.heap.push (.cells cs t))[w.heap.size]? = some (.cells cs.toList.toArray t (0, 0))
  simp
section
variable {P : Program} {ops : Array Oper} {o : Oper} {a : Act} {w : World}
end
end
end Go.Proofs.Ytijpflljopckiaa
namespace Go.Proofs.Ytijpflljopckiaa
open Go.RowKit
set_option linter.unusedVariables false

/-- A change as a value. -/
abbrev Ed.v (e : Ed) : Value := .agg #[.int .i64 e.kd, .int .i64 e.fr, .int .i64 e.to, .int .i64 e.md]
/-- Block q holds a change. -/
structure EB (W : World) (q : Nat) (e : Ed) : Prop where
  c0 : W.cell? ⟨q, 0, none⟩ = some (.int .i64 e.kd)
  c1 : W.cell? ⟨q, 1, none⟩ = some (.int .i64 e.fr)
  c2 : W.cell? ⟨q, 2, none⟩ = some (.int .i64 e.to)
  c3 : W.cell? ⟨q, 3, none⟩ = some (.int .i64 e.md)
  lt : q < W.heap.size
section
variable {W W' : World} {q g : Nat} {e : Ed}
theorem EB.keep (h : EB W q e) (hc : ∀ o, W'.cell? ⟨q, o, none⟩ = W.cell? ⟨q, o, none⟩) (hs : W.heap.size ≤ W'.heap.size) : EB W' q e :=
  ⟨(hc 0).trans h.c0, (hc 1).trans h.c1, (hc 2).trans h.c2, (hc 3).trans h.c3, Nat.lt_of_lt_of_le h.lt hs⟩
theorem EB.up (h : EB W q e) (hb : Below W.heap.size W W') : EB W' q e := h.keep (fun o => hb.cell (p := ⟨q, o, none⟩) h.lt) hb.size
theorem EB.alloc (h : EB W q e) (o : Obj) : EB (W.alloc o) q e := h.up ((Below.refl _ _).alloc (Nat.le_refl _) o)
theorem EB.other (h : EB W q e) {a : Addr} (hne : a.block ≠ q) (v : Value) : EB (W.setCell a v) q e :=
  h.keep (fun o => World.cell?_setCell_other W a ⟨q, o, none⟩ v (fun e => hne (by rw [e]))) (by simp)
theorem EB.grown (h : EB W q e) (hg : W.grownBy W' (some g)) (hne : q ≠ g) : EB W' q e := h.keep (fun o => hg.cell_far ⟨q, o, none⟩ h.lt (fun e => by injection e with e; exact hne e)) hg.size
theorem EB.start (w : World) (e : Ed) (t : TypeId) : EB (w.alloc (.cells #[.int .i64 e.kd, .int .i64 e.fr, .int .i64 e.to, .int .i64 e.md] t)) w.heap.size e :=
  ⟨by simp [go_sem], by simp [go_sem], by simp [go_sem], by simp [go_sem], by simp⟩
end
/-- A directory with lists of the call's own and an error as a result. -/
def DE (base : Nat) (w : World) (d : Dd) (x : Int) (e : Ending) (w' : World) : Prop := ∃ X, e = .returned (.tuple #[dv d X, .int .i64 x]) ∧ X.nw base ∧ DR w' w'.heap.size d X ∧ Below base w w'
/-- The boxes of split and merge: a directory with lists of the call's own, a change, a result. -/
structure Sb (w : World) (base p q r : Nat) (d : Dd) (X : Dx) (e : Ed) (W : World) : Prop where
  db : Db10 W p d X
  eb : EB W q e
  rb : Db10 W r zD10 zDx
  ol : W.ownsRow base 115 3 (.slice X.A d.l.length X.c) d.l.length (scs d.l)
  of : W.ownsRow base 3 1 (.slice X.A2 d.F.length X.c2) d.F.length (ics d.F)
  dis : ∀ k, (Value.slice X.A d.l.length X.c).ownBlock = some k → (Value.slice X.A2 d.F.length X.c2).ownBlock ≠ some k
  ll : ∀ k, (Value.slice X.A d.l.length X.c).ownBlock = some k → k ≠ p ∧ k ≠ q ∧ k ≠ r
  lf : ∀ k, (Value.slice X.A2 d.F.length X.c2).ownBlock = some k → k ≠ p ∧ k ≠ q ∧ k ≠ r
  pq : base ≤ w.heap.size ∧ w.heap.size ≤ p ∧ p < q ∧ q < r
  bel : Below base w W
section
variable {w W W' : World} {base p q r : Nat} {d : Dd} {X : Dx} {e : Ed}
theorem own_up10 {size n : Nat} {t : TypeId} {v : Value} {xs : List Value} (h : W.ownsRow base t size v n xs) (hb : Below W.heap.size W W') : W'.ownsRow base t size v n xs :=
  ⟨h.1, h.2.imp_right fun ⟨g, cap, cur, hv, hg, hh, rr⟩ => ⟨g, cap, cur, hv, hg, (hb.block g (Array.getElem?_eq_some_iff.1 hh).1).trans hh, rr⟩⟩
theorem own_oth {size n : Nat} {t : TypeId} {v : Value} {xs : List Value} (h : W.ownsRow base t size v n xs) {a : Addr} (ha : ∀ k, v.ownBlock = some k → k ≠ a.block) (u : Value) : (W.setCell a u).ownsRow base t size v n xs :=
  ⟨h.1, h.2.imp_right fun ⟨g, cap, cur, hv, hg, hh, rr⟩ => ⟨g, cap, cur, hv, hg, (Below.heap_setCell W a u g (by
    have := ha g (by rw [hv]; rfl)
    intro e; exact this e)).trans hh, rr⟩⟩
theorem own_far10 {size n g : Nat} {t : TypeId} {v : Value} {xs : List Value} (h : W.ownsRow base t size v n xs) (hg : W.grownBy W' (some g)) (hne : v.ownBlock ≠ some g) : W'.ownsRow base t size v n xs :=
  ⟨h.1, h.2.imp_right fun ⟨k, cap, cur, hv, hk, hh, rr⟩ => ⟨k, cap, cur, hv, hk, (hg.block k (Array.getElem?_eq_some_iff.1 hh).1 (by
    rw [hv] at hne
    exact hne)).trans hh, rr⟩⟩
theorem Sb.dr (h : Sb w base p q r d X e W) : DR W W.heap.size d X := ⟨Pl.of_own h.ol, Fl.of_own h.of⟩
theorem Sb.below (h : Sb w base p q r d X e W) (hb : Below W.heap.size W W') : Sb w base p q r d X e W' :=
  ⟨h.db.up hb, h.eb.up hb, h.rb.up hb, own_up10 h.ol hb, own_up10 h.of hb, h.dis, h.ll, h.lf, h.pq, h.bel.trans (hb.mono (Nat.le_trans h.pq.1 h.bel.size))⟩
theorem Sb.nw (h : Sb w base p q r d X e W) : X.nw base := ⟨nwv_of (nwv_own h.ol (Nat.le_refl _)), nwv_of (nwv_own h.of (Nat.le_refl _))⟩
theorem Sb.out (h : Sb w base p q r d X e W) (x : Int) : DE base w d x (.returned (.tuple #[dv d X, .int .i64 x])) (((W.setCell ⟨r, 0, none⟩ (.int .i64 d.vn)).setCell ⟨r, 1, none⟩ (.slice X.A d.l.length X.c)).setCell ⟨r, 2, none⟩ (.slice X.A2 d.F.length X.c2)) := by
  have hp := h.pq
  have f : ∀ o, DOff d X (⟨r, o, none⟩ : Addr).block := fun o => ⟨fun a ea _ => (h.ll a.block (by rw [ea]; rfl)).2.2, fun a ea _ => (h.lf a.block (by rw [ea]; rfl)).2.2⟩
  have k1 := h.dr.offp (q := ⟨r, 0, none⟩) (f 0) (.int .i64 d.vn)
  have k2 := k1.offp (q := ⟨r, 1, none⟩) (f 1) (.slice X.A d.l.length X.c)
  have k3 := k2.offp (q := ⟨r, 2, none⟩) (f 2) (.slice X.A2 d.F.length X.c2)
  exact ⟨X, rfl, h.nw, k3.more (by simp), ((h.bel.setCell (p := ⟨r, 0, none⟩) (show base ≤ r by omega) _).setCell (p := ⟨r, 1, none⟩) (show base ≤ r by omega) _).setCell (p := ⟨r, 2, none⟩) (show base ≤ r by omega) _⟩
/-- A store into the list of spans. -/
theorem Sb.setL (h : Sb w base p q r d X e W) {g : Nat} (hg : X.A = some ⟨g, 0, none⟩) (j : Nat) (u : Value) {l' : List Sp} (hl : l'.length = d.l.length) (hs : (scs d.l).set j u = scs l') :
    Sb w base p q r ⟨d.vn, l', d.F⟩ X e (W.setCell ⟨g, j, none⟩ u) := by
  have hk : (Value.slice X.A d.l.length X.c).ownBlock = some g := by rw [hg]; rfl
  have hne := h.ll g hk
  have ho := h.ol
  rw [hg] at ho
  have hst := (ho.stored j u).1
  rw [hs, ← hg] at hst
  obtain ⟨hb, -⟩ := ho.lt g rfl
  have hd := h.db.other (a := ⟨g, j, none⟩) hne.1 u
  refine ⟨⟨hd.c0, by have := hd.c1; rw [← hl] at this; exact this, hd.c2, hd.fr, hd.lt⟩, h.eb.other (a := ⟨g, j, none⟩) hne.2.1 u, h.rb.other (a := ⟨g, j, none⟩) hne.2.2 u, by rw [← hl] at hst; exact hst, own_oth h.of (fun k hk' e => ?_) u, ?_, ?_, h.lf, h.pq, h.bel.setCell (p := ⟨g, j, none⟩) hb u⟩
  · have e' : k = g := e
    rw [e'] at hk'; exact h.dis g hk hk'
  · intro k hk'; exact h.dis k (by rw [hg] at hk' ⊢; exact hk')
  · intro k hk'; exact h.ll k (by rw [hg] at hk' ⊢; exact hk')
/-- Another list of spans, that lies in the elder's place or in a new one. -/
theorem Sb.newL (h : Sb w base p q r d X e W) {A : Option Addr} {c g : Nat} {l' : List Sp} (hg : X.A = some ⟨g, 0, none⟩) (hw : W.grownBy W' (some g)) (ho : W'.ownsRow base 115 3 (.slice A l'.length c) l'.length (scs l')) (hn : ∀ k, (Value.slice A l'.length c).ownBlock = some k → some g = some k ∨ W.heap.size ≤ k) :
    Sb w base p q r ⟨d.vn, l', d.F⟩ ⟨A, c, X.A2, X.c2⟩ e (W'.setCell ⟨p, 1, none⟩ (.slice A l'.length c)) := by
  have hk : (Value.slice X.A d.l.length X.c).ownBlock = some g := by rw [hg]; rfl
  have hne := h.ll g hk
  have hp := h.pq
  obtain ⟨hb, -⟩ := h.ol.lt g hk
  have hd := h.db.grown hw hne.1.symm
  have hL : ∀ k, (Value.slice A l'.length c).ownBlock = some k → k ≠ p ∧ k ≠ q ∧ k ≠ r := fun k hk' => by
    rcases hn k hk' with e | e
    · injection e with e; subst e; exact hne
    · have h1 := h.db.lt
      have h2 := h.eb.lt
      have h3 := h.rb.lt
      omega
  refine ⟨⟨by simp [go_sem, hd.c0], by simp [go_sem, hd.c1], by simp [go_sem, hd.c2], fun o => by simp [go_sem, hd.fr o], by simp [hd.lt]⟩, (h.eb.grown hw hne.2.1.symm).other (a := ⟨p, 1, none⟩) (show p ≠ q by omega) _, (h.rb.grown hw hne.2.2.symm).other (a := ⟨p, 1, none⟩) (show p ≠ r by omega) _, own_oth ho (fun k hk' => (hL k hk').1) _, own_oth (own_far10 h.of hw (h.dis g hk)) (fun k hk' => (h.lf k hk').1) _, fun k hk' => ?_, hL, h.lf, h.pq, (h.bel.grown hw (Nat.le_trans hp.1 h.bel.size) (fun k e => by injection e with e; subst e; exact hb)).setCell (p := ⟨p, 1, none⟩) (show base ≤ p by omega) _⟩
  rcases hn k hk' with e | e
  · injection e with e; subst e; exact h.dis g hk
  · intro e2; have := (h.of.lt k e2).2; omega
end
end Go.Proofs.Ytijpflljopckiaa
namespace Go.Proofs.Ytijpflljopckiaa
open Go.RowKit
set_option linter.unusedVariables false

/-- A change in a block that may be written. -/
structure EW (W : World) (q : Nat) (e : Ed) : Prop where
  eb : EB W q e
  ef : ∀ o, W.frozen? ⟨q, o, none⟩ = false
section
variable {W W' : World} {q g : Nat} {e : Ed}
theorem EW.start (w : World) (e : Ed) (t : TypeId) : EW (w.alloc (.cells #[.int .i64 e.kd, .int .i64 e.fr, .int .i64 e.to, .int .i64 e.md] t)) w.heap.size e := ⟨EB.start w e t, fun o => by simp [go_sem]⟩
theorem EW.grown (h : EW W q e) (hg : W.grownBy W' (some g)) (hne : q ≠ g) : EW W' q e := ⟨h.eb.grown hg hne, fun o => (hg.frozen_far ⟨q, o, none⟩ h.eb.lt (fun e => by injection e with e; exact hne e)).trans (h.ef o)⟩
theorem EW.alloc (h : EW W q e) (o : Obj) : EW (W.alloc o) q e := ⟨h.eb.alloc o, fun k => (((Below.refl W.heap.size W).alloc (Nat.le_refl _) o).frozen (p := ⟨q, k, none⟩) h.eb.lt).trans (h.ef k)⟩
theorem EW.other (h : EW W q e) {a : Addr} (hne : a.block ≠ q) (v : Value) : EW (W.setCell a v) q e := ⟨h.eb.other hne v, fun o => by simp [go_sem, h.ef o]⟩
theorem EW.all (h : EW W q e) : (W.cell? ⟨q, 0, none⟩ = some (.int .i64 e.kd) ∧ W.cell? ⟨q, 1, none⟩ = some (.int .i64 e.fr) ∧ W.cell? ⟨q, 2, none⟩ = some (.int .i64 e.to) ∧ W.cell? ⟨q, 3, none⟩ = some (.int .i64 e.md) ∧ q < W.heap.size) ∧ W.frozen? ⟨q, 0, none⟩ = false ∧ W.frozen? ⟨q, 1, none⟩ = false ∧ W.frozen? ⟨q, 2, none⟩ = false ∧ W.frozen? ⟨q, 3, none⟩ = false :=
  ⟨⟨h.eb.c0, h.eb.c1, h.eb.c2, h.eb.c3, h.eb.lt⟩, h.ef 0, h.ef 1, h.ef 2, h.ef 3⟩
end

end Go.Proofs.Ytijpflljopckiaa
namespace Go.Proofs.Ytijpflljopckiaa
open Go.RowKit
set_option linter.unusedVariables false

section
variable {w W W' : World} {B B' g p : Nat} {d : Dd} {X : Dx}
theorem Pl.grownO {n c : Nat} {A : Option Addr} {l : List Sp} (h : Pl W B (.slice A n c) l) (ho : ∀ a, A = some a → 0 < n → a.block ≠ g) (hB : B ≤ W.heap.size) (hg : W.grownBy W' (some g)) : Pl W' B (.slice A n c) l := by
  obtain ⟨h1, h2, h3⟩ := h.len
  subst h1
  refine ⟨A, c, rfl, h2, h3, h.rd.1, fun hn => ?_⟩
  obtain ⟨b, o, e, hb, hc⟩ := h.rd.2 hn
  have := ho _ e hn
  exact ⟨b, o, e, hb, fun j u hu => (hg.cell_far ⟨b, o + j, none⟩ (by show b < _; omega) (fun e' => by injection e' with e'; exact this e')).trans (hc j u hu)⟩
theorem Fl.grownO {n c : Nat} {A : Option Addr} {l : List Int} (h : Fl W B (.slice A n c) l) (ho : ∀ a, A = some a → 0 < n → a.block ≠ g) (hB : B ≤ W.heap.size) (hg : W.grownBy W' (some g)) : Fl W' B (.slice A n c) l := by
  obtain ⟨h1, h2, h3⟩ := h.len
  subst h1
  refine ⟨A, c, rfl, h2, h3, h.rd.1, fun hn => ?_⟩
  obtain ⟨b, o, e, hb, hc⟩ := h.rd.2 hn
  have := ho _ e hn
  exact ⟨b, o, e, hb, fun j u hu => (hg.cell_far ⟨b, o + j, none⟩ (by show b < _; omega) (fun e' => by injection e' with e'; exact this e')).trans (hc j u hu)⟩
theorem DR.grownO (h : DR W B d X) (ho : DOff d X g) (hB : B ≤ W.heap.size) (hg : W.grownBy W' (some g)) : DR W' B d X := ⟨h.pl.grownO ho.o1 hB hg, h.fl.grownO ho.o2 hB hg⟩
end
/-- A source and a directory in a box. -/
structure DsAt (w : World) (B g p : Nat) (d : Dd) (X : Dx) (W : World) : Prop where
  src : SrcAt W B g
  db : Db10 W p d X
  dr : DR W W.heap.size d X
  op : DOff d X p
  og : DOff d X g
  ne : p ≠ g ∧ w.heap.size ≤ p ∧ w.heap.size ≤ g ∧ B ≤ w.heap.size
  bel : Below w.heap.size w W
section
variable {w W W' : World} {B g p : Nat} {d : Dd} {X : Dx}
theorem DsAt.below (h : DsAt w B g p d X W) (hb : Below W.heap.size W W') : DsAt w B g p d X W' :=
  ⟨h.src.below hb, h.db.up hb, h.dr.up hb, h.op, h.og, h.ne, h.bel.trans (hb.mono h.bel.size)⟩
theorem DsAt.turn (h : DsAt w B g p d X W) (hs : SrcAt W' B g) (hg : W.grownBy W' (some g)) : DsAt w B g p d X W' :=
  ⟨hs, h.db.grown hg h.ne.1, (h.dr.grownO h.og (Nat.le_refl _) hg).more hg.size, h.op, h.og, h.ne, h.bel.grown hg h.bel.size (fun k e => by injection e with e; subst e; exact h.ne.2.2.1)⟩
/-- Another directory is stored. -/
theorem DsAt.put (h : DsAt w B g p d X W) {d' : Dd} {Y : Dx} (hr : DR W W.heap.size d' Y) (o1 : DOff d' Y p) (o2 : DOff d' Y g) :
    DsAt w B g p d' Y (((W.setCell ⟨p, 0, none⟩ (.int .i64 d'.vn)).setCell ⟨p, 1, none⟩ (.slice Y.A d'.l.length Y.c)).setCell ⟨p, 2, none⟩ (.slice Y.A2 d'.F.length Y.c2)) := by
  have hn := h.ne
  have hB : B ≤ p := by omega
  exact ⟨((h.src.other (p := ⟨p, 0, none⟩) hn.1 hB _).other (p := ⟨p, 1, none⟩) hn.1 hB _).other (p := ⟨p, 2, none⟩) hn.1 hB _, h.db.set d' Y, (((hr.offp (q := ⟨p, 0, none⟩) o1 _).offp (q := ⟨p, 1, none⟩) o1 _).offp (q := ⟨p, 2, none⟩) o1 _).more (by simp), o1, o2, h.ne,
    ((h.bel.setCell (p := ⟨p, 0, none⟩) hn.2.1 _).setCell (p := ⟨p, 1, none⟩) hn.2.1 _).setCell (p := ⟨p, 2, none⟩) hn.2.1 _⟩
theorem DsAt.start (hs : SrcAt W B g) (hd : DR W W.heap.size d X) (ho : DOff d X g) (hg : w.heap.size ≤ g) (hB : B ≤ w.heap.size) (hb : Below w.heap.size w W) (t : TypeId) :
    DsAt w B g W.heap.size d X (W.alloc (.cells #[.int .i64 d.vn, .slice X.A d.l.length X.c, .slice X.A2 d.F.length X.c2] t)) :=
  ⟨hs.alloc _, Db10.start W d X t, hd.alloc _, hd.offs (Nat.le_refl _), ho, ⟨by have := hs.2.1; omega, hb.size, hg, hB⟩, hb.alloc hb.size _⟩
end
end Go.Proofs.Ytijpflljopckiaa
namespace Go.Proofs.Ytijpflljopckiaa
set_option linter.unusedVariables false

/-- Spans from n on, up to before m. -/
def chN : Int → List Sp → Int → Prop
  | n, [], m => n = m
  | n, x :: l, m => x.lo = n ∧ x.lo ≤ x.hi ∧ x.hi ≤ 65535 ∧ chN (x.hi + 1) l m
theorem ch_app (n : Int) (a b : List Sp) (m : Int) : chN n (a ++ b) m ↔ ∃ k, chN n a k ∧ chN k b m := by
  induction a generalizing n with
  | nil => simp [chN]
  | cons x a ih =>
    simp only [List.cons_append, chN, ih]
    constructor
    · rintro ⟨h1, h2, h3, k, h4, h5⟩
      exact ⟨k, ⟨h1, h2, h3, h4⟩, h5⟩
    · rintro ⟨k, ⟨h1, h2, h3, h4⟩, h5⟩
      exact ⟨h1, h2, h3, k, h4, h5⟩
/-- A valid list of spans. -/
structure OkL (n : Nat) (l : List Sp) : Prop where
  ch : chN 0 l 65536
  ms : ∀ x ∈ l, slotP n x.sh
  nd : (l.map (·.sh)).Nodup
/-- A split. -/
theorem OkL.split {n : Nat} {A B : List Sp} {x : Sp} {md t9 : Int} (h : OkL n (A ++ x :: B)) (h1 : x.lo ≤ md ∧ md < x.hi) (h2 : slotP n t9) (h3 : ∀ y ∈ A ++ x :: B, y.sh ≠ t9) : OkL n (A ++ ⟨x.lo, md, x.sh⟩ :: ⟨md + 1, x.hi, t9⟩ :: B) := by
  obtain ⟨k, c1, c2, c3, c4, c5⟩ := (ch_app _ _ _ _).1 h.ch
  refine ⟨(ch_app _ _ _ _).2 ⟨k, c1, c2, h1.1, by show md ≤ 65535; omega, rfl, by show md + 1 ≤ x.hi; omega, c4, c5⟩, fun y hy => ?_, ?_⟩
  · rw [List.mem_append, List.mem_cons, List.mem_cons] at hy
    rcases hy with hy | rfl | rfl | hy
    · exact h.ms y (by simp [hy])
    · exact h.ms x (by simp)
    · exact h2
    · exact h.ms y (by simp [hy])
  · have e : (A ++ (⟨x.lo, md, x.sh⟩ : Sp) :: ⟨md + 1, x.hi, t9⟩ :: B).map (·.sh) = (A.map (·.sh) ++ [x.sh]) ++ t9 :: B.map (·.sh) := by simp
    rw [e]
    refine (List.perm_middle.nodup_iff).2 (List.nodup_cons.2 ⟨fun hm => ?_, ?_⟩)
    · have hm' : t9 ∈ (A ++ x :: B).map (·.sh) := by simpa using hm
      obtain ⟨y, hy, he⟩ := List.mem_map.1 hm'
      exact h3 y hy he
    · have := h.nd
      simpa using this
/-- A merge. -/
theorem OkL.merge {n : Nat} {A B : List Sp} {x y : Sp} {t9 : Int} (h : OkL n (A ++ x :: y :: B)) (h1 : t9 = x.sh ∨ t9 = y.sh) : OkL n (A ++ ⟨x.lo, y.hi, t9⟩ :: B) := by
  obtain ⟨k, c1, c2, c3, c4, c5, c6, c7, c8⟩ := (ch_app _ _ _ _).1 h.ch
  refine ⟨(ch_app _ _ _ _).2 ⟨k, c1, c2, by show x.lo ≤ y.hi; omega, c7, c8⟩, fun z hz => ?_, ?_⟩
  · rw [List.mem_append, List.mem_cons] at hz
    rcases hz with hz | rfl | hz
    · exact h.ms z (by simp [hz])
    · rcases h1 with rfl | rfl
      · exact h.ms x (by simp)
      · exact h.ms y (by simp)
    · exact h.ms z (by simp [hz])
  · have hn := h.nd
    have e : (A ++ (⟨x.lo, y.hi, t9⟩ : Sp) :: B).map (·.sh) = A.map (·.sh) ++ t9 :: B.map (·.sh) := by simp
    have e2 : (A ++ x :: y :: B).map (·.sh) = A.map (·.sh) ++ x.sh :: y.sh :: B.map (·.sh) := by simp
    rw [e]
    rw [e2] at hn
    rcases h1 with rfl | rfl
    · exact List.Pairwise.sublist (List.Sublist.append_left (List.Sublist.cons_cons _ (List.sublist_cons_self _ _)) _) hn
    · exact List.Pairwise.sublist (List.Sublist.append_left (List.sublist_cons_self _ _) _) hn
end Go.Proofs.Ytijpflljopckiaa
