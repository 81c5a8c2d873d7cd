/- What is proved here: (plain) an append of a slice that is read, as a step of a region that draws its order; slices.Clone of spans and of numbers by contracts: the copies are the call's own; (plain) 'copy' between rows whose elements take more than one cell; rows known whole; directory.split by a contract; Edit of the statements' base returns some change. -/
import Derived.Test.YtkecnihgjepfeaaJ02
import Derived.Deep.AppendLies
import Derived.Test.YtkecnihgjepfeaaJ04
import Derived.Test.YtkecnihgjepfeaaRows
import Derived.WalkKit
import Derived.Outline
import Derived.IntWalk
import Derived.WalkSpells
import Derived.Lib.AppendZerosOnto
import Derived.Deep.RegionHeld3
import Derived.Laws.CopyRow
import Derived.Laws.CopyOwn
import Derived.Deep.RegionLaw
import Derived.Deep.DrawnRows
import Derived.Deep.RegionWith
import Derived.Laws.Slices
import Derived.Lib.Overlaps
import Derived.Laws.Externs
import Derived.ArgAppend
import Derived.Deep.CutBlock
import Derived.Deep.DeepCutAuto
import Derived.KernelRfl
import Derived.Test.YtkecnihgjepfeaaJ03
namespace Go.Proofs.Ytkecnihgjepfeaa
open Go.RowKit

/-- The step of an append of a list that reads, in a region that draws its order. -/
theorem step_append_rd {P : Program} (w : World) {ops : Array Oper} {o : Oper} {a : Act} {K : Act → World → Prop} {Q : Exit → Act → World → Prop} {E : Prop} (hgd : o.guard = none) (s x : Operand) (t : TypeId)
    (ho : o.op = .call { callee := .builtin .append, args := #[s, x], argTypes := #[t, t] })
    (base : Nat) (e : TypeId) (i : TypeInfo) (z : Value) (size bytes : Nat) (ht : P.underlying t = some (.slice e)) (hi : P.info? e = some i) (hz : i.zero = some z)
    (hsize : i.size = size) (hby : i.bytes = bytes) (hzs : z.cells.size = size) (hsz : 0 < size)
    (v : Value) (n : Nat) (xs : List Value) (hs : a.eval s = v) (hown : w.ownsRow base e size v n xs)
    (B : Nat) (A : Option Addr) (m c : Nat) (news : List Value) (hx : a.eval x = .slice A m c) (hr : Rd w B size A m news) (h1 : ∀ u ∈ news, u.oneCell' = true)
    (h63 : n + m ≤ maxLen) (hbytes : (n + m) * bytes ≤ 140737488355328) (hbase : base ≤ w.heap.size)
    (h : ∀ v' w', w'.ownsRow base e size v' (n + m) (xs ++ news) → w.grownBy w' v.ownBlock → (v'.ownBlock = v.ownBlock ∨ v'.ownBlock = some w.heap.size) → K (a.put o.dst v') w') :
    if Region.wanted o (yielded ops a.tmps) = true then Oper.wp P o a w K Q else E := by
  have hw : Region.wanted o (yielded ops a.tmps) = true := by simp [Region.wanted, hgd]
  rw [if_pos hw]
  exact wp_append_rd w s x t ho base e i z size bytes ht hi hz hsize hby hzs hsz v n xs hs hown B A m c news hx hr h1 h63 hbytes hbase h
end Go.Proofs.Ytkecnihgjepfeaa
namespace Go.Proofs.Ytkecnihgjepfeaa
open Go.RowKit
set_option linter.unusedVariables false

theorem info_sp : (Try.prog.info? 44).map (fun i => (i.zero, i.size, i.bytes)) = some (some (Sp.v zSp), 3, 24) := by kernel_rfl
theorem info_ni : (Try.prog.info? 3).map (fun i => (i.zero, i.size, i.bytes)) = some (some (.int .i64 0), 1, 8) := by kernel_rfl
end Go.Proofs.Ytkecnihgjepfeaa
namespace Go.Proofs.Ytkecnihgjepfeaa
open Go.RowKit
set_option linter.unusedVariables false

section
variable {P : Program}
end

/-- A row of leases that is known whole: block g has the cells cur. -/
abbrev Rw (W : World) (g : Nat) (t : TypeId) (cur : List Value) : Prop := W.heap[g]? = some (.cells cur.toArray t (0, 0))
section
variable {W : World} {g base n cap size : Nat} {t e : TypeId} {cur xs : List Value} {v : Value}
theorem Rw.set (h : Rw W g t cur) (o : Nat) (cs : List Value) : Rw (W.setRow g (splice cur o cs).toArray) g t (splice cur o cs) := setRow_heap W g _ _ t _ h
theorem Rw.cell (h : Rw W g t cur) {j : Nat} {u : Value} (hj : cur[j]? = some u) : W.cell? ⟨g, j, none⟩ = some u := by
  simp [World.cell?, h, hj]
theorem Rw.of_own (h : W.ownsRow base e size v n xs) (h0 : 0 < n) : ∃ g cap cur, v = .slice (some ⟨g, 0, none⟩) n cap ∧ base ≤ g ∧ Rw W g e cur ∧ n ≤ cap ∧ cap ≤ maxLen ∧ cur.length = cap * size ∧ cur.take (n * size) = xs := by
  rcases h.2 with ⟨_, h⟩ | ⟨g, cap, cur, hv, hb, hh, hl, hm, hs, ht⟩
  · omega
  · exact ⟨g, cap, cur.toList, hv, hb, by simpa using hh, hl, hm, by simpa using hs, ht⟩
theorem Rw.own (h : Rw W g e cur) (hb : base ≤ g) (hl : n ≤ cap) (hm : cap ≤ maxLen) (hs : cur.length = cap * size) (ht : cur.take (n * size) = xs) : W.ownsRow base e size (.slice (some ⟨g, 0, none⟩) n cap) n xs := by
  refine ⟨?_, .inr ⟨g, cap, cur.toArray, rfl, hb, h, hl, hm, by simpa using hs, by simpa using ht⟩⟩
  rw [← ht, List.length_take, hs]
  exact Nat.min_eq_left (Nat.mul_le_mul_right _ hl)
theorem Rw.lt (h : Rw W g t cur) : g < W.heap.size := (Array.getElem?_eq_some_iff.1 h).1
theorem Rw.grown {W W' : World} {g : Nat} {t : TypeId} {cur : List Value} {row : Option Nat} (h : Rw W g t cur) (hg : W.grownBy W' row) (hne : some g ≠ row) : Rw W' g t cur := (hg.block g h.lt hne).trans h
theorem Rw.below {W W' : World} {B g : Nat} {t : TypeId} {cur : List Value} (h : Rw W g t cur) (hb : Below B W W') (hl : g < B) : Rw W' g t cur := (hb.block g hl).trans h
section
variable {P : Program} {ops : Array Oper} {o : Oper} {a : Act} {w : World}
end
end
end Go.Proofs.Ytkecnihgjepfeaa
namespace Go.Proofs.Ytkecnihgjepfeaa
open Go.RowKit
set_option linter.unusedVariables false

/-- A change as a value. -/
abbrev Ed.v (e : Ed) : Value := .agg #[.int .i64 e.kd, .int .i64 e.fr, .int .i64 e.to, .int .i64 e.md]
/-- Block q holds a change. -/
structure EB (W : World) (q : Nat) (e : Ed) : Prop where
  c0 : W.cell? ⟨q, 0, none⟩ = some (.int .i64 e.kd)
  c1 : W.cell? ⟨q, 1, none⟩ = some (.int .i64 e.fr)
  c2 : W.cell? ⟨q, 2, none⟩ = some (.int .i64 e.to)
  c3 : W.cell? ⟨q, 3, none⟩ = some (.int .i64 e.md)
  lt : q < W.heap.size
section
variable {W W' : World} {q g : Nat} {e : Ed}
theorem EB.keep (h : EB W q e) (hc : ∀ o, W'.cell? ⟨q, o, none⟩ = W.cell? ⟨q, o, none⟩) (hs : W.heap.size ≤ W'.heap.size) : EB W' q e :=
  ⟨(hc 0).trans h.c0, (hc 1).trans h.c1, (hc 2).trans h.c2, (hc 3).trans h.c3, Nat.lt_of_lt_of_le h.lt hs⟩
theorem EB.up (h : EB W q e) (hb : Below W.heap.size W W') : EB W' q e := h.keep (fun o => hb.cell (p := ⟨q, o, none⟩) h.lt) hb.size
theorem EB.alloc (h : EB W q e) (o : Obj) : EB (W.alloc o) q e := h.up ((Below.refl _ _).alloc (Nat.le_refl _) o)
theorem EB.other (h : EB W q e) {a : Addr} (hne : a.block ≠ q) (v : Value) : EB (W.setCell a v) q e :=
  h.keep (fun o => World.cell?_setCell_other W a ⟨q, o, none⟩ v (fun e => hne (by rw [e]))) (by simp)
theorem EB.grown (h : EB W q e) (hg : W.grownBy W' (some g)) (hne : q ≠ g) : EB W' q e := h.keep (fun o => hg.cell_far ⟨q, o, none⟩ h.lt (fun e => by injection e with e; exact hne e)) hg.size
theorem EB.start (w : World) (e : Ed) (t : TypeId) : EB (w.alloc (.cells #[.int .i64 e.kd, .int .i64 e.fr, .int .i64 e.to, .int .i64 e.md] t)) w.heap.size e :=
  ⟨by simp [go_sem], by simp [go_sem], by simp [go_sem], by simp [go_sem], by simp⟩
end
/-- A directory with lists of the call's own and an error as a result. -/
def DE (base : Nat) (w : World) (d : Dd) (x : Int) (e : Ending) (w' : World) : Prop := ∃ X, e = .returned (.tuple #[dv d X, .int .i64 x]) ∧ X.nw base ∧ DR w' w'.heap.size d X ∧ Below base w w'
/-- The boxes of split and merge: a directory with lists of the call's own, a change, a result. -/
structure Sb (w : World) (base p q r : Nat) (d : Dd) (X : Dx) (e : Ed) (W : World) : Prop where
  db : Db10 W p d X
  eb : EB W q e
  rb : Db10 W r zD10 zDx
  ol : W.ownsRow base 44 3 (.slice X.A d.l.length X.c) d.l.length (scs d.l)
  of : W.ownsRow base 3 1 (.slice X.A2 d.F.length X.c2) d.F.length (ics d.F)
  dis : ∀ k, (Value.slice X.A d.l.length X.c).ownBlock = some k → (Value.slice X.A2 d.F.length X.c2).ownBlock ≠ some k
  ll : ∀ k, (Value.slice X.A d.l.length X.c).ownBlock = some k → k ≠ p ∧ k ≠ q ∧ k ≠ r
  lf : ∀ k, (Value.slice X.A2 d.F.length X.c2).ownBlock = some k → k ≠ p ∧ k ≠ q ∧ k ≠ r
  pq : base ≤ w.heap.size ∧ w.heap.size ≤ p ∧ p < q ∧ q < r
  bel : Below base w W
section
variable {w W W' : World} {base p q r : Nat} {d : Dd} {X : Dx} {e : Ed}
theorem own_up10 {size n : Nat} {t : TypeId} {v : Value} {xs : List Value} (h : W.ownsRow base t size v n xs) (hb : Below W.heap.size W W') : W'.ownsRow base t size v n xs :=
  ⟨h.1, h.2.imp_right fun ⟨g, cap, cur, hv, hg, hh, rr⟩ => ⟨g, cap, cur, hv, hg, (hb.block g (Array.getElem?_eq_some_iff.1 hh).1).trans hh, rr⟩⟩
theorem own_oth {size n : Nat} {t : TypeId} {v : Value} {xs : List Value} (h : W.ownsRow base t size v n xs) {a : Addr} (ha : ∀ k, v.ownBlock = some k → k ≠ a.block) (u : Value) : (W.setCell a u).ownsRow base t size v n xs :=
  ⟨h.1, h.2.imp_right fun ⟨g, cap, cur, hv, hg, hh, rr⟩ => ⟨g, cap, cur, hv, hg, (Below.heap_setCell W a u g (by
    have := ha g (by rw [hv]; rfl)
    intro e; exact this e)).trans hh, rr⟩⟩
theorem own_far10 {size n g : Nat} {t : TypeId} {v : Value} {xs : List Value} (h : W.ownsRow base t size v n xs) (hg : W.grownBy W' (some g)) (hne : v.ownBlock ≠ some g) : W'.ownsRow base t size v n xs :=
  ⟨h.1, h.2.imp_right fun ⟨k, cap, cur, hv, hk, hh, rr⟩ => ⟨k, cap, cur, hv, hk, (hg.block k (Array.getElem?_eq_some_iff.1 hh).1 (by
    rw [hv] at hne
    exact hne)).trans hh, rr⟩⟩
theorem Sb.dr (h : Sb w base p q r d X e W) : DR W W.heap.size d X := ⟨Pl.of_own h.ol, Fl.of_own h.of⟩
theorem Sb.below (h : Sb w base p q r d X e W) (hb : Below W.heap.size W W') : Sb w base p q r d X e W' :=
  ⟨h.db.up hb, h.eb.up hb, h.rb.up hb, own_up10 h.ol hb, own_up10 h.of hb, h.dis, h.ll, h.lf, h.pq, h.bel.trans (hb.mono (Nat.le_trans h.pq.1 h.bel.size))⟩
theorem Sb.nw (h : Sb w base p q r d X e W) : X.nw base := ⟨nwv_of (nwv_own h.ol (Nat.le_refl _)), nwv_of (nwv_own h.of (Nat.le_refl _))⟩
theorem Sb.start (d : Dd) (X : Dx) (e : Ed) (hb : base ≤ w.heap.size) (hol : w.ownsRow base 44 3 (.slice X.A d.l.length X.c) d.l.length (scs d.l)) (hof : w.ownsRow base 3 1 (.slice X.A2 d.F.length X.c2) d.F.length (ics d.F))
    (hd : ∀ k, (Value.slice X.A d.l.length X.c).ownBlock = some k → (Value.slice X.A2 d.F.length X.c2).ownBlock ≠ some k) :
    Sb w base w.heap.size (w.heap.size + 1) (w.heap.size + 1 + 1) d X e (((w.alloc (.cells #[.int .i64 d.vn, .slice X.A d.l.length X.c, .slice X.A2 d.F.length X.c2] 40)).alloc (.cells #[.int .i64 e.kd, .int .i64 e.fr, .int .i64 e.to, .int .i64 e.md] 55)).alloc (.cells #[.int .i64 0, .slice none 0 0, .slice none 0 0] 40)) := by
  have e1 : (w.alloc (.cells #[.int .i64 d.vn, .slice X.A d.l.length X.c, .slice X.A2 d.F.length X.c2] 40)).heap.size = w.heap.size + 1 := by simp
  have e2 : ((w.alloc (.cells #[.int .i64 d.vn, .slice X.A d.l.length X.c, .slice X.A2 d.F.length X.c2] 40)).alloc (.cells #[.int .i64 e.kd, .int .i64 e.fr, .int .i64 e.to, .int .i64 e.md] 55)).heap.size = w.heap.size + 1 + 1 := by simp
  have h1 := (EB.start (w.alloc (.cells #[.int .i64 d.vn, .slice X.A d.l.length X.c, .slice X.A2 d.F.length X.c2] 40)) e 55).alloc (.cells #[.int .i64 0, .slice none 0 0, .slice none 0 0] 40)
  have h2 := Db10.zero ((w.alloc (.cells #[.int .i64 d.vn, .slice X.A d.l.length X.c, .slice X.A2 d.F.length X.c2] 40)).alloc (.cells #[.int .i64 e.kd, .int .i64 e.fr, .int .i64 e.to, .int .i64 e.md] 55)) 40
  rw [e1] at h1
  rw [e2] at h2
  have hbb : Below w.heap.size w (((w.alloc (.cells #[.int .i64 d.vn, .slice X.A d.l.length X.c, .slice X.A2 d.F.length X.c2] 40)).alloc (.cells #[.int .i64 e.kd, .int .i64 e.fr, .int .i64 e.to, .int .i64 e.md] 55)).alloc (.cells #[.int .i64 0, .slice none 0 0, .slice none 0 0] 40)) :=
    (((Below.refl _ _).alloc (Nat.le_refl _) _).alloc (by simp) _).alloc (by simp; omega) _
  refine ⟨((Db10.start w d X _).alloc _).alloc _, h1, h2, own_up10 hol hbb, own_up10 hof hbb, hd, fun k hk => ?_, fun k hk => ?_, ⟨hb, Nat.le_refl _, by omega, by omega⟩, hbb.mono hb⟩
  · have := (hol.lt k hk).2; omega
  · have := (hof.lt k hk).2; omega
theorem Sb.out0 (h : Sb w base p q r d X e W) (x : Int) : DE base w zD10 x (.returned (.tuple #[.agg #[.int .i64 0, .slice none 0 0, .slice none 0 0], .int .i64 x])) (((W.setCell ⟨r, 0, none⟩ (.int .i64 0)).setCell ⟨r, 1, none⟩ (.slice none 0 0)).setCell ⟨r, 2, none⟩ (.slice none 0 0)) := by
  have hp := h.pq
  exact ⟨zDx, rfl, zDx_nw _, DR.zero, ((h.bel.setCell (p := ⟨r, 0, none⟩) (show base ≤ r by omega) _).setCell (p := ⟨r, 1, none⟩) (show base ≤ r by omega) _).setCell (p := ⟨r, 2, none⟩) (show base ≤ r by omega) _⟩
theorem Sb.out (h : Sb w base p q r d X e W) (x : Int) : DE base w d x (.returned (.tuple #[dv d X, .int .i64 x])) (((W.setCell ⟨r, 0, none⟩ (.int .i64 d.vn)).setCell ⟨r, 1, none⟩ (.slice X.A d.l.length X.c)).setCell ⟨r, 2, none⟩ (.slice X.A2 d.F.length X.c2)) := by
  have hp := h.pq
  have f : ∀ o, DOff d X (⟨r, o, none⟩ : Addr).block := fun o => ⟨fun a ea _ => (h.ll a.block (by rw [ea]; rfl)).2.2, fun a ea _ => (h.lf a.block (by rw [ea]; rfl)).2.2⟩
  have k1 := h.dr.offp (q := ⟨r, 0, none⟩) (f 0) (.int .i64 d.vn)
  have k2 := k1.offp (q := ⟨r, 1, none⟩) (f 1) (.slice X.A d.l.length X.c)
  have k3 := k2.offp (q := ⟨r, 2, none⟩) (f 2) (.slice X.A2 d.F.length X.c2)
  exact ⟨X, rfl, h.nw, k3.more (by simp), ((h.bel.setCell (p := ⟨r, 0, none⟩) (show base ≤ r by omega) _).setCell (p := ⟨r, 1, none⟩) (show base ≤ r by omega) _).setCell (p := ⟨r, 2, none⟩) (show base ≤ r by omega) _⟩
/-- Another list of spans, that lies in the elder's place or in a new one. -/
theorem Sb.newL (h : Sb w base p q r d X e W) {A : Option Addr} {c g : Nat} {l' : List Sp} (hg : X.A = some ⟨g, 0, none⟩) (hw : W.grownBy W' (some g)) (ho : W'.ownsRow base 44 3 (.slice A l'.length c) l'.length (scs l')) (hn : ∀ k, (Value.slice A l'.length c).ownBlock = some k → some g = some k ∨ W.heap.size ≤ k) :
    Sb w base p q r ⟨d.vn, l', d.F⟩ ⟨A, c, X.A2, X.c2⟩ e (W'.setCell ⟨p, 1, none⟩ (.slice A l'.length c)) := by
  have hk : (Value.slice X.A d.l.length X.c).ownBlock = some g := by rw [hg]; rfl
  have hne := h.ll g hk
  have hp := h.pq
  obtain ⟨hb, -⟩ := h.ol.lt g hk
  have hd := h.db.grown hw hne.1.symm
  have hL : ∀ k, (Value.slice A l'.length c).ownBlock = some k → k ≠ p ∧ k ≠ q ∧ k ≠ r := fun k hk' => by
    rcases hn k hk' with e | e
    · injection e with e; subst e; exact hne
    · have h1 := h.db.lt
      have h2 := h.eb.lt
      have h3 := h.rb.lt
      omega
  refine ⟨⟨by simp [go_sem, hd.c0], by simp [go_sem, hd.c1], by simp [go_sem, hd.c2], fun o => by simp [go_sem, hd.fr o], by simp [hd.lt]⟩, (h.eb.grown hw hne.2.1.symm).other (a := ⟨p, 1, none⟩) (show p ≠ q by omega) _, (h.rb.grown hw hne.2.2.symm).other (a := ⟨p, 1, none⟩) (show p ≠ r by omega) _, own_oth ho (fun k hk' => (hL k hk').1) _, own_oth (own_far10 h.of hw (h.dis g hk)) (fun k hk' => (h.lf k hk').1) _, fun k hk' => ?_, hL, h.lf, h.pq, (h.bel.grown hw (Nat.le_trans hp.1 h.bel.size) (fun k e => by injection e with e; subst e; exact hb)).setCell (p := ⟨p, 1, none⟩) (show base ≤ p by omega) _⟩
  rcases hn k hk' with e | e
  · injection e with e; subst e; exact h.dis g hk
  · intro e2; have := (h.of.lt k e2).2; omega
/-- A store into the forwards. -/
theorem Sb.setF (h : Sb w base p q r d X e W) {g : Nat} (hg : X.A2 = some ⟨g, 0, none⟩) (j : Nat) (u : Int) :
    Sb w base p q r ⟨d.vn, d.l, d.F.set j u⟩ X e (W.setCell ⟨g, j, none⟩ (.int .i64 u)) := by
  have hk : (Value.slice X.A2 d.F.length X.c2).ownBlock = some g := by rw [hg]; rfl
  have hne := h.lf g hk
  have ho := h.of
  rw [hg] at ho
  have hst := (ho.stored j (.int .i64 u)).1
  have e1 : (ics d.F).set j (.int .i64 u) = ics (d.F.set j u) := by simp [ics, List.map_set, i64v]
  rw [e1, ← hg] at hst
  have e2 : (d.F.set j u).length = d.F.length := by simp
  obtain ⟨hb, -⟩ := ho.lt g rfl
  have hd := h.db.other (a := ⟨g, j, none⟩) hne.1 (.int .i64 u)
  refine ⟨⟨hd.c0, hd.c1, by have := hd.c2; rw [← e2] at this; exact this, hd.fr, hd.lt⟩, h.eb.other (a := ⟨g, j, none⟩) hne.2.1 _, h.rb.other (a := ⟨g, j, none⟩) hne.2.2 _, own_oth h.ol (fun k hk' e => ?_) _, by rw [← e2] at hst; exact hst, ?_, h.ll, ?_, h.pq, h.bel.setCell (p := ⟨g, j, none⟩) hb _⟩
  · have e' : k = g := e
    rw [e'] at hk'; exact h.dis g hk' hk
  · intro k hk' e; exact h.dis k hk' (by rw [hg] at e ⊢; exact e)
  · intro k hk'; exact h.lf k (by rw [hg] at hk' ⊢; exact hk')
end
/-- The address of a list that has an element. -/
theorem own_addr {W : World} {base size n c : Nat} {t : TypeId} {A : Option Addr} {xs : List Value} (h : W.ownsRow base t size (.slice A n c) n xs) (h0 : 0 < n) : ∃ g, A = some ⟨g, 0, none⟩ := by
  rcases h.2 with ⟨_, h1⟩ | ⟨g, cap, cur, hv, _⟩
  · omega
  · injection hv with hA _ _
    exact ⟨g, hA⟩

end Go.Proofs.Ytkecnihgjepfeaa
namespace Go.Proofs.Ytkecnihgjepfeaa
open Go.RowKit
set_option linter.unusedVariables false

/-- Some change, made by a source. -/
def SrEdit (B g : Nat) (n : Int) (w : World) (e : Ending) (w' : World) : Prop := ∃ E : Ed, e = .returned E.v ∧ (E.kd = 1 ∨ E.kd = 2) ∧ (0 ≤ E.fr ∧ E.fr ≤ n - 1) ∧ (0 ≤ E.to ∧ E.to ≤ n - 1) ∧ (0 ≤ E.md ∧ E.md ≤ 65534) ∧ SrcAt w' B g ∧ w.grownBy w' (some g)
/-- A change in a block that may be written. -/
structure EW (W : World) (q : Nat) (e : Ed) : Prop where
  eb : EB W q e
  ef : ∀ o, W.frozen? ⟨q, o, none⟩ = false
section
variable {W W' : World} {q g : Nat} {e : Ed}
theorem EW.start (w : World) (e : Ed) (t : TypeId) : EW (w.alloc (.cells #[.int .i64 e.kd, .int .i64 e.fr, .int .i64 e.to, .int .i64 e.md] t)) w.heap.size e := ⟨EB.start w e t, fun o => by simp [go_sem]⟩
theorem EW.grown (h : EW W q e) (hg : W.grownBy W' (some g)) (hne : q ≠ g) : EW W' q e := ⟨h.eb.grown hg hne, fun o => (hg.frozen_far ⟨q, o, none⟩ h.eb.lt (fun e => by injection e with e; exact hne e)).trans (h.ef o)⟩
theorem EW.alloc (h : EW W q e) (o : Obj) : EW (W.alloc o) q e := ⟨h.eb.alloc o, fun k => (((Below.refl W.heap.size W).alloc (Nat.le_refl _) o).frozen (p := ⟨q, k, none⟩) h.eb.lt).trans (h.ef k)⟩
theorem EW.other (h : EW W q e) {a : Addr} (hne : a.block ≠ q) (v : Value) : EW (W.setCell a v) q e := ⟨h.eb.other hne v, fun o => by simp [go_sem, h.ef o]⟩
theorem EW.all (h : EW W q e) : (W.cell? ⟨q, 0, none⟩ = some (.int .i64 e.kd) ∧ W.cell? ⟨q, 1, none⟩ = some (.int .i64 e.fr) ∧ W.cell? ⟨q, 2, none⟩ = some (.int .i64 e.to) ∧ W.cell? ⟨q, 3, none⟩ = some (.int .i64 e.md) ∧ q < W.heap.size) ∧ W.frozen? ⟨q, 0, none⟩ = false ∧ W.frozen? ⟨q, 1, none⟩ = false ∧ W.frozen? ⟨q, 2, none⟩ = false ∧ W.frozen? ⟨q, 3, none⟩ = false :=
  ⟨⟨h.eb.c0, h.eb.c1, h.eb.c2, h.eb.c3, h.eb.lt⟩, h.ef 0, h.ef 1, h.ef 2, h.ef 3⟩
end

theorem rowd_cells (w : World) (zs : List Int) (t : TypeId) : ∀ j (hj : j < zs.length), (w.alloc (.cells (zs.map i64v).toArray t)).cell? ⟨w.heap.size, j, none⟩ = some (.int .i64 zs[j]) := by
  intro j hj
  rw [World.cell?_alloc_new]
  simp [hj, i64v]
theorem pick8 : ∀ x ∈ ([0, 10000, 20000, 32767, 32768, 40000, 50000, 65534] : List Int), 0 ≤ x ∧ x ≤ 65534 := by decide

set_option maxHeartbeats 8000000 in
set_option maxRecDepth 20000 in
theorem edit_any (B g : Nat) (w : World) (h : SrcAt w B g) (n : Int) (h1 : 1 ≤ n) (h2 : n ≤ 1000) : Calls Try.prog 23 #[.pointer (some ⟨g, 0, none⟩), .int .i64 n] w (SrEdit B g n w) := by
  have H := Lib.hid h
  have HL := Lib.hid (And.intro h1 h2)
  have HR := Lib.hid (EW.start w ⟨0, 0, 0, 0⟩ 55)
  obtain ⟨r, hr⟩ : ∃ r, r = w.heap.size := ⟨_, rfl⟩
  have HG0 := Lib.hid (only_alloc (World.grownBy.refl w (some g)) (.cells #[.int .i64 0, .int .i64 0, .int .i64 0, .int .i64 0] 55))
  have HS0 := Lib.hid (h.alloc (.cells #[.int .i64 0, .int .i64 0, .int .i64 0, .int .i64 0] 55))
  have HRN := Lib.hid (show r ≠ g ∧ B ≤ r ∧ w.heap.size ≤ r by have := h.1; have := h.2.1; omega)
  rw [← hr] at HR
  clear h h1 h2
  go_enter Try.func23, Try.ntmps23
  go_wp2_with fail
  rw [← hr]
  generalize w.alloc (.cells #[.int .i64 0, .int .i64 0, .int .i64 0, .int .i64 0] 55) = w0 at *
  clear hr
  refine (range_any B g _ HS0.out 1 2 (by omega) (by omega) (by omega)).mono ?_
  rintro e w1 ⟨x, rfl, x1, x2, hs, hg⟩
  have HX := Lib.hid (And.intro x1 x2)
  have HS1 := Lib.hid hs
  have HG1 := Lib.hid (HG0.out.trans hg)
  have HR1 := Lib.hid (HR.out.grown hg HRN.out.1)
  clear hs hg HS0 HG0 HR x1 x2
  go_wp2_with fail
  refine (n_any B g _ HS1.out n HL.out.1 (by have := HL.out.2; omega)).mono ?_
  rintro e w2 ⟨a, rfl, a1, a2, hs, hg⟩
  have HA := Lib.hid (And.intro a1 a2)
  have HS2 := Lib.hid hs
  have HG2 := Lib.hid (HG1.out.trans hg)
  have HR2 := Lib.hid (HR1.out.grown hg HRN.out.1)
  clear hs hg HS1 HG1 HR1 a1 a2
  go_wp2_with fail
  refine (n_any B g _ HS2.out n HL.out.1 (by have := HL.out.2; omega)).mono ?_
  rintro e w3 ⟨b, rfl, b1, b2, hs, hg⟩
  have HB := Lib.hid (And.intro b1 b2)
  have HR3 := Lib.hid ((HR2.out.grown hg HRN.out.1).alloc (.cells #[.int .i64 x, .int .i64 a, .int .i64 b, .int .i64 0] 55))
  have HS3 := Lib.hid (hs.alloc (.cells #[.int .i64 x, .int .i64 a, .int .i64 b, .int .i64 0] 55))
  have HG3 := Lib.hid (only_alloc (HG2.out.trans hg) (.cells #[.int .i64 x, .int .i64 a, .int .i64 b, .int .i64 0] 55))
  have HK3 := Lib.hid (EW.start w3 ⟨x, a, b, 0⟩ 55)
  obtain ⟨k, hk⟩ : ∃ k, k = w3.heap.size := ⟨_, rfl⟩
  have HKN := Lib.hid (show (k ≠ g ∧ B ≤ k ∧ w.heap.size ≤ k) ∧ r ≠ k by
    have := hs.1; have := hs.2.1; have := (HG2.out.trans hg).size; have := (HR2.out.grown hg HRN.out.1).eb.lt; omega)
  rw [← hk] at HK3
  clear hs hg HS2 HG2 HR2 b1 b2
  by_cases hx : x = 1
  · subst hx
    have HSZ := Lib.hid (show (w3.alloc (.cells #[.int .i64 1, .int .i64 a, .int .i64 b, .int .i64 0] 55)).heap.size = k + 1 by rw [hk]; simp)
    go_wp2_with fail
    rw [← hk]
    generalize w3.alloc (.cells #[.int .i64 1, .int .i64 a, .int .i64 b, .int .i64 0] 55) = w4 at *
    clear hk
    refine (pick_any B g (w4.alloc (.cells #[.int .i64 0, .int .i64 10000, .int .i64 20000, .int .i64 32767, .int .i64 32768, .int .i64 40000, .int .i64 50000, .int .i64 65534] 3)) (HS3.out.alloc _) (k + 1) 8 [0, 10000, 20000, 32767, 32768, 40000, 50000, 65534] rfl (by rw [← HSZ.out]; simp) (by have := HS3.out.2.1; have := HSZ.out; omega) (by omega) (by omega) (by rw [← HSZ.out]; exact rowd_cells w4 [0, 10000, 20000, 32767, 32768, 40000, 50000, 65534] 3)).mono ?_
    rintro e w5 ⟨y, rfl, hy, hs, hg⟩
    have HY := Lib.hid (pick8 y hy)
    have HS5 := Lib.hid hs
    have HG5 := Lib.hid ((only_alloc HG3.out (.cells #[.int .i64 0, .int .i64 10000, .int .i64 20000, .int .i64 32767, .int .i64 32768, .int .i64 40000, .int .i64 50000, .int .i64 65534] 3)).trans hg)
    have HK5 := Lib.hid ((HK3.out.alloc (.cells #[.int .i64 0, .int .i64 10000, .int .i64 20000, .int .i64 32767, .int .i64 32768, .int .i64 40000, .int .i64 50000, .int .i64 65534] 3)).grown hg HKN.out.1.1)
    have HR5 := Lib.hid ((HR3.out.alloc (.cells #[.int .i64 0, .int .i64 10000, .int .i64 20000, .int .i64 32767, .int .i64 32768, .int .i64 40000, .int .i64 50000, .int .i64 65534] 3)).grown hg HRN.out.1)
    clear hs hg hy HS3 HG3 HK3 HR3
    obtain ⟨⟨r0, r1, r2, r3, rl⟩, g0, g1, g2, g3⟩ := HR5.out.all
    obtain ⟨⟨k0, k1, k2, k3, kl⟩, f0, f1, f2, f3⟩ := HK5.out.all
    dsimp only at k0 k1 k2 k3 r0 r1 r2 r3
    have hrk := HKN.out.2
    have hkr : k ≠ r := fun e => hrk e.symm
    go_wp2
    exact bodyPost_ret (v := Ed.v ⟨1, a, b, y⟩) (by simp only [results, Try.results23]; go_simp <;> rfl) rfl ⟨_, rfl, .inl rfl, HA.out, HB.out, HY.out, ((((HS5.out.other (p := ⟨k, 3, none⟩) HKN.out.1.1 HKN.out.1.2.1 _).other (p := ⟨r, 0, none⟩) HRN.out.1 HRN.out.2.1 _).other (p := ⟨r, 1, none⟩) HRN.out.1 HRN.out.2.1 _).other (p := ⟨r, 2, none⟩) HRN.out.1 HRN.out.2.1 _).other (p := ⟨r, 3, none⟩) HRN.out.1 HRN.out.2.1 _, only_set (only_set (only_set (only_set (only_set HG5.out (p := ⟨k, 3, none⟩) (.inr HKN.out.1.2.2) _) (p := ⟨r, 0, none⟩) (.inr HRN.out.2.2) _) (p := ⟨r, 1, none⟩) (.inr HRN.out.2.2) _) (p := ⟨r, 2, none⟩) (.inr HRN.out.2.2) _) (p := ⟨r, 3, none⟩) (.inr HRN.out.2.2) _⟩
  · have hx2 : x = 2 := by have := HX.out; omega
    subst hx2
    have HGG := Lib.hid (And.intro HS3.out (And.intro HG3.out (And.intro HR3.out HK3.out)))
    go_upto_region 2 with (fail)
    rw [← hk]
    generalize w3.alloc (.cells #[.int .i64 2, .int .i64 a, .int .i64 b, .int .i64 0] 55) = w4 at *
    clear hk hx HGG
    obtain ⟨⟨r0, r1, r2, r3, rl⟩, g0, g1, g2, g3⟩ := HR3.out.all
    obtain ⟨⟨k0, k1, k2, k3, kl⟩, f0, f1, f2, f3⟩ := HK3.out.all
    dsimp only at k0 k1 k2 k3 r0 r1 r2 r3
    have hrk := HKN.out.2
    have hkr : k ≠ r := fun e => hrk e.symm
    go_wp2
    exact bodyPost_ret (v := Ed.v ⟨2, a, b, 0⟩) (by simp only [results, Try.results23]; go_simp <;> rfl) rfl ⟨_, rfl, .inr rfl, HA.out, HB.out, (show (0 : Int) ≤ 0 ∧ (0 : Int) ≤ 65534 by omega), (((HS3.out.other (p := ⟨r, 0, none⟩) HRN.out.1 HRN.out.2.1 _).other (p := ⟨r, 1, none⟩) HRN.out.1 HRN.out.2.1 _).other (p := ⟨r, 2, none⟩) HRN.out.1 HRN.out.2.1 _).other (p := ⟨r, 3, none⟩) HRN.out.1 HRN.out.2.1 _, only_set (only_set (only_set (only_set HG3.out (p := ⟨r, 0, none⟩) (.inr HRN.out.2.2) _) (p := ⟨r, 1, none⟩) (.inr HRN.out.2.2) _) (p := ⟨r, 2, none⟩) (.inr HRN.out.2.2) _) (p := ⟨r, 3, none⟩) (.inr HRN.out.2.2) _⟩
end Go.Proofs.Ytkecnihgjepfeaa
