/- What is proved here: directory.split by a contract; Edit of the statements' base returns some change; a source of the statements' base and a directory in a box beside it; (plain) the ways of forwards behind a split and a merge; (plain) a change of a valid directory gives a valid one. -/
import Derived.Test.YtkecnihgjepfeaaJ04
import Derived.Test.YtkecnihgjepfeaaRows
import Derived.Test.YtkecnihgjepfeaaJ01
import Derived.WalkKit
import Derived.Outline
import Derived.IntWalk
import Derived.Deep.RegionHeld3
import Derived.Deep.DrawnRows
import Derived.Deep.RegionWith
import Derived.Laws.Slices
import Derived.Lib.Overlaps
import Derived.Laws.Externs
import Derived.Lib.AppendZerosOnto
import Derived.ArgAppend
import Derived.Deep.CutBlock
import Derived.Deep.DeepCutAuto
import Derived.KernelRfl
import Derived.Test.YtkecnihgjepfeaaJ02
import Derived.Test.YtkecnihgjepfeaaJ03
namespace Go.Proofs.Ytkecnihgjepfeaa
open Go.RowKit
set_option linter.unusedVariables false

/-- A change as a value. -/
abbrev Ed.v (e : Ed) : Value := .agg #[.int .i64 e.kd, .int .i64 e.fr, .int .i64 e.to, .int .i64 e.md]
/-- Block q holds a change. -/
structure EB (W : World) (q : Nat) (e : Ed) : Prop where
  c0 : W.cell? ⟨q, 0, none⟩ = some (.int .i64 e.kd)
  c1 : W.cell? ⟨q, 1, none⟩ = some (.int .i64 e.fr)
  c2 : W.cell? ⟨q, 2, none⟩ = some (.int .i64 e.to)
  c3 : W.cell? ⟨q, 3, none⟩ = some (.int .i64 e.md)
  lt : q < W.heap.size
section
variable {W W' : World} {q g : Nat} {e : Ed}
theorem EB.keep (h : EB W q e) (hc : ∀ o, W'.cell? ⟨q, o, none⟩ = W.cell? ⟨q, o, none⟩) (hs : W.heap.size ≤ W'.heap.size) : EB W' q e :=
  ⟨(hc 0).trans h.c0, (hc 1).trans h.c1, (hc 2).trans h.c2, (hc 3).trans h.c3, Nat.lt_of_lt_of_le h.lt hs⟩
theorem EB.up (h : EB W q e) (hb : Below W.heap.size W W') : EB W' q e := h.keep (fun o => hb.cell (p := ⟨q, o, none⟩) h.lt) hb.size
theorem EB.alloc (h : EB W q e) (o : Obj) : EB (W.alloc o) q e := h.up ((Below.refl _ _).alloc (Nat.le_refl _) o)
theorem EB.other (h : EB W q e) {a : Addr} (hne : a.block ≠ q) (v : Value) : EB (W.setCell a v) q e :=
  h.keep (fun o => World.cell?_setCell_other W a ⟨q, o, none⟩ v (fun e => hne (by rw [e]))) (by simp)
theorem EB.grown (h : EB W q e) (hg : W.grownBy W' (some g)) (hne : q ≠ g) : EB W' q e := h.keep (fun o => hg.cell_far ⟨q, o, none⟩ h.lt (fun e => by injection e with e; exact hne e)) hg.size
theorem EB.start (w : World) (e : Ed) (t : TypeId) : EB (w.alloc (.cells #[.int .i64 e.kd, .int .i64 e.fr, .int .i64 e.to, .int .i64 e.md] t)) w.heap.size e :=
  ⟨by simp [go_sem], by simp [go_sem], by simp [go_sem], by simp [go_sem], by simp⟩
end
/-- A directory with lists of the call's own and an error as a result. -/
def DE (base : Nat) (w : World) (d : Dd) (x : Int) (e : Ending) (w' : World) : Prop := ∃ X, e = .returned (.tuple #[dv d X, .int .i64 x]) ∧ X.nw base ∧ DR w' w'.heap.size d X ∧ Below base w w'
/-- The boxes of split and merge: a directory with lists of the call's own, a change, a result. -/
structure Sb (w : World) (base p q r : Nat) (d : Dd) (X : Dx) (e : Ed) (W : World) : Prop where
  db : Db10 W p d X
  eb : EB W q e
  rb : Db10 W r zD10 zDx
  ol : W.ownsRow base 44 3 (.slice X.A d.l.length X.c) d.l.length (scs d.l)
  of : W.ownsRow base 3 1 (.slice X.A2 d.F.length X.c2) d.F.length (ics d.F)
  dis : ∀ k, (Value.slice X.A d.l.length X.c).ownBlock = some k → (Value.slice X.A2 d.F.length X.c2).ownBlock ≠ some k
  ll : ∀ k, (Value.slice X.A d.l.length X.c).ownBlock = some k → k ≠ p ∧ k ≠ q ∧ k ≠ r
  lf : ∀ k, (Value.slice X.A2 d.F.length X.c2).ownBlock = some k → k ≠ p ∧ k ≠ q ∧ k ≠ r
  pq : base ≤ w.heap.size ∧ w.heap.size ≤ p ∧ p < q ∧ q < r
  bel : Below base w W
section
variable {w W W' : World} {base p q r : Nat} {d : Dd} {X : Dx} {e : Ed}
theorem own_up10 {size n : Nat} {t : TypeId} {v : Value} {xs : List Value} (h : W.ownsRow base t size v n xs) (hb : Below W.heap.size W W') : W'.ownsRow base t size v n xs :=
  ⟨h.1, h.2.imp_right fun ⟨g, cap, cur, hv, hg, hh, rr⟩ => ⟨g, cap, cur, hv, hg, (hb.block g (Array.getElem?_eq_some_iff.1 hh).1).trans hh, rr⟩⟩
theorem own_oth {size n : Nat} {t : TypeId} {v : Value} {xs : List Value} (h : W.ownsRow base t size v n xs) {a : Addr} (ha : ∀ k, v.ownBlock = some k → k ≠ a.block) (u : Value) : (W.setCell a u).ownsRow base t size v n xs :=
  ⟨h.1, h.2.imp_right fun ⟨g, cap, cur, hv, hg, hh, rr⟩ => ⟨g, cap, cur, hv, hg, (Below.heap_setCell W a u g (by
    have := ha g (by rw [hv]; rfl)
    intro e; exact this e)).trans hh, rr⟩⟩
theorem own_far10 {size n g : Nat} {t : TypeId} {v : Value} {xs : List Value} (h : W.ownsRow base t size v n xs) (hg : W.grownBy W' (some g)) (hne : v.ownBlock ≠ some g) : W'.ownsRow base t size v n xs :=
  ⟨h.1, h.2.imp_right fun ⟨k, cap, cur, hv, hk, hh, rr⟩ => ⟨k, cap, cur, hv, hk, (hg.block k (Array.getElem?_eq_some_iff.1 hh).1 (by
    rw [hv] at hne
    exact hne)).trans hh, rr⟩⟩
theorem Sb.dr (h : Sb w base p q r d X e W) : DR W W.heap.size d X := ⟨Pl.of_own h.ol, Fl.of_own h.of⟩
theorem Sb.below (h : Sb w base p q r d X e W) (hb : Below W.heap.size W W') : Sb w base p q r d X e W' :=
  ⟨h.db.up hb, h.eb.up hb, h.rb.up hb, own_up10 h.ol hb, own_up10 h.of hb, h.dis, h.ll, h.lf, h.pq, h.bel.trans (hb.mono (Nat.le_trans h.pq.1 h.bel.size))⟩
theorem Sb.nw (h : Sb w base p q r d X e W) : X.nw base := ⟨nwv_of (nwv_own h.ol (Nat.le_refl _)), nwv_of (nwv_own h.of (Nat.le_refl _))⟩
theorem Sb.start (d : Dd) (X : Dx) (e : Ed) (hb : base ≤ w.heap.size) (hol : w.ownsRow base 44 3 (.slice X.A d.l.length X.c) d.l.length (scs d.l)) (hof : w.ownsRow base 3 1 (.slice X.A2 d.F.length X.c2) d.F.length (ics d.F))
    (hd : ∀ k, (Value.slice X.A d.l.length X.c).ownBlock = some k → (Value.slice X.A2 d.F.length X.c2).ownBlock ≠ some k) :
    Sb w base w.heap.size (w.heap.size + 1) (w.heap.size + 1 + 1) d X e (((w.alloc (.cells #[.int .i64 d.vn, .slice X.A d.l.length X.c, .slice X.A2 d.F.length X.c2] 40)).alloc (.cells #[.int .i64 e.kd, .int .i64 e.fr, .int .i64 e.to, .int .i64 e.md] 55)).alloc (.cells #[.int .i64 0, .slice none 0 0, .slice none 0 0] 40)) := by
  have e1 : (w.alloc (.cells #[.int .i64 d.vn, .slice X.A d.l.length X.c, .slice X.A2 d.F.length X.c2] 40)).heap.size = w.heap.size + 1 := by simp
  have e2 : ((w.alloc (.cells #[.int .i64 d.vn, .slice X.A d.l.length X.c, .slice X.A2 d.F.length X.c2] 40)).alloc (.cells #[.int .i64 e.kd, .int .i64 e.fr, .int .i64 e.to, .int .i64 e.md] 55)).heap.size = w.heap.size + 1 + 1 := by simp
  have h1 := (EB.start (w.alloc (.cells #[.int .i64 d.vn, .slice X.A d.l.length X.c, .slice X.A2 d.F.length X.c2] 40)) e 55).alloc (.cells #[.int .i64 0, .slice none 0 0, .slice none 0 0] 40)
  have h2 := Db10.zero ((w.alloc (.cells #[.int .i64 d.vn, .slice X.A d.l.length X.c, .slice X.A2 d.F.length X.c2] 40)).alloc (.cells #[.int .i64 e.kd, .int .i64 e.fr, .int .i64 e.to, .int .i64 e.md] 55)) 40
  rw [e1] at h1
  rw [e2] at h2
  have hbb : Below w.heap.size w (((w.alloc (.cells #[.int .i64 d.vn, .slice X.A d.l.length X.c, .slice X.A2 d.F.length X.c2] 40)).alloc (.cells #[.int .i64 e.kd, .int .i64 e.fr, .int .i64 e.to, .int .i64 e.md] 55)).alloc (.cells #[.int .i64 0, .slice none 0 0, .slice none 0 0] 40)) :=
    (((Below.refl _ _).alloc (Nat.le_refl _) _).alloc (by simp) _).alloc (by simp; omega) _
  refine ⟨((Db10.start w d X _).alloc _).alloc _, h1, h2, own_up10 hol hbb, own_up10 hof hbb, hd, fun k hk => ?_, fun k hk => ?_, ⟨hb, Nat.le_refl _, by omega, by omega⟩, hbb.mono hb⟩
  · have := (hol.lt k hk).2; omega
  · have := (hof.lt k hk).2; omega
theorem Sb.out0 (h : Sb w base p q r d X e W) (x : Int) : DE base w zD10 x (.returned (.tuple #[.agg #[.int .i64 0, .slice none 0 0, .slice none 0 0], .int .i64 x])) (((W.setCell ⟨r, 0, none⟩ (.int .i64 0)).setCell ⟨r, 1, none⟩ (.slice none 0 0)).setCell ⟨r, 2, none⟩ (.slice none 0 0)) := by
  have hp := h.pq
  exact ⟨zDx, rfl, zDx_nw _, DR.zero, ((h.bel.setCell (p := ⟨r, 0, none⟩) (show base ≤ r by omega) _).setCell (p := ⟨r, 1, none⟩) (show base ≤ r by omega) _).setCell (p := ⟨r, 2, none⟩) (show base ≤ r by omega) _⟩
theorem Sb.out (h : Sb w base p q r d X e W) (x : Int) : DE base w d x (.returned (.tuple #[dv d X, .int .i64 x])) (((W.setCell ⟨r, 0, none⟩ (.int .i64 d.vn)).setCell ⟨r, 1, none⟩ (.slice X.A d.l.length X.c)).setCell ⟨r, 2, none⟩ (.slice X.A2 d.F.length X.c2)) := by
  have hp := h.pq
  have f : ∀ o, DOff d X (⟨r, o, none⟩ : Addr).block := fun o => ⟨fun a ea _ => (h.ll a.block (by rw [ea]; rfl)).2.2, fun a ea _ => (h.lf a.block (by rw [ea]; rfl)).2.2⟩
  have k1 := h.dr.offp (q := ⟨r, 0, none⟩) (f 0) (.int .i64 d.vn)
  have k2 := k1.offp (q := ⟨r, 1, none⟩) (f 1) (.slice X.A d.l.length X.c)
  have k3 := k2.offp (q := ⟨r, 2, none⟩) (f 2) (.slice X.A2 d.F.length X.c2)
  exact ⟨X, rfl, h.nw, k3.more (by simp), ((h.bel.setCell (p := ⟨r, 0, none⟩) (show base ≤ r by omega) _).setCell (p := ⟨r, 1, none⟩) (show base ≤ r by omega) _).setCell (p := ⟨r, 2, none⟩) (show base ≤ r by omega) _⟩
/-- Another list of spans, that lies in the elder's place or in a new one. -/
theorem Sb.newL (h : Sb w base p q r d X e W) {A : Option Addr} {c g : Nat} {l' : List Sp} (hg : X.A = some ⟨g, 0, none⟩) (hw : W.grownBy W' (some g)) (ho : W'.ownsRow base 44 3 (.slice A l'.length c) l'.length (scs l')) (hn : ∀ k, (Value.slice A l'.length c).ownBlock = some k → some g = some k ∨ W.heap.size ≤ k) :
    Sb w base p q r ⟨d.vn, l', d.F⟩ ⟨A, c, X.A2, X.c2⟩ e (W'.setCell ⟨p, 1, none⟩ (.slice A l'.length c)) := by
  have hk : (Value.slice X.A d.l.length X.c).ownBlock = some g := by rw [hg]; rfl
  have hne := h.ll g hk
  have hp := h.pq
  obtain ⟨hb, -⟩ := h.ol.lt g hk
  have hd := h.db.grown hw hne.1.symm
  have hL : ∀ k, (Value.slice A l'.length c).ownBlock = some k → k ≠ p ∧ k ≠ q ∧ k ≠ r := fun k hk' => by
    rcases hn k hk' with e | e
    · injection e with e; subst e; exact hne
    · have h1 := h.db.lt
      have h2 := h.eb.lt
      have h3 := h.rb.lt
      omega
  refine ⟨⟨by simp [go_sem, hd.c0], by simp [go_sem, hd.c1], by simp [go_sem, hd.c2], fun o => by simp [go_sem, hd.fr o], by simp [hd.lt]⟩, (h.eb.grown hw hne.2.1.symm).other (a := ⟨p, 1, none⟩) (show p ≠ q by omega) _, (h.rb.grown hw hne.2.2.symm).other (a := ⟨p, 1, none⟩) (show p ≠ r by omega) _, own_oth ho (fun k hk' => (hL k hk').1) _, own_oth (own_far10 h.of hw (h.dis g hk)) (fun k hk' => (h.lf k hk').1) _, fun k hk' => ?_, hL, h.lf, h.pq, (h.bel.grown hw (Nat.le_trans hp.1 h.bel.size) (fun k e => by injection e with e; subst e; exact hb)).setCell (p := ⟨p, 1, none⟩) (show base ≤ p by omega) _⟩
  rcases hn k hk' with e | e
  · injection e with e; subst e; exact h.dis g hk
  · intro e2; have := (h.of.lt k e2).2; omega
/-- A store into the forwards. -/
theorem Sb.setF (h : Sb w base p q r d X e W) {g : Nat} (hg : X.A2 = some ⟨g, 0, none⟩) (j : Nat) (u : Int) :
    Sb w base p q r ⟨d.vn, d.l, d.F.set j u⟩ X e (W.setCell ⟨g, j, none⟩ (.int .i64 u)) := by
  have hk : (Value.slice X.A2 d.F.length X.c2).ownBlock = some g := by rw [hg]; rfl
  have hne := h.lf g hk
  have ho := h.of
  rw [hg] at ho
  have hst := (ho.stored j (.int .i64 u)).1
  have e1 : (ics d.F).set j (.int .i64 u) = ics (d.F.set j u) := by simp [ics, List.map_set, i64v]
  rw [e1, ← hg] at hst
  have e2 : (d.F.set j u).length = d.F.length := by simp
  obtain ⟨hb, -⟩ := ho.lt g rfl
  have hd := h.db.other (a := ⟨g, j, none⟩) hne.1 (.int .i64 u)
  refine ⟨⟨hd.c0, hd.c1, by have := hd.c2; rw [← e2] at this; exact this, hd.fr, hd.lt⟩, h.eb.other (a := ⟨g, j, none⟩) hne.2.1 _, h.rb.other (a := ⟨g, j, none⟩) hne.2.2 _, own_oth h.ol (fun k hk' e => ?_) _, by rw [← e2] at hst; exact hst, ?_, h.ll, ?_, h.pq, h.bel.setCell (p := ⟨g, j, none⟩) hb _⟩
  · have e' : k = g := e
    rw [e'] at hk'; exact h.dis g hk' hk
  · intro k hk' e; exact h.dis k hk' (by rw [hg] at e ⊢; exact e)
  · intro k hk'; exact h.lf k (by rw [hg] at hk' ⊢; exact hk')
end
/-- The address of a list that has an element. -/
theorem own_addr {W : World} {base size n c : Nat} {t : TypeId} {A : Option Addr} {xs : List Value} (h : W.ownsRow base t size (.slice A n c) n xs) (h0 : 0 < n) : ∃ g, A = some ⟨g, 0, none⟩ := by
  rcases h.2 with ⟨_, h1⟩ | ⟨g, cap, cur, hv, _⟩
  · omega
  · injection hv with hA _ _
    exact ⟨g, hA⟩

end Go.Proofs.Ytkecnihgjepfeaa
namespace Go.Proofs.Ytkecnihgjepfeaa
open Go.RowKit
set_option linter.unusedVariables false

/-- Some change, made by a source. -/
def SrEdit (B g : Nat) (n : Int) (w : World) (e : Ending) (w' : World) : Prop := ∃ E : Ed, e = .returned E.v ∧ (E.kd = 1 ∨ E.kd = 2) ∧ (0 ≤ E.fr ∧ E.fr ≤ n - 1) ∧ (0 ≤ E.to ∧ E.to ≤ n - 1) ∧ (0 ≤ E.md ∧ E.md ≤ 65534) ∧ SrcAt w' B g ∧ w.grownBy w' (some g)
/-- A change in a block that may be written. -/
structure EW (W : World) (q : Nat) (e : Ed) : Prop where
  eb : EB W q e
  ef : ∀ o, W.frozen? ⟨q, o, none⟩ = false
section
variable {W W' : World} {q g : Nat} {e : Ed}
theorem EW.start (w : World) (e : Ed) (t : TypeId) : EW (w.alloc (.cells #[.int .i64 e.kd, .int .i64 e.fr, .int .i64 e.to, .int .i64 e.md] t)) w.heap.size e := ⟨EB.start w e t, fun o => by simp [go_sem]⟩
theorem EW.grown (h : EW W q e) (hg : W.grownBy W' (some g)) (hne : q ≠ g) : EW W' q e := ⟨h.eb.grown hg hne, fun o => (hg.frozen_far ⟨q, o, none⟩ h.eb.lt (fun e => by injection e with e; exact hne e)).trans (h.ef o)⟩
theorem EW.alloc (h : EW W q e) (o : Obj) : EW (W.alloc o) q e := ⟨h.eb.alloc o, fun k => (((Below.refl W.heap.size W).alloc (Nat.le_refl _) o).frozen (p := ⟨q, k, none⟩) h.eb.lt).trans (h.ef k)⟩
theorem EW.other (h : EW W q e) {a : Addr} (hne : a.block ≠ q) (v : Value) : EW (W.setCell a v) q e := ⟨h.eb.other hne v, fun o => by simp [go_sem, h.ef o]⟩
theorem EW.all (h : EW W q e) : (W.cell? ⟨q, 0, none⟩ = some (.int .i64 e.kd) ∧ W.cell? ⟨q, 1, none⟩ = some (.int .i64 e.fr) ∧ W.cell? ⟨q, 2, none⟩ = some (.int .i64 e.to) ∧ W.cell? ⟨q, 3, none⟩ = some (.int .i64 e.md) ∧ q < W.heap.size) ∧ W.frozen? ⟨q, 0, none⟩ = false ∧ W.frozen? ⟨q, 1, none⟩ = false ∧ W.frozen? ⟨q, 2, none⟩ = false ∧ W.frozen? ⟨q, 3, none⟩ = false :=
  ⟨⟨h.eb.c0, h.eb.c1, h.eb.c2, h.eb.c3, h.eb.lt⟩, h.ef 0, h.ef 1, h.ef 2, h.ef 3⟩
end

theorem rowd_cells (w : World) (zs : List Int) (t : TypeId) : ∀ j (hj : j < zs.length), (w.alloc (.cells (zs.map i64v).toArray t)).cell? ⟨w.heap.size, j, none⟩ = some (.int .i64 zs[j]) := by
  intro j hj
  rw [World.cell?_alloc_new]
  simp [hj, i64v]
theorem pick8 : ∀ x ∈ ([0, 10000, 20000, 32767, 32768, 40000, 50000, 65534] : List Int), 0 ≤ x ∧ x ≤ 65534 := by decide

set_option maxHeartbeats 8000000 in
set_option maxRecDepth 20000 in
theorem edit_any (B g : Nat) (w : World) (h : SrcAt w B g) (n : Int) (h1 : 1 ≤ n) (h2 : n ≤ 1000) : Calls Try.prog 23 #[.pointer (some ⟨g, 0, none⟩), .int .i64 n] w (SrEdit B g n w) := by
  have H := Lib.hid h
  have HL := Lib.hid (And.intro h1 h2)
  have HR := Lib.hid (EW.start w ⟨0, 0, 0, 0⟩ 55)
  obtain ⟨r, hr⟩ : ∃ r, r = w.heap.size := ⟨_, rfl⟩
  have HG0 := Lib.hid (only_alloc (World.grownBy.refl w (some g)) (.cells #[.int .i64 0, .int .i64 0, .int .i64 0, .int .i64 0] 55))
  have HS0 := Lib.hid (h.alloc (.cells #[.int .i64 0, .int .i64 0, .int .i64 0, .int .i64 0] 55))
  have HRN := Lib.hid (show r ≠ g ∧ B ≤ r ∧ w.heap.size ≤ r by have := h.1; have := h.2.1; omega)
  rw [← hr] at HR
  clear h h1 h2
  go_enter Try.func23, Try.ntmps23
  go_wp2_with fail
  rw [← hr]
  generalize w.alloc (.cells #[.int .i64 0, .int .i64 0, .int .i64 0, .int .i64 0] 55) = w0 at *
  clear hr
  refine (range_any B g _ HS0.out 1 2 (by omega) (by omega) (by omega)).mono ?_
  rintro e w1 ⟨x, rfl, x1, x2, hs, hg⟩
  have HX := Lib.hid (And.intro x1 x2)
  have HS1 := Lib.hid hs
  have HG1 := Lib.hid (HG0.out.trans hg)
  have HR1 := Lib.hid (HR.out.grown hg HRN.out.1)
  clear hs hg HS0 HG0 HR x1 x2
  go_wp2_with fail
  refine (n_any B g _ HS1.out n HL.out.1 (by have := HL.out.2; omega)).mono ?_
  rintro e w2 ⟨a, rfl, a1, a2, hs, hg⟩
  have HA := Lib.hid (And.intro a1 a2)
  have HS2 := Lib.hid hs
  have HG2 := Lib.hid (HG1.out.trans hg)
  have HR2 := Lib.hid (HR1.out.grown hg HRN.out.1)
  clear hs hg HS1 HG1 HR1 a1 a2
  go_wp2_with fail
  refine (n_any B g _ HS2.out n HL.out.1 (by have := HL.out.2; omega)).mono ?_
  rintro e w3 ⟨b, rfl, b1, b2, hs, hg⟩
  have HB := Lib.hid (And.intro b1 b2)
  have HR3 := Lib.hid ((HR2.out.grown hg HRN.out.1).alloc (.cells #[.int .i64 x, .int .i64 a, .int .i64 b, .int .i64 0] 55))
  have HS3 := Lib.hid (hs.alloc (.cells #[.int .i64 x, .int .i64 a, .int .i64 b, .int .i64 0] 55))
  have HG3 := Lib.hid (only_alloc (HG2.out.trans hg) (.cells #[.int .i64 x, .int .i64 a, .int .i64 b, .int .i64 0] 55))
  have HK3 := Lib.hid (EW.start w3 ⟨x, a, b, 0⟩ 55)
  obtain ⟨k, hk⟩ : ∃ k, k = w3.heap.size := ⟨_, rfl⟩
  have HKN := Lib.hid (show (k ≠ g ∧ B ≤ k ∧ w.heap.size ≤ k) ∧ r ≠ k by
    have := hs.1; have := hs.2.1; have := (HG2.out.trans hg).size; have := (HR2.out.grown hg HRN.out.1).eb.lt; omega)
  rw [← hk] at HK3
  clear hs hg HS2 HG2 HR2 b1 b2
  by_cases hx : x = 1
  · subst hx
    have HSZ := Lib.hid (show (w3.alloc (.cells #[.int .i64 1, .int .i64 a, .int .i64 b, .int .i64 0] 55)).heap.size = k + 1 by rw [hk]; simp)
    go_wp2_with fail
    rw [← hk]
    generalize w3.alloc (.cells #[.int .i64 1, .int .i64 a, .int .i64 b, .int .i64 0] 55) = w4 at *
    clear hk
    refine (pick_any B g (w4.alloc (.cells #[.int .i64 0, .int .i64 10000, .int .i64 20000, .int .i64 32767, .int .i64 32768, .int .i64 40000, .int .i64 50000, .int .i64 65534] 3)) (HS3.out.alloc _) (k + 1) 8 [0, 10000, 20000, 32767, 32768, 40000, 50000, 65534] rfl (by rw [← HSZ.out]; simp) (by have := HS3.out.2.1; have := HSZ.out; omega) (by omega) (by omega) (by rw [← HSZ.out]; exact rowd_cells w4 [0, 10000, 20000, 32767, 32768, 40000, 50000, 65534] 3)).mono ?_
    rintro e w5 ⟨y, rfl, hy, hs, hg⟩
    have HY := Lib.hid (pick8 y hy)
    have HS5 := Lib.hid hs
    have HG5 := Lib.hid ((only_alloc HG3.out (.cells #[.int .i64 0, .int .i64 10000, .int .i64 20000, .int .i64 32767, .int .i64 32768, .int .i64 40000, .int .i64 50000, .int .i64 65534] 3)).trans hg)
    have HK5 := Lib.hid ((HK3.out.alloc (.cells #[.int .i64 0, .int .i64 10000, .int .i64 20000, .int .i64 32767, .int .i64 32768, .int .i64 40000, .int .i64 50000, .int .i64 65534] 3)).grown hg HKN.out.1.1)
    have HR5 := Lib.hid ((HR3.out.alloc (.cells #[.int .i64 0, .int .i64 10000, .int .i64 20000, .int .i64 32767, .int .i64 32768, .int .i64 40000, .int .i64 50000, .int .i64 65534] 3)).grown hg HRN.out.1)
    clear hs hg hy HS3 HG3 HK3 HR3
    obtain ⟨⟨r0, r1, r2, r3, rl⟩, g0, g1, g2, g3⟩ := HR5.out.all
    obtain ⟨⟨k0, k1, k2, k3, kl⟩, f0, f1, f2, f3⟩ := HK5.out.all
    dsimp only at k0 k1 k2 k3 r0 r1 r2 r3
    have hrk := HKN.out.2
    have hkr : k ≠ r := fun e => hrk e.symm
    go_wp2
    exact bodyPost_ret (v := Ed.v ⟨1, a, b, y⟩) (by simp only [results, Try.results23]; go_simp <;> rfl) rfl ⟨_, rfl, .inl rfl, HA.out, HB.out, HY.out, ((((HS5.out.other (p := ⟨k, 3, none⟩) HKN.out.1.1 HKN.out.1.2.1 _).other (p := ⟨r, 0, none⟩) HRN.out.1 HRN.out.2.1 _).other (p := ⟨r, 1, none⟩) HRN.out.1 HRN.out.2.1 _).other (p := ⟨r, 2, none⟩) HRN.out.1 HRN.out.2.1 _).other (p := ⟨r, 3, none⟩) HRN.out.1 HRN.out.2.1 _, only_set (only_set (only_set (only_set (only_set HG5.out (p := ⟨k, 3, none⟩) (.inr HKN.out.1.2.2) _) (p := ⟨r, 0, none⟩) (.inr HRN.out.2.2) _) (p := ⟨r, 1, none⟩) (.inr HRN.out.2.2) _) (p := ⟨r, 2, none⟩) (.inr HRN.out.2.2) _) (p := ⟨r, 3, none⟩) (.inr HRN.out.2.2) _⟩
  · have hx2 : x = 2 := by have := HX.out; omega
    subst hx2
    have HGG := Lib.hid (And.intro HS3.out (And.intro HG3.out (And.intro HR3.out HK3.out)))
    go_upto_region 2 with (fail)
    rw [← hk]
    generalize w3.alloc (.cells #[.int .i64 2, .int .i64 a, .int .i64 b, .int .i64 0] 55) = w4 at *
    clear hk hx HGG
    obtain ⟨⟨r0, r1, r2, r3, rl⟩, g0, g1, g2, g3⟩ := HR3.out.all
    obtain ⟨⟨k0, k1, k2, k3, kl⟩, f0, f1, f2, f3⟩ := HK3.out.all
    dsimp only at k0 k1 k2 k3 r0 r1 r2 r3
    have hrk := HKN.out.2
    have hkr : k ≠ r := fun e => hrk e.symm
    go_wp2
    exact bodyPost_ret (v := Ed.v ⟨2, a, b, 0⟩) (by simp only [results, Try.results23]; go_simp <;> rfl) rfl ⟨_, rfl, .inr rfl, HA.out, HB.out, (show (0 : Int) ≤ 0 ∧ (0 : Int) ≤ 65534 by omega), (((HS3.out.other (p := ⟨r, 0, none⟩) HRN.out.1 HRN.out.2.1 _).other (p := ⟨r, 1, none⟩) HRN.out.1 HRN.out.2.1 _).other (p := ⟨r, 2, none⟩) HRN.out.1 HRN.out.2.1 _).other (p := ⟨r, 3, none⟩) HRN.out.1 HRN.out.2.1 _, only_set (only_set (only_set (only_set HG3.out (p := ⟨r, 0, none⟩) (.inr HRN.out.2.2) _) (p := ⟨r, 1, none⟩) (.inr HRN.out.2.2) _) (p := ⟨r, 2, none⟩) (.inr HRN.out.2.2) _) (p := ⟨r, 3, none⟩) (.inr HRN.out.2.2) _⟩
end Go.Proofs.Ytkecnihgjepfeaa
namespace Go.Proofs.Ytkecnihgjepfeaa
open Go.RowKit
set_option linter.unusedVariables false

section
variable {w W W' : World} {B B' g p : Nat} {d : Dd} {X : Dx}
theorem Pl.grownO {n c : Nat} {A : Option Addr} {l : List Sp} (h : Pl W B (.slice A n c) l) (ho : ∀ a, A = some a → 0 < n → a.block ≠ g) (hB : B ≤ W.heap.size) (hg : W.grownBy W' (some g)) : Pl W' B (.slice A n c) l := by
  obtain ⟨h1, h2, h3⟩ := h.len
  subst h1
  refine ⟨A, c, rfl, h2, h3, h.rd.1, fun hn => ?_⟩
  obtain ⟨b, o, e, hb, hc⟩ := h.rd.2 hn
  have := ho _ e hn
  exact ⟨b, o, e, hb, fun j u hu => (hg.cell_far ⟨b, o + j, none⟩ (by show b < _; omega) (fun e' => by injection e' with e'; exact this e')).trans (hc j u hu)⟩
theorem Fl.grownO {n c : Nat} {A : Option Addr} {l : List Int} (h : Fl W B (.slice A n c) l) (ho : ∀ a, A = some a → 0 < n → a.block ≠ g) (hB : B ≤ W.heap.size) (hg : W.grownBy W' (some g)) : Fl W' B (.slice A n c) l := by
  obtain ⟨h1, h2, h3⟩ := h.len
  subst h1
  refine ⟨A, c, rfl, h2, h3, h.rd.1, fun hn => ?_⟩
  obtain ⟨b, o, e, hb, hc⟩ := h.rd.2 hn
  have := ho _ e hn
  exact ⟨b, o, e, hb, fun j u hu => (hg.cell_far ⟨b, o + j, none⟩ (by show b < _; omega) (fun e' => by injection e' with e'; exact this e')).trans (hc j u hu)⟩
theorem DR.grownO (h : DR W B d X) (ho : DOff d X g) (hB : B ≤ W.heap.size) (hg : W.grownBy W' (some g)) : DR W' B d X := ⟨h.pl.grownO ho.o1 hB hg, h.fl.grownO ho.o2 hB hg⟩
end
/-- A source and a directory in a box. -/
structure DsAt (w : World) (B g p : Nat) (d : Dd) (X : Dx) (W : World) : Prop where
  src : SrcAt W B g
  db : Db10 W p d X
  dr : DR W W.heap.size d X
  op : DOff d X p
  og : DOff d X g
  ne : p ≠ g ∧ w.heap.size ≤ p ∧ w.heap.size ≤ g ∧ B ≤ w.heap.size
  bel : Below w.heap.size w W
section
variable {w W W' : World} {B g p : Nat} {d : Dd} {X : Dx}
theorem DsAt.below (h : DsAt w B g p d X W) (hb : Below W.heap.size W W') : DsAt w B g p d X W' :=
  ⟨h.src.below hb, h.db.up hb, h.dr.up hb, h.op, h.og, h.ne, h.bel.trans (hb.mono h.bel.size)⟩
theorem DsAt.turn (h : DsAt w B g p d X W) (hs : SrcAt W' B g) (hg : W.grownBy W' (some g)) : DsAt w B g p d X W' :=
  ⟨hs, h.db.grown hg h.ne.1, (h.dr.grownO h.og (Nat.le_refl _) hg).more hg.size, h.op, h.og, h.ne, h.bel.grown hg h.bel.size (fun k e => by injection e with e; subst e; exact h.ne.2.2.1)⟩
/-- Another directory is stored. -/
theorem DsAt.put (h : DsAt w B g p d X W) {d' : Dd} {Y : Dx} (hr : DR W W.heap.size d' Y) (o1 : DOff d' Y p) (o2 : DOff d' Y g) :
    DsAt w B g p d' Y (((W.setCell ⟨p, 0, none⟩ (.int .i64 d'.vn)).setCell ⟨p, 1, none⟩ (.slice Y.A d'.l.length Y.c)).setCell ⟨p, 2, none⟩ (.slice Y.A2 d'.F.length Y.c2)) := by
  have hn := h.ne
  have hB : B ≤ p := by omega
  exact ⟨((h.src.other (p := ⟨p, 0, none⟩) hn.1 hB _).other (p := ⟨p, 1, none⟩) hn.1 hB _).other (p := ⟨p, 2, none⟩) hn.1 hB _, h.db.set d' Y, (((hr.offp (q := ⟨p, 0, none⟩) o1 _).offp (q := ⟨p, 1, none⟩) o1 _).offp (q := ⟨p, 2, none⟩) o1 _).more (by simp), o1, o2, h.ne,
    ((h.bel.setCell (p := ⟨p, 0, none⟩) hn.2.1 _).setCell (p := ⟨p, 1, none⟩) hn.2.1 _).setCell (p := ⟨p, 2, none⟩) hn.2.1 _⟩
theorem DsAt.start (hs : SrcAt W B g) (hd : DR W W.heap.size d X) (ho : DOff d X g) (hg : w.heap.size ≤ g) (hB : B ≤ w.heap.size) (hb : Below w.heap.size w W) (t : TypeId) :
    DsAt w B g W.heap.size d X (W.alloc (.cells #[.int .i64 d.vn, .slice X.A d.l.length X.c, .slice X.A2 d.F.length X.c2] t)) :=
  ⟨hs.alloc _, Db10.start W d X t, hd.alloc _, hd.offs (Nat.le_refl _), ho, ⟨by have := hs.2.1; omega, hb.size, hg, hB⟩, hb.alloc hb.size _⟩
end
end Go.Proofs.Ytkecnihgjepfeaa
namespace Go.Proofs.Ytkecnihgjepfeaa
set_option linter.unusedVariables false

theorem pig (n : Nat) : ∀ (s : Nat) (f : Nat → Nat), (∀ v, v < s → f v < n) → (∀ u v, u < v → v < s → f u ≠ f v) → s ≤ n := by
  induction n with
  | zero =>
    intro s f h _
    cases s with
    | zero => exact Nat.le_refl _
    | succ s => have := h 0 (by omega); omega
  | succ n ih =>
    intro s f h hi
    cases s with
    | zero => omega
    | succ s =>
      have := ih s (fun v => if f v = n then f s else f v) (fun v hv => by
        have h1 := h v (by omega)
        have h2 := h s (by omega)
        have h3 := hi v s hv (by omega)
        show (if f v = n then f s else f v) < n
        split <;> omega) (fun u v huv hv => by
        have h1 := hi u v huv (by omega)
        have h2 := hi u s (by omega) (by omega)
        have h3 := hi v s (by omega) (by omega)
        show (if f u = n then f s else f u) ≠ (if f v = n then f s else f v)
        split <;> split <;> omega)
      omega
theorem fwD_add (F : List Int) (j k : Nat) (a : Int) : fwD F (j + k) a = fwD F k (fwD F j a) := by
  induction j generalizing a with
  | zero => rw [Nat.zero_add]; rfl
  | succ j ih =>
    by_cases h : a < 0
    · rw [fwD_neg _ h, fwD_neg _ h, fwD_neg _ h]
    · rw [show j + 1 + k = j + k + 1 by omega, fwD_pos _ (by omega), fwD_pos _ (by omega), ih]
theorem fwD_up {F : List Int} {j k : Nat} {a : Int} (h : fwD F j a < 0) (hk : j ≤ k) : fwD F k a < 0 := by
  obtain ⟨m, rfl⟩ : ∃ m, k = j + m := ⟨k - j, by omega⟩
  rw [fwD_add, fwD_neg _ h]
  exact h
theorem fwD_lt {F : List Int} (hb : ∀ i, i < F.length → -1 ≤ ig F i ∧ ig F i < F.length) (k : Nat) {a : Int} (ha : a < F.length) : fwD F k a < F.length := by
  induction k generalizing a with
  | zero => exact ha
  | succ k ih =>
    by_cases h : a < 0
    · rw [fwD_neg _ h]; exact ha
    · rw [fwD_pos _ (by omega)]
      exact ih (hb a.toNat (by omega)).2
theorem fwD_least {F : List Int} {a : Int} (m : Nat) (h : fwD F m a < 0) : ∃ T, fwD F T a < 0 ∧ ∀ t, t < T → 0 ≤ fwD F t a := by
  induction m with
  | zero => exact ⟨0, h, fun t ht => by omega⟩
  | succ m ih =>
    by_cases hm : fwD F m a < 0
    · exact ih hm
    · refine ⟨m + 1, h, fun t ht => ?_⟩
      apply Classical.byContradiction
      intro hc
      exact hm (fwD_up (by omega : fwD F t a < 0) (by omega))
/-- A way that ends ends within as many steps as there are slots. -/
theorem fw_le {F : List Int} (hb : ∀ i, i < F.length → -1 ≤ ig F i ∧ ig F i < F.length) {m : Nat} {a : Int} (ha : a < F.length) (h : fwD F m a < 0) : fwD F F.length a < 0 := by
  obtain ⟨T, hT, hl⟩ := fwD_least m h
  have := pig F.length T (fun v => (fwD F v a).toNat) (fun v hv => by
    have h1 := hl v hv
    have h2 := fwD_lt hb v ha
    show (fwD F v a).toNat < F.length
    omega) (fun u v huv hv => by
    have h1 := hl u (by omega)
    have h2 := hl v hv
    intro he
    have he' : fwD F u a = fwD F v a := by
      have : (fwD F u a).toNat = (fwD F v a).toNat := he
      omega
    have h3 : fwD F (u + (T - v)) a = fwD F T a := by rw [fwD_add, he', ← fwD_add]; congr 1; omega
    have h4 := hl (u + (T - v)) (by omega)
    omega)
  exact fwD_up hT this
theorem fw_split {F : List Int} {t k : Nat} (ht : t < F.length) {a : Int} (h : fwD F k a < 0) : fwD (F.set t (-1)) k a < 0 := by
  induction k generalizing a with
  | zero => exact h
  | succ k ih =>
    by_cases ha : a < 0
    · rw [fwD_neg _ ha]; exact ha
    · rw [fwD_pos _ (by omega), ig_set ht]
      by_cases e : a.toNat = t
      · rw [if_pos e, fwD_neg _ (by omega)]; omega
      · rw [if_neg e]
        rw [fwD_pos _ (by omega)] at h
        exact ih h
theorem fw_merge {F : List Int} {t k : Nat} (ht : t < F.length) {x : Int} (hx : 0 ≤ x) (hxt : x.toNat ≠ t) (hF : ig F x.toNat = -1) {a : Int} (h : fwD F k a < 0) : fwD (F.set t x) (k + 2) a < 0 := by
  induction k generalizing a with
  | zero => exact fwD_up (j := 0) h (by omega)
  | succ k ih =>
    by_cases ha : a < 0
    · rw [fwD_neg _ ha]; exact ha
    · rw [fwD_pos (k + 2) (by omega), ig_set ht]
      by_cases e : a.toNat = t
      · rw [if_pos e, fwD_pos _ hx, ig_set ht, if_neg hxt, hF, fwD_neg _ (by omega)]; omega
      · rw [if_neg e]
        rw [fwD_pos _ (by omega)] at h
        exact ih h
end Go.Proofs.Ytkecnihgjepfeaa
namespace Go.Proofs.Ytkecnihgjepfeaa
set_option linter.unusedVariables false

/-- Spans from n on, up to before m. -/
def chN : Int → List Sp → Int → Prop
  | n, [], m => n = m
  | n, x :: l, m => x.lo = n ∧ x.lo ≤ x.hi ∧ x.hi ≤ 65535 ∧ chN (x.hi + 1) l m
theorem cv_ch (n : Int) (l : List Sp) : cvD n l = true ↔ chN n l 65536 := by
  induction l generalizing n with
  | nil => simp [cvD, chN]
  | cons x l ih => simp [cvD, chN, ih]
theorem ch_app (n : Int) (a b : List Sp) (m : Int) : chN n (a ++ b) m ↔ ∃ k, chN n a k ∧ chN k b m := by
  induction a generalizing n with
  | nil => simp [chN]
  | cons x a ih =>
    simp only [List.cons_append, chN, ih]
    constructor
    · rintro ⟨h1, h2, h3, k, h4, h5⟩
      exact ⟨k, ⟨h1, h2, h3, h4⟩, h5⟩
    · rintro ⟨k, ⟨h1, h2, h3, h4⟩, h5⟩
      exact ⟨h1, h2, h3, k, h4, h5⟩
theorem sg_split {l : List Sp} {i : Nat} (h : i < l.length) : l = l.take i ++ sg l i :: l.drop (i + 1) := by
  rw [sg_get h, ← List.drop_eq_getElem_cons h, List.take_append_drop]
/-- A valid list of spans. -/
structure OkL (n : Nat) (l : List Sp) : Prop where
  ch : chN 0 l 65536
  ms : ∀ x ∈ l, slotP n x.sh
  nd : (l.map (·.sh)).Nodup
theorem nd_du {l : List Sp} : (l.map (·.sh)).Nodup ↔ ¬ duD l := by
  unfold List.Nodup
  rw [List.pairwise_iff_getElem]
  constructor
  · rintro h ⟨i, j, hij, hj, e⟩
    have := h i j (by simp; omega) (by simpa using hj) hij
    rw [List.getElem_map, List.getElem_map, ← sg_get, ← sg_get] at this
    exact this e
  · intro h i j hi hj hij e
    rw [List.getElem_map, List.getElem_map, ← sg_get, ← sg_get] at e
    exact h ⟨i, j, hij, by simpa using hj, e⟩
theorem OkD.okl {d : Dd} (h : OkD d) : OkL d.F.length d.l := by
  refine ⟨(cv_ch _ _).1 ((cvD_iff _).2 ⟨h.sp, h.en⟩), fun x hx => ?_, nd_du.2 h.du⟩
  obtain ⟨k, hk, rfl⟩ := List.getElem_of_mem hx
  have := h.ms k hk
  rwa [sg_get hk] at this
theorem OkL.okd {d : Dd} (h : OkL d.F.length d.l) (hr : rgD d) (hf : foD d.l d.F) : OkD d := by
  have h1 := (cvD_iff _).1 ((cv_ch _ _).2 h.ch)
  exact ⟨hr, h1.1, h1.2, fun k hk => h.ms _ (sg_mem hk), nd_du.1 h.nd, hf.1, hf.2⟩
/-- A split. -/
theorem OkL.split {n : Nat} {A B : List Sp} {x : Sp} {md t9 : Int} (h : OkL n (A ++ x :: B)) (h1 : x.lo ≤ md ∧ md < x.hi) (h2 : slotP n t9) (h3 : ∀ y ∈ A ++ x :: B, y.sh ≠ t9) : OkL n (A ++ ⟨x.lo, md, x.sh⟩ :: ⟨md + 1, x.hi, t9⟩ :: B) := by
  obtain ⟨k, c1, c2, c3, c4, c5⟩ := (ch_app _ _ _ _).1 h.ch
  refine ⟨(ch_app _ _ _ _).2 ⟨k, c1, c2, h1.1, by show md ≤ 65535; omega, rfl, by show md + 1 ≤ x.hi; omega, c4, c5⟩, fun y hy => ?_, ?_⟩
  · rw [List.mem_append, List.mem_cons, List.mem_cons] at hy
    rcases hy with hy | rfl | rfl | hy
    · exact h.ms y (by simp [hy])
    · exact h.ms x (by simp)
    · exact h2
    · exact h.ms y (by simp [hy])
  · have e : (A ++ (⟨x.lo, md, x.sh⟩ : Sp) :: ⟨md + 1, x.hi, t9⟩ :: B).map (·.sh) = (A.map (·.sh) ++ [x.sh]) ++ t9 :: B.map (·.sh) := by simp
    rw [e]
    refine (List.perm_middle.nodup_iff).2 (List.nodup_cons.2 ⟨fun hm => ?_, ?_⟩)
    · have hm' : t9 ∈ (A ++ x :: B).map (·.sh) := by simpa using hm
      obtain ⟨y, hy, he⟩ := List.mem_map.1 hm'
      exact h3 y hy he
    · have := h.nd
      simpa using this
/-- A merge. -/
theorem OkL.merge {n : Nat} {A B : List Sp} {x y : Sp} {t9 : Int} (h : OkL n (A ++ x :: y :: B)) (h1 : t9 = x.sh ∨ t9 = y.sh) : OkL n (A ++ ⟨x.lo, y.hi, t9⟩ :: B) := by
  obtain ⟨k, c1, c2, c3, c4, c5, c6, c7, c8⟩ := (ch_app _ _ _ _).1 h.ch
  refine ⟨(ch_app _ _ _ _).2 ⟨k, c1, c2, by show x.lo ≤ y.hi; omega, c7, c8⟩, fun z hz => ?_, ?_⟩
  · rw [List.mem_append, List.mem_cons] at hz
    rcases hz with hz | rfl | hz
    · exact h.ms z (by simp [hz])
    · rcases h1 with rfl | rfl
      · exact h.ms x (by simp)
      · exact h.ms y (by simp)
    · exact h.ms z (by simp [hz])
  · have hn := h.nd
    have e : (A ++ (⟨x.lo, y.hi, t9⟩ : Sp) :: B).map (·.sh) = A.map (·.sh) ++ t9 :: B.map (·.sh) := by simp
    have e2 : (A ++ x :: y :: B).map (·.sh) = A.map (·.sh) ++ x.sh :: y.sh :: B.map (·.sh) := by simp
    rw [e]
    rw [e2] at hn
    rcases h1 with rfl | rfl
    · exact List.Pairwise.sublist (List.Sublist.append_left (List.Sublist.cons_cons _ (List.sublist_cons_self _ _)) _) hn
    · exact List.Pairwise.sublist (List.Sublist.append_left (List.sublist_cons_self _ _) _) hn
end Go.Proofs.Ytkecnihgjepfeaa
