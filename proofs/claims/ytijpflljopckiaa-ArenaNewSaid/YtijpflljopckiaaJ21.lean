/- What is proved here: shard.New by a contract; slices.BinarySearchFunc of leases, lease.place by contracts; lease.removed, lease.Release by contracts; lease.Extend by a contract; lease.Grant by a contract. -/
import Derived.Test.YtijpflljopckiaaJ20
import Derived.Test.YtijpflljopckiaaJ19
import Derived.Test.YtijpflljopckiaaJ09
import Derived.Deep.LoopGhost
import Derived.Test.YtijpflljopckiaaJ18
import Derived.Test.YtijpflljopckiaaJ11
import Derived.Lib.Overlaps
import Derived.Laws.Externs
import Derived.Lib.AppendZerosOnto
namespace Go.Proofs.Ytijpflljopckiaa
open Go.RowKit
set_option linter.unusedVariables false

/-- The error of New, and what it returns. -/
noncomputable def neE (k lo hi : Int) : Int := if nwE k ≠ 0 then nwE k else if spB lo hi = true then 0 else 1
noncomputable def neS (k lo hi : Int) : Sh := if neE k lo hi = 0 then ⟨true, lo, hi, nwC k, 0, 0, [], []⟩ else zS
/-- The stores of a zero shard. -/
abbrev z8 (W : World) (r : Nat) : World := ((((((((W.setCell ⟨r, 0, none⟩ (.bool false)).setCell ⟨r, 1, none⟩ (.int .i64 0)).setCell ⟨r, 2, none⟩ (.int .i64 0)).setCell ⟨r, 3, none⟩ (.slice none 0 0)).setCell ⟨r, 4, none⟩ (.int .i64 0)).setCell ⟨r, 5, none⟩ (.int .i64 0)).setCell ⟨r, 6, none⟩ (.slice none 0 0)).setCell ⟨r, 7, none⟩ (.slice none 0 0))
theorem se_zeroA {w w' : World} {x : Int} {r : Nat} (hr : w.heap.size ≤ r) (hb : Below w.heap.size w w') (o : Obj) : SE w zS x (.returned (.tuple #[.agg #[.bool false, .int .i64 0, .int .i64 0, .slice none 0 0, .int .i64 0, .int .i64 0, .slice none 0 0, .slice none 0 0], .int .i64 x])) ((z8 w' r).alloc o) :=
  ⟨zX, rfl, zX_nw _, SR.zero, bal (set8s_below hr hb zS zX) o⟩
set_option maxHeartbeats 4000000 in
set_option maxRecDepth 20000 in
theorem snew_any (k lo hi : Int) (w : World) :
    Calls Try.prog 69 #[.int .i64 k, .int .i64 lo, .int .i64 hi] w (SE w (neS k lo hi) (neE k lo hi)) := by
  have R0 := Lib.hid (SB8.zero w 85)
  have B0 := Lib.hid ((Below.refl w.heap.size w).alloc (Nat.le_refl _) (.cells #[.bool false, .int .i64 0, .int .i64 0, .slice none 0 0, .int .i64 0, .int .i64 0, .slice none 0 0, .slice none 0 0] 85))
  have HN := Lib.hid (fun W => gnew_any k W)
  have HSP := Lib.hid (fun W => sspan_any lo hi W)
  go_enter Try.func69, Try.ntmps69
  go_wp2_with fail
  obtain ⟨r, hr⟩ : ∃ r, r = w.heap.size := ⟨_, rfl⟩
  have HRW := Lib.hid (show w.heap.size ≤ r by omega)
  rw [← hr]
  rw [← hr] at R0
  clear hr
  generalize w.alloc (.cells #[.bool false, .int .i64 0, .int .i64 0, .slice none 0 0, .int .i64 0, .int .i64 0, .slice none 0 0, .slice none 0 0] 85) = w1 at *
  refine (HN.out _).mono ?_
  rintro e w2 ⟨A, c, rfl, hnw, hl, hb⟩
  have B2 := Lib.hid (btr B0.out hb)
  have R2 := Lib.hid (R0.out.up hb)
  have L2 := Lib.hid hl
  have N2 := Lib.hid (nw_low hnw (show r + 1 ≤ _ from R0.out.lt))
  have HRL := Lib.hid (show r < w2.heap.size from Nat.lt_of_lt_of_le R0.out.lt hb.size)
  clear hb hl hnw
  by_cases h1 : nwE k = 0
  · have HX1 := Lib.hid h1
    rw [h1]
    clear h1
    have hrl := HRL.out
    go_wp2_with fail
    refine (HSP.out _).mono ?_
    rintro e w3 ⟨rfl, rfl⟩
    obtain ⟨r0, r1, r2, r3, r4, r5, r6, r7, rl⟩ := R2.out.facts
    obtain ⟨f0, f1, f2, f3, f4, f5, f6, f7⟩ := R2.out.free
    cases h2 : spB lo hi with
    | true =>
      have hE : neE k lo hi = 0 := by unfold neE; rw [if_neg (fun g => g HX1.out), if_pos h2]
      have hS : neS k lo hi = ⟨true, lo, hi, nwC k, 0, 0, [], []⟩ := if_pos hE
      have HF := Lib.hid (show SE w (neS k lo hi) (neE k lo hi) (.returned (.tuple #[.agg #[.bool true, .int .i64 lo, .int .i64 hi, .slice A (nwC k).length c, .int .i64 0, .int .i64 0, .slice none 0 0, .slice none 0 0], .int .i64 0])) (((((((((w2.setCell ⟨r, 0, none⟩ (.bool true)).setCell ⟨r, 1, none⟩ (.int .i64 lo)).setCell ⟨r, 2, none⟩ (.int .i64 hi)).setCell ⟨r, 3, none⟩ (.slice A (nwC k).length c)).setCell ⟨r, 4, none⟩ (.int .i64 0)).setCell ⟨r, 5, none⟩ (.int .i64 0)).setCell ⟨r, 6, none⟩ (.slice none 0 0)).setCell ⟨r, 7, none⟩ (.slice none 0 0)).alloc (.cells #[.slice A (nwC k).length c, .int .i64 0, .int .i64 0] 79)) from by
        rw [hE, hS]
        exact ⟨⟨A, c, none, 0, none, 0⟩, rfl, ⟨nw_low N2.out (by have := HRW.out; omega), nw_none, nw_none⟩, (SR.sets (S := ⟨true, lo, hi, nwC k, 0, 0, [], []⟩) (D := ⟨A, c, none, 0, none, 0⟩) ⟨offb_nw N2.out (Nat.lt_succ_self r), offb_none, offb_none⟩ (Sh.l8 ⟨true, lo, hi, nwC k, 0, 0, [], []⟩ ⟨A, c, none, 0, none, 0⟩) 0 w2 ⟨L2.out, El.nil, Dl.nil⟩).up ((Below.refl _ _).alloc (Nat.le_refl _) _), bal (set8s_below HRW.out B2.out ⟨true, lo, hi, nwC k, 0, 0, [], []⟩ ⟨A, c, none, 0, none, 0⟩) _⟩)
      clear hE hS
      go_wp2
      exact bodyPost_ret (v := .tuple #[.agg #[.bool true, .int .i64 lo, .int .i64 hi, .slice A (nwC k).length c, .int .i64 0, .int .i64 0, .slice none 0 0, .slice none 0 0], .int .i64 0]) (by simp only [results, Try.results69]; go_simp <;> rfl) rfl HF.out
    | false =>
      have hE : neE k lo hi = 1 := by unfold neE; rw [if_neg (fun g => g HX1.out), if_neg (by simp [h2])]
      have hS : neS k lo hi = zS := if_neg (by rw [hE]; decide)
      have HF := Lib.hid (show SE w (neS k lo hi) (neE k lo hi) (.returned (.tuple #[.agg #[.bool false, .int .i64 0, .int .i64 0, .slice none 0 0, .int .i64 0, .int .i64 0, .slice none 0 0, .slice none 0 0], .int .i64 1])) ((z8 w2 r).alloc (.cells #[.slice A (nwC k).length c, .int .i64 0, .int .i64 0] 79)) from by
        rw [hE, hS]
        exact se_zeroA HRW.out B2.out _)
      clear hE hS
      go_wp2
      exact bodyPost_ret (v := .tuple #[.agg #[.bool false, .int .i64 0, .int .i64 0, .slice none 0 0, .int .i64 0, .int .i64 0, .slice none 0 0, .slice none 0 0], .int .i64 1]) (by simp only [results, Try.results69]; go_simp <;> rfl) rfl HF.out
  · have hE : neE k lo hi = nwE k := if_pos h1
    have hS : neS k lo hi = zS := if_neg (by rw [hE]; exact h1)
    have hne : (nwE k != 0) = true := bne_iff_ne.2 h1
    obtain ⟨r0, r1, r2, r3, r4, r5, r6, r7, rl⟩ := R2.out.facts
    obtain ⟨f0, f1, f2, f3, f4, f5, f6, f7⟩ := R2.out.free
    have HF := Lib.hid (show SE w (neS k lo hi) (neE k lo hi) (.returned (.tuple #[.agg #[.bool false, .int .i64 0, .int .i64 0, .slice none 0 0, .int .i64 0, .int .i64 0, .slice none 0 0, .slice none 0 0], .int .i64 (nwE k)])) ((z8 w2 r).alloc (.cells #[.slice A (nwC k).length c, .int .i64 0, .int .i64 0] 79)) from by
      rw [hE, hS]
      exact se_zeroA HRW.out B2.out _)
    clear hE hS h1
    have hrl := HRL.out
    generalize nwE k = x at *
    go_wp2
    exact bodyPost_ret (v := .tuple #[.agg #[.bool false, .int .i64 0, .int .i64 0, .slice none 0 0, .int .i64 0, .int .i64 0, .slice none 0 0, .slice none 0 0], .int .i64 x]) (by simp only [results, Try.results69]; go_simp <;> rfl) rfl HF.out
end Go.Proofs.Ytijpflljopckiaa
namespace Go.Proofs.Ytijpflljopckiaa
open Go.RowKit
set_option linter.unusedVariables false

/-- What a search has found out: all before lo are less, none from hi on is. -/
structure Bs2 (l : List Le) (x : Int) (lo hi : Nat) : Prop where
  lo_ : ∀ j (hj : j < l.length), j < lo → l[j].id < x
  hi_ : ∀ j (hj : j < l.length), hi ≤ j → x ≤ l[j].id
theorem Bs2.start (l : List Le) (x : Int) : Bs2 l x 0 l.length := ⟨fun j _ h => absurd h (Nat.not_lt_zero _), fun j hj h => absurd hj (by omega)⟩
theorem Bs2.up {l : List Le} {x : Int} {lo hi m : Nat} (h : Bs2 l x lo hi) (ha : Asc Le.id l) (hm : m < l.length) (hx : l[m].id < x) : Bs2 l x (m + 1) hi :=
  ⟨fun j hj h' => by
    by_cases e : j = m
    · subst e; exact hx
    · exact Int.lt_trans (ha.lt (i := j) (j := m) (by omega) hm) hx, h.hi_⟩
theorem Bs2.dn {l : List Le} {x : Int} {lo hi m : Nat} (h : Bs2 l x lo hi) (ha : Asc Le.id l) (hm : m < l.length) (hx : x ≤ l[m].id) : Bs2 l x lo m :=
  ⟨h.lo_, fun j hj h' => by
    by_cases e : j = m
    · subst e; exact hx
    · exact Int.le_trans hx (Int.le_of_lt (ha.lt (i := m) (j := j) (by omega) hj))⟩
theorem Bs2.at_ {l : List Le} {x : Int} {i : Nat} (h : Bs2 l x i i) (hi : i ≤ l.length) : kAt Le.id l x = i :=
  kAt_hit hi (fun j hj => h.lo_ j _ hj) fun hk => h.hi_ i hk (Nat.le_refl _)
end Go.Proofs.Ytijpflljopckiaa
namespace Go.Proofs.Ytijpflljopckiaa
open Go.RowKit
set_option linter.unusedVariables false

/-- A list of leases as a result: it is new. -/
def ElV (w : World) (l : List Le) (e : Ending) (w' : World) : Prop := ∃ A c, e = .returned (.slice A l.length c) ∧ Nw w.heap.size A ∧ El w' w'.heap.size (.slice A l.length c) l ∧ Below w.heap.size w w'
/-- A box of a message that may be written. -/
abbrev RMs (W : World) (r : Nat) (M : Msg) : Prop := W.cell? ⟨r, 0, none⟩ = some (.int .i64 M.id) ∧ W.cell? ⟨r, 1, none⟩ = some (.int .i64 M.rt) ∧ W.cell? ⟨r, 2, none⟩ = some (.int .i64 M.ep) ∧ W.cell? ⟨r, 3, none⟩ = some (.int .i64 M.ct) ∧ W.cell? ⟨r, 4, none⟩ = some (.int .i64 M.gn) ∧ W.cell? ⟨r, 5, none⟩ = some (.int .i64 M.st) ∧ W.cell? ⟨r, 6, none⟩ = some (.string M.bd) ∧ W.frozen? ⟨r, 0, none⟩ = false ∧ W.frozen? ⟨r, 1, none⟩ = false ∧ W.frozen? ⟨r, 2, none⟩ = false ∧ W.frozen? ⟨r, 3, none⟩ = false ∧ W.frozen? ⟨r, 4, none⟩ = false ∧ W.frozen? ⟨r, 5, none⟩ = false ∧ W.frozen? ⟨r, 6, none⟩ = false ∧ r < W.heap.size
theorem RMs.lt {W : World} {r : Nat} {M : Msg} (h : RMs W r M) : r < W.heap.size := h.2.2.2.2.2.2.2.2.2.2.2.2.2.2
theorem RMs.below {B : Nat} {W W' : World} {r : Nat} {M : Msg} (h : RMs W r M) (hb : Below B W W') (hr : r < B) : RMs W' r M :=
  ⟨(hb.cell (p := ⟨r, 0, none⟩) hr).trans h.1, (hb.cell (p := ⟨r, 1, none⟩) hr).trans h.2.1, (hb.cell (p := ⟨r, 2, none⟩) hr).trans h.2.2.1, (hb.cell (p := ⟨r, 3, none⟩) hr).trans h.2.2.2.1, (hb.cell (p := ⟨r, 4, none⟩) hr).trans h.2.2.2.2.1, (hb.cell (p := ⟨r, 5, none⟩) hr).trans h.2.2.2.2.2.1, (hb.cell (p := ⟨r, 6, none⟩) hr).trans h.2.2.2.2.2.2.1, (hb.frozen (p := ⟨r, 0, none⟩) hr).trans h.2.2.2.2.2.2.2.1, (hb.frozen (p := ⟨r, 1, none⟩) hr).trans h.2.2.2.2.2.2.2.2.1, (hb.frozen (p := ⟨r, 2, none⟩) hr).trans h.2.2.2.2.2.2.2.2.2.1, (hb.frozen (p := ⟨r, 3, none⟩) hr).trans h.2.2.2.2.2.2.2.2.2.2.1, (hb.frozen (p := ⟨r, 4, none⟩) hr).trans h.2.2.2.2.2.2.2.2.2.2.2.1, (hb.frozen (p := ⟨r, 5, none⟩) hr).trans h.2.2.2.2.2.2.2.2.2.2.2.2.1, (hb.frozen (p := ⟨r, 6, none⟩) hr).trans h.2.2.2.2.2.2.2.2.2.2.2.2.2.1, Nat.lt_of_lt_of_le h.2.2.2.2.2.2.2.2.2.2.2.2.2.2 hb.size⟩
theorem RMs.start (w : World) (M : Msg) (t : TypeId) : RMs (w.alloc (.cells #[.int .i64 M.id, .int .i64 M.rt, .int .i64 M.ep, .int .i64 M.ct, .int .i64 M.gn, .int .i64 M.st, .string M.bd] t)) w.heap.size M :=
  ⟨by simp [go_sem], by simp [go_sem], by simp [go_sem], by simp [go_sem], by simp [go_sem], by simp [go_sem], by simp [go_sem], by simp [go_sem], by simp [go_sem], by simp [go_sem], by simp [go_sem], by simp [go_sem], by simp [go_sem], by simp [go_sem], by simp⟩
/-- The work of Release: the table, the result table, the result message. -/
structure RlW (w : World) (p r s : Nat) (A : Option Addr) (c : Nat) (l : List Le) (A2 : Option Addr) (c2 : Nat) (h : List Du) (W : World) : Prop where
  va : VaA w p A c l A2 c2 h W
  rt : RT W r none 0 0 none 0 0
  rm : RMs W s zM
  ne : w.heap.size ≤ p ∧ p < r ∧ r < s
section
variable {w W W' : World} {p r s c c2 : Nat} {A A2 : Option Addr} {l : List Le} {h : List Du}
theorem RlW.below (k : RlW w p r s A c l A2 c2 h W) (hb : Below W.heap.size W W') : RlW w p r s A c l A2 c2 h W' := ⟨k.va.below hb, k.rt.below hb k.rt.lt, k.rm.below hb k.rm.lt, k.ne⟩
theorem RlW.start (hv : El w w.heap.size (.slice A l.length c) l) (hd : Dl w w.heap.size (.slice A2 h.length c2) h) (t u : TypeId) : RlW w w.heap.size (w.heap.size + 1) (w.heap.size + 1 + 1) A c l A2 c2 h (((w.alloc (.cells #[.slice A l.length c, .slice A2 h.length c2] t)).alloc (.cells #[.slice none 0 0, .slice none 0 0] t)).alloc (.cells #[.int .i64 0, .int .i64 0, .int .i64 0, .int .i64 0, .int .i64 0, .int .i64 0, .string ⟨#[]⟩] u)) := by
  have e1 : (w.alloc (.cells #[.slice A l.length c, .slice A2 h.length c2] t)).heap.size = w.heap.size + 1 := by simp
  have e2 : ((w.alloc (.cells #[.slice A l.length c, .slice A2 h.length c2] t)).alloc (.cells #[.slice none 0 0, .slice none 0 0] t)).heap.size = w.heap.size + 1 + 1 := by simp
  have k1 := RT.start (w.alloc (.cells #[.slice A l.length c, .slice A2 h.length c2] t)) none 0 0 none 0 0 t
  have k2 := RMs.start ((w.alloc (.cells #[.slice A l.length c, .slice A2 h.length c2] t)).alloc (.cells #[.slice none 0 0, .slice none 0 0] t)) zM u
  rw [e1] at k1
  rw [e2] at k2
  exact ⟨((VaA.start t hv hd).alloc _).alloc _, k1.below ((Below.refl _ _).alloc (Nat.le_refl _) _) k1.lt, k2, Nat.le_refl _, Nat.lt_succ_self _, Nat.lt_succ_self _⟩
end
end Go.Proofs.Ytijpflljopckiaa
namespace Go.Proofs.Ytijpflljopckiaa
open Go.RowKit
set_option linter.unusedVariables false

theorem ERow.of_own {W : World} {base q n cap : Nat} {e : TypeId} {l : List Le} (h : W.ownsRow base e 8 (.slice (some ⟨q, 0, none⟩) n cap) n (ecs l)) : ERow W q n (lg l) := by
  refine ⟨?_, fun k hk j hj => ?_, fun j => World.ownsRow.frozenAt h j⟩
  · rcases h.2 with ⟨hv, _⟩ | ⟨g', cap', cur, hv, _, hh, _⟩
    · cases hv
    · cases hv; exact (Array.getElem?_eq_some_iff.1 hh).1
  · have hl : k < l.length := by have := h.1; rw [ecs_len] at this; omega
    have hj8 : j < (l[k]).l.length := hj
    have := h.cells (g := q) rfl (k * 8 + j) ((l[k]).l[j]) (by rw [ecs_at l k j hl hj]; exact List.getElem?_eq_getElem hj8)
    rw [add_mk, Nat.zero_add] at this
    rw [this, ← lg_get hl]
    exact (List.getElem?_eq_getElem hj8).symm
/-- The work of Extend: the table, the result table. -/
structure ExW (w : World) (p r : Nat) (A : Option Addr) (c : Nat) (l : List Le) (A2 : Option Addr) (c2 : Nat) (h : List Du) (W : World) : Prop where
  va : VaA w p A c l A2 c2 h W
  rt : RT W r none 0 0 none 0 0
  ne : w.heap.size ≤ p ∧ p < r
section
variable {w W W' : World} {p r c c2 : Nat} {A A2 : Option Addr} {l : List Le} {h : List Du}
theorem ExW.below (k : ExW w p r A c l A2 c2 h W) (hb : Below W.heap.size W W') : ExW w p r A c l A2 c2 h W' := ⟨k.va.below hb, k.rt.below hb k.rt.lt, k.ne⟩
theorem ExW.start (hv : El w w.heap.size (.slice A l.length c) l) (hd : Dl w w.heap.size (.slice A2 h.length c2) h) (t : TypeId) : ExW w w.heap.size (w.heap.size + 1) A c l A2 c2 h ((w.alloc (.cells #[.slice A l.length c, .slice A2 h.length c2] t)).alloc (.cells #[.slice none 0 0, .slice none 0 0] t)) := by
  have e1 : (w.alloc (.cells #[.slice A l.length c, .slice A2 h.length c2] t)).heap.size = w.heap.size + 1 := by simp
  have k1 := RT.start (w.alloc (.cells #[.slice A l.length c, .slice A2 h.length c2] t)) none 0 0 none 0 0 t
  rw [e1] at k1
  exact ⟨(VaA.start t hv hd).alloc _, k1, Nat.le_refl _, Nat.lt_succ_self _⟩
end
end Go.Proofs.Ytijpflljopckiaa
namespace Go.Proofs.Ytijpflljopckiaa
open Go.RowKit
set_option linter.unusedVariables false

/-- The work of Grant: the table, the result table, the new lease. -/
structure GrW (w : World) (p q r s : Nat) (A : Option Addr) (c : Nat) (l : List Le) (A2 : Option Addr) (c2 : Nat) (h : List Du) (X : Le) (W : World) : Prop where
  va : VaA w p A c l A2 c2 h W
  rt : RT W r none 0 0 none 0 0
  le : El8 W s X
  mq : W.cell? ⟨q, 0, none⟩ = some (.int .i64 X.m.id) ∧ q < W.heap.size
  ne : w.heap.size ≤ p ∧ p < r ∧ r < s
section
variable {w W W' : World} {p q r s c c2 : Nat} {A A2 : Option Addr} {l : List Le} {h : List Du} {X : Le}
theorem El8.lt (k : El8 W s X) : s < W.heap.size := k.2.2.2.2.2.2.2.2
theorem GrW.below (k : GrW w p q r s A c l A2 c2 h X W) (hb : Below W.heap.size W W') : GrW w p q r s A c l A2 c2 h X W' := ⟨k.va.below hb, k.rt.below hb k.rt.lt, k.le.below hb k.le.lt, ⟨(hb.cell (p := ⟨q, 0, none⟩) k.mq.2).trans k.mq.1, Nat.lt_of_lt_of_le k.mq.2 hb.size⟩, k.ne⟩
theorem GrW.start (hv : El w w.heap.size (.slice A l.length c) l) (hd : Dl w w.heap.size (.slice A2 h.length c2) h) (X : Le) : GrW w w.heap.size (w.heap.size + 1) (w.heap.size + 1 + 1) (w.heap.size + 1 + 1 + 1) A c l A2 c2 h X ((((w.alloc (.cells #[.slice A l.length c, .slice A2 h.length c2] 83)).alloc (.cells #[.int .i64 X.m.id, .int .i64 X.m.rt, .int .i64 X.m.ep, .int .i64 X.m.ct, .int .i64 X.m.gn, .int .i64 X.m.st, .string X.m.bd] 151)).alloc (.cells #[.slice none 0 0, .slice none 0 0] 83)).alloc (.cells #[.int .i64 X.m.id, .int .i64 X.m.rt, .int .i64 X.m.ep, .int .i64 X.m.ct, .int .i64 X.m.gn, .int .i64 X.m.st, .string X.m.bd, .int .i64 X.dl] 154)) := by
  have e2 : ((w.alloc (.cells #[.slice A l.length c, .slice A2 h.length c2] 83)).alloc (.cells #[.int .i64 X.m.id, .int .i64 X.m.rt, .int .i64 X.m.ep, .int .i64 X.m.ct, .int .i64 X.m.gn, .int .i64 X.m.st, .string X.m.bd] 151)).heap.size = w.heap.size + 1 + 1 := by simp
  have e3 : (((w.alloc (.cells #[.slice A l.length c, .slice A2 h.length c2] 83)).alloc (.cells #[.int .i64 X.m.id, .int .i64 X.m.rt, .int .i64 X.m.ep, .int .i64 X.m.ct, .int .i64 X.m.gn, .int .i64 X.m.st, .string X.m.bd] 151)).alloc (.cells #[.slice none 0 0, .slice none 0 0] 83)).heap.size = w.heap.size + 1 + 1 + 1 := by simp
  have k1 := RT.start ((w.alloc (.cells #[.slice A l.length c, .slice A2 h.length c2] 83)).alloc (.cells #[.int .i64 X.m.id, .int .i64 X.m.rt, .int .i64 X.m.ep, .int .i64 X.m.ct, .int .i64 X.m.gn, .int .i64 X.m.st, .string X.m.bd] 151)) none 0 0 none 0 0 83
  have k2 := El8.start (((w.alloc (.cells #[.slice A l.length c, .slice A2 h.length c2] 83)).alloc (.cells #[.int .i64 X.m.id, .int .i64 X.m.rt, .int .i64 X.m.ep, .int .i64 X.m.ct, .int .i64 X.m.gn, .int .i64 X.m.st, .string X.m.bd] 151)).alloc (.cells #[.slice none 0 0, .slice none 0 0] 83)) X 154
  rw [e2] at k1
  rw [e3] at k2
  exact ⟨(((VaA.start 83 hv hd).alloc _).alloc _).alloc _, k1.below ((Below.refl _ _).alloc (Nat.le_refl _) _) k1.lt, k2, by simp [go_sem], by omega⟩
end
end Go.Proofs.Ytijpflljopckiaa
