/- What is proved here: the reference's Purged of message, by one contract for all arguments; Purged, Spent, Receivable, Deliver, Revive, Reroute of message and their references, each by one contract for all arguments; shard.Holds by a contract; shard.putError by a contract. -/
import Derived.Test.YtdilgeabcacbdaaGreatJ12
import Derived.Test.YtdilgeabcacbdaaGreatJ01
import Derived.Test.YtdilgeabcacbdaaGreatJ23
import Derived.Deep.RegionLaw
namespace Go.Proofs.YtdilgeabcacbdaaGreat
open Go.RowKit
set_option linter.unusedVariables false

theorem rpurged_any (M : Msg) (k : Int) (w : World) : Calls Tryz.prog 41 #[M.v, .int .i64 k] w fun e w' => e = .returned (.bool (puF M k)) ∧ Below w.heap.size w w' := by
  have HB := Lib.hid ((Below.refl w.heap.size w).alloc (Nat.le_refl _) (.cells M.cs 66))
  by_cases h : M.ep < k
  · have HF := Lib.hid (show puF M k = true from decide_eq_true h)
    go_enter Tryz.func41, Tryz.ntmps41
    go_wp2
    go_ret
    exact ⟨by rw [HF.out]; rfl, HB.out⟩
  · have HF := Lib.hid (show puF M k = false from decide_eq_false h)
    go_enter Tryz.func41, Tryz.ntmps41
    go_wp2
    go_ret
    exact ⟨by rw [HF.out]; rfl, HB.out⟩
end Go.Proofs.YtdilgeabcacbdaaGreat
namespace Go.Proofs.YtdilgeabcacbdaaGreat
open Go.RowKit
set_option linter.unusedVariables false

def spF (M : Msg) (l : Int) : Bool := decide (l ≤ M.ct)
theorem spent_any (M : Msg) (k : Int) (w : World) : Calls Tryz.prog 51 #[M.v, .int .i64 k] w fun e w' => e = .returned (.bool (spF M k)) ∧ Below w.heap.size w w' := by
  have HB := Lib.hid ((Below.refl w.heap.size w).alloc (Nat.le_refl _) (.cells M.cs 66))
  by_cases h : k ≤ M.ct
  · have HF := Lib.hid (show spF M k = true from decide_eq_true h)
    go_enter Tryz.func51, Tryz.ntmps51
    go_wp2
    go_ret
    exact ⟨by rw [HF.out]; rfl, HB.out⟩
  · have HF := Lib.hid (show spF M k = false from decide_eq_false h)
    go_enter Tryz.func51, Tryz.ntmps51
    go_wp2
    go_ret
    exact ⟨by rw [HF.out]; rfl, HB.out⟩

theorem rspent_any (M : Msg) (k : Int) (w : World) : Calls Tryz.prog 42 #[M.v, .int .i64 k] w fun e w' => e = .returned (.bool (spF M k)) ∧ Below w.heap.size w w' := by
  have HB := Lib.hid ((Below.refl w.heap.size w).alloc (Nat.le_refl _) (.cells M.cs 66))
  by_cases h : k ≤ M.ct
  · have HF := Lib.hid (show spF M k = true from decide_eq_true h)
    go_enter Tryz.func42, Tryz.ntmps42
    go_wp2
    go_ret
    exact ⟨by rw [HF.out]; rfl, HB.out⟩
  · have HF := Lib.hid (show spF M k = false from decide_eq_false h)
    go_enter Tryz.func42, Tryz.ntmps42
    go_wp2
    go_ret
    exact ⟨by rw [HF.out]; rfl, HB.out⟩

end Go.Proofs.YtdilgeabcacbdaaGreat
namespace Go.Proofs.YtdilgeabcacbdaaGreat
open Go.RowKit
set_option linter.unusedVariables false

/-- A handle. -/
structure Hn where
  id : Int
  gn : Int
  rt : Int
  ht : Int
abbrev Hn.v (H : Hn) : Value := .agg #[.int .i64 H.id, .int .i64 H.gn, .int .i64 H.rt, .int .i64 H.ht]
/-- Block q holds a handle. -/
def H4 (W : World) (q : Nat) (H : Hn) : Prop := W.cell? ⟨q, 0, none⟩ = some (.int .i64 H.id) ∧ W.cell? ⟨q, 1, none⟩ = some (.int .i64 H.gn) ∧ W.cell? ⟨q, 2, none⟩ = some (.int .i64 H.rt) ∧ W.cell? ⟨q, 3, none⟩ = some (.int .i64 H.ht) ∧ q < W.heap.size
theorem H4.up {W W' : World} {q : Nat} {H : Hn} (h : H4 W q H) (hb : Below W.heap.size W W') : H4 W' q H := by
  obtain ⟨h0, h1, h2, h3, hl⟩ := h
  exact ⟨(hb.cell (p := ⟨q, 0, none⟩) hl).trans h0, (hb.cell (p := ⟨q, 1, none⟩) hl).trans h1, (hb.cell (p := ⟨q, 2, none⟩) hl).trans h2, (hb.cell (p := ⟨q, 3, none⟩) hl).trans h3, Nat.lt_of_lt_of_le hl hb.size⟩
theorem H4.start (w : World) (H : Hn) (t : TypeId) : H4 (w.alloc (.cells #[.int .i64 H.id, .int .i64 H.gn, .int .i64 H.rt, .int .i64 H.ht] t)) w.heap.size H :=
  ⟨by simp [go_sem], by simp [go_sem], by simp [go_sem], by simp [go_sem], by simp⟩
/-- A new list of numbers and their ranges. -/
theorem nl_two (w : World) (a b : Rn) (t : TypeId) : Nl (w.alloc (.cells #[.int .i64 a.n, .int .i64 a.lo, .int .i64 a.hi, .int .i64 b.n, .int .i64 b.lo, .int .i64 b.hi] t)) (w.heap.size + 1) (.slice (some ⟨w.heap.size, 0, none⟩) 2 2) [a, b] := by
  refine ⟨_, 2, rfl, Nat.le_refl _, by unfold maxLen; omega, by simp [rcs, Rn.l], fun _ => ⟨w.heap.size, 0, rfl, Nat.lt_succ_self _, fun j u hu => ?_⟩⟩
  rw [Nat.zero_add, World.cell?_alloc_new]
  simpa [rcs, Rn.l] using hu
end Go.Proofs.YtdilgeabcacbdaaGreat
namespace Go.Proofs.YtdilgeabcacbdaaGreat
open Go.RowKit
set_option linter.unusedVariables false

section
variable {S : Sh} {M : Msg}
end
/-- The cells of a message in a block. -/
abbrev M7 (q : Nat) (M : Msg) (W : World) : Prop := W.cell? ⟨q, 0, none⟩ = some (.int .i64 M.id) ∧ W.cell? ⟨q, 1, none⟩ = some (.int .i64 M.rt) ∧ W.cell? ⟨q, 2, none⟩ = some (.int .i64 M.ep) ∧ W.cell? ⟨q, 3, none⟩ = some (.int .i64 M.ct) ∧ W.cell? ⟨q, 4, none⟩ = some (.int .i64 M.gn) ∧ W.cell? ⟨q, 5, none⟩ = some (.int .i64 M.st) ∧ W.cell? ⟨q, 6, none⟩ = some (.string M.bd)
/-- A box of a message. -/
structure MBx (W : World) (q : Nat) (M : Msg) : Prop where
  m7 : M7 q M W
  fr : ∀ o, W.frozen? ⟨q, o, none⟩ = false
  lt : q < W.heap.size
theorem MBx.keep {W W' : World} {q : Nat} {M : Msg} (h : MBx W q M) (hc : ∀ o, W'.cell? ⟨q, o, none⟩ = W.cell? ⟨q, o, none⟩) (hf : ∀ o, W'.frozen? ⟨q, o, none⟩ = W.frozen? ⟨q, o, none⟩) (hs : W.heap.size ≤ W'.heap.size) : MBx W' q M := by
  obtain ⟨⟨h0, h1, h2, h3, h4, h5, h6⟩, hfr, hl⟩ := h
  exact ⟨⟨(hc 0).trans h0, (hc 1).trans h1, (hc 2).trans h2, (hc 3).trans h3, (hc 4).trans h4, (hc 5).trans h5, (hc 6).trans h6⟩, fun o => (hf o).trans (hfr o), Nat.lt_of_lt_of_le hl hs⟩
theorem MBx.up {W W' : World} {q : Nat} {M : Msg} (h : MBx W q M) (hb : Below W.heap.size W W') : MBx W' q M := h.keep (fun o => hb.cell (p := ⟨q, o, none⟩) h.lt) (fun o => hb.frozen (p := ⟨q, o, none⟩) h.lt) hb.size
theorem MBx.grown {W W' : World} {q : Nat} {M : Msg} (h : MBx W q M) {row : Option Nat} (hg : W.grownBy W' row) (hr : ∀ x, row = some x → x ≠ q) : MBx W' q M :=
  h.keep (fun o => hg.cell_far ⟨q, o, none⟩ h.lt (fun e => hr q e.symm rfl)) (fun o => hg.frozen_far ⟨q, o, none⟩ h.lt (fun e => hr q e.symm rfl)) hg.size
theorem MBx.start (w : World) (M : Msg) (t : TypeId) : MBx (w.alloc (.cells #[.int .i64 M.id, .int .i64 M.rt, .int .i64 M.ep, .int .i64 M.ct, .int .i64 M.gn, .int .i64 M.st, .string M.bd] t)) w.heap.size M :=
  ⟨⟨by simp [go_sem], by simp [go_sem], by simp [go_sem], by simp [go_sem], by simp [go_sem], by simp [go_sem], by simp [go_sem]⟩, fun o => by simp [go_sem], by simp⟩
theorem SB8.grown {W W' : World} {p : Nat} {S : Sh} {D : Sx} (h : SB8 W p S D) {row : Option Nat} (hg : W.grownBy W' row) (hr : ∀ x, row = some x → x ≠ p) : SB8 W' p S D :=
  h.keep (fun o => hg.cell_far ⟨p, o, none⟩ h.lt (fun e => hr p e.symm rfl)) (fun o => hg.frozen_far ⟨p, o, none⟩ h.lt (fun e => hr p e.symm rfl)) hg.size
/-- A shard and a message in boxes. -/
structure SmAt (w : World) (p q : Nat) (S : Sh) (D : Sx) (M : Msg) (W : World) : Prop where
  sa : SAt w p S D W
  mb : MBx W q M
  lt : p < q
theorem SmAt.below {w W W' : World} {p q : Nat} {S : Sh} {D : Sx} {M : Msg} (h : SmAt w p q S D M W) (hb : Below W.heap.size W W') : SmAt w p q S D M W' := ⟨h.sa.below hb, h.mb.up hb, h.lt⟩
theorem SmAt.alloc {w W : World} {p q : Nat} {S : Sh} {D : Sx} {M : Msg} (h : SmAt w p q S D M W) (o : Obj) : SmAt w p q S D M (W.alloc o) := h.below ((Below.refl _ _).alloc (Nat.le_refl _) o)
theorem SmAt.drew {w W : World} {p q : Nat} {S : Sh} {D : Sx} {M : Msg} (h : SmAt w p q S D M W) : SmAt w p q S D M W.drew := h.below ((Below.refl _ _).drew)
theorem SmAt.k {w W : World} {p q : Nat} {S : Sh} {D : Sx} {M : Msg} (h : SmAt w p q S D M W) : K8 p S D W ∧ M7 q M W := ⟨h.sa.k8, h.mb.m7⟩
theorem SmAt.start (w : World) (S : Sh) (D : Sx) (M : Msg) (t u : TypeId) (hs : SR w w.heap.size S D) : SmAt w w.heap.size (w.heap.size + 1) S D M ((w.alloc (.cells #[.bool S.lv, .int .i64 S.lo, .int .i64 S.hi, .slice D.A S.cs.length D.c, .int .i64 S.hd, .int .i64 S.sz, .slice D.A2 S.l.length D.c2, .slice D.A3 S.h.length D.c3] t)).alloc (.cells #[.int .i64 M.id, .int .i64 M.rt, .int .i64 M.ep, .int .i64 M.ct, .int .i64 M.gn, .int .i64 M.st, .string M.bd] u)) := by
  have h := MBx.start (w.alloc (.cells #[.bool S.lv, .int .i64 S.lo, .int .i64 S.hi, .slice D.A S.cs.length D.c, .int .i64 S.hd, .int .i64 S.sz, .slice D.A2 S.l.length D.c2, .slice D.A3 S.h.length D.c3] t)) M u
  rw [show (w.alloc (.cells #[.bool S.lv, .int .i64 S.lo, .int .i64 S.hi, .slice D.A S.cs.length D.c, .int .i64 S.hd, .int .i64 S.sz, .slice D.A2 S.l.length D.c2, .slice D.A3 S.h.length D.c3] t)).heap.size = w.heap.size + 1 by simp] at h
  exact ⟨(SAt.start t hs).alloc _, h, Nat.lt_succ_self _⟩
theorem SmAt.grown {w W W' : World} {p q lo : Nat} {S : Sh} {D : Sx} {M : Msg} (h : SmAt w p q S D M W) {row : Option Nat} (hg : W.grownBy W' row) (hr : ∀ x, row = some x → lo ≤ x) (hq : q < lo) : (K8 p S D W' ∧ M7 q M W') ∧ Below w.heap.size w W' :=
  ⟨⟨(h.sa.s8.grown hg (fun x e => by have := hr x e; have := h.lt; omega)).k8, (h.mb.grown hg (fun x e => by have := hr x e; omega)).m7⟩, h.sa.bel.grown hg h.sa.bel.size (fun x e => by have := hr x e; have := h.sa.old; have := h.lt; omega)⟩
end Go.Proofs.YtdilgeabcacbdaaGreat
