/- What is proved here: shardqueueref04.New and shardqueueref04.Same by contracts; RingOf of the statements' base makes a valid ring; New of the statements' base makes a source of a list; shard.Holds by a contract; shard.putError by a contract. -/
import Derived.Test.YtijpflljopckiaaJ06
import Derived.Test.YtijpflljopckiaaJ22
import Derived.Test.YtijpflljopckiaaJ02
import Derived.Deep.AppendLies
import Derived.Test.YtijpflljopckiaaJ07
import Derived.Test.YtijpflljopckiaaJ12
import Derived.Test.YtijpflljopckiaaRows
import Derived.WalkKit
import Derived.Outline
import Derived.IntWalk
import Derived.Test.YtijpflljopckiaaJ20
import Derived.Test.YtijpflljopckiaaJ19
import Derived.Test.YtijpflljopckiaaJ10
import Derived.Deep.RegionLaw
namespace Go.Proofs.Ytijpflljopckiaa
open Go.RowKit
set_option linter.unusedVariables false

set_option maxHeartbeats 2000000 in
theorem gsame_yes (A A' : Option Addr) (n n' c c' : Nat) (hd sz : Int) (l : List Msg) (w : World) (B B' : Nat) (hB : B ≤ w.heap.size) (hB' : B' ≤ w.heap.size) (hv : Ls w B (.slice A n c) l) (hv' : Ls w B' (.slice A' n' c') l) :
    Calls Try.prog 86 #[.agg #[.slice A n c, .int .i64 hd, .int .i64 sz], .agg #[.slice A' n' c', .int .i64 hd, .int .i64 sz]] w fun e w' => e = .returned (.bool true) ∧ Below w.heap.size w w' := by
  have HB := Lib.hid (((Below.refl w.heap.size w).alloc (Nat.le_refl _) (.cells #[.slice A n c, .int .i64 hd, .int .i64 sz] 79)).alloc (by simp) (.cells #[.slice A' n' c', .int .i64 hd, .int .i64 sz] 79))
  have HS := Lib.hid (fun w1 (h : Below w.heap.size w w1) => rsame_yes A A' n n' c c' l w1 B B' (hv.keep fun p hp => h.cell (Nat.lt_of_lt_of_le hp hB)) (hv'.keep fun p hp => h.cell (Nat.lt_of_lt_of_le hp hB')))
  clear hv hv' hB hB'
  go_enter Try.func86, Try.ntmps86
  go_wp2_with fail
  refine (HS.out _ HB.out).mono ?_
  rintro e w1 ⟨rfl, hb⟩
  have HB1 := Lib.hid (HB.out.trans (hb.mono HB.out.size))
  clear hb
  go_wp2
  go_ret
  exact ⟨rfl, HB1.out⟩
end Go.Proofs.Ytijpflljopckiaa
namespace Go.Proofs.Ytijpflljopckiaa
open Go.RowKit
set_option linter.unusedVariables false

/-- The work of RingOf: a ring in a block, the result, the source. -/
structure RoAt (w : World) (B g r y : Nat) (A : Option Addr) (k c hd : Nat) (L : List Msg) (W : World) : Prop where
  rb : RB W y A k c hd L.length
  rs : RB W r none 0 0 0 0
  ls : Ls W W.heap.size (.slice A k c) (fil k hd L)
  src : SrcAt W B g
  grow : w.grownBy W (some g)
  nw : Nw (r + 1) A
  offy : Off y A
  old : w.heap.size ≤ r ∧ r < y ∧ g < w.heap.size ∧ B ≤ g
section
variable {w W W' : World} {B g r y k c hd : Nat} {A : Option Addr} {L : List Msg}
theorem RoAt.drew (h : RoAt w B g r y A k c hd L W) : RoAt w B g r y A k c hd L W.drew := ⟨h.rb.drew, h.rs.drew, h.ls, h.src, only_drew h.grow, h.nw, h.offy, h.old⟩
theorem RoAt.below (h : RoAt w B g r y A k c hd L W) (hb : Below W.heap.size W W') : RoAt w B g r y A k c hd L W' :=
  ⟨h.rb.below hb h.rb.lt, h.rs.below hb h.rs.lt, (h.ls.below hb).more hb.size, h.src.below hb, only_below h.grow hb, h.nw, h.offy, h.old⟩
/-- A new ring is stored. -/
theorem RoAt.store {W1 : World} {A1 : Option Addr} {c1 hd1 : Nat} {L1 : List Msg} (h : RoAt w B g r y A k c hd L W) (hb : Below W.heap.size W W1) (hnw : Nw W.heap.size A1) (hl : Ls W1 W1.heap.size (.slice A1 k c1) (fil k hd1 L1)) (z : Int) (hz : z = (L1.length : Int)) : RoAt w B g r y A1 k c1 hd1 L1 (((W1.setCell ⟨y, 0, none⟩ (.slice A1 k c1)).setCell ⟨y, 1, none⟩ (.int .i64 hd1)).setCell ⟨y, 2, none⟩ (.int .i64 z)) := by
  subst hz
  have h1 := h.below hb
  have hy : y < W.heap.size := h.rb.lt
  have hyr : y ≠ r := by have := h.old; omega
  have hyg : y ≠ g := by have := h.old; omega
  have hyB : B ≤ y := by have := h.old; omega
  refine ⟨((h1.rb.setA A1 k c1).setH hd1).setS L1.length, h1.rs.set3' hyr _ _ _, ?_, ((h1.src.other (p := ⟨y, 0, none⟩) hyg hyB _).other (p := ⟨y, 1, none⟩) hyg hyB _).other (p := ⟨y, 2, none⟩) hyg hyB _, only_set (only_set (only_set h1.grow (.inr (by show w.heap.size ≤ y; have := h.old; omega)) _) (.inr (by show w.heap.size ≤ y; have := h.old; omega)) _) (.inr (by show w.heap.size ≤ y; have := h.old; omega)) _, nw_low hnw (by have := h.old; omega), off_nw hnw hy, h.old⟩
  have := (hl.off3 hnw hy (.slice A1 k c1) (.int .i64 hd1) (.int .i64 L1.length))
  simpa using this
theorem RoAt.s3 (h : RoAt w B g r y A k c hd L W) : W.cell? ⟨y, 0, none⟩ = some (.slice A k c) ∧ W.cell? ⟨y, 1, none⟩ = some (.int .i64 hd) ∧ W.cell? ⟨y, 2, none⟩ = some (.int .i64 L.length) := ⟨h.rb.c0, h.rb.c1, h.rb.c2⟩
end
end Go.Proofs.Ytijpflljopckiaa
namespace Go.Proofs.Ytijpflljopckiaa
open Go.RowKit
set_option linter.unusedVariables false

/-- A new source. -/
def SrNew (w : World) (e : Ending) (w' : World) : Prop := ∃ g, e = .returned (.pointer (some ⟨g, 0, none⟩)) ∧ SrcAt w' w.heap.size g ∧ Below w.heap.size w w'

theorem src_new (w : World) (A : Option Addr) (n c : Nat) (zs : List Int) (t : TypeId) (h : Rd w w.heap.size 1 A n (zs.map i64v)) (hn : n ≤ 4000) (hc : n ≤ c) (hm : c ≤ maxLen) (hz : ∀ z ∈ zs, -9223372036854775808 ≤ z ∧ z ≤ 9223372036854775807) :
    SrNew w (.returned (.pointer (some ⟨w.heap.size, 0, none⟩))) (w.alloc (.cells #[.slice A n c, .int .i64 0] t)) :=
  ⟨_, rfl, ⟨Nat.le_refl _, by simp, A, n, c, 0, zs, by omega, hn, hc, hm, by simp [go_sem], by simp [go_sem], by simp [go_sem], h.alloc (Nat.le_refl _) _, hz⟩, (Below.refl _ _).alloc (Nat.le_refl _) _⟩

theorem new_src (A : Option Addr) (n c : Nat) (zs : List Int) (w : World) (h : Ns w w.heap.size (.slice A n c) zs) : Calls Try.prog 7 #[.slice A n c] w (SrNew w) := by
  obtain ⟨hn, hc, hm, hr, hz⟩ := h.parts
  by_cases h4 : (4000 : Int) < (n : Int)
  · have ht' : Try.prog.underlying 22 = some (.slice (Try.prog.elem 22)) := by kernel_rfl
    have he : Try.prog.elem 22 = 3 := by kernel_rfl
    have hz8 : ∀ w, (Go.sizeOf 3).run Try.prog w = .ok 1 w := Try.sizeOf3
    have hcut : ∀ W, (Instr.slice 22 (.slice A n c) none (some (.int .i64 4000)) none).run Try.prog W = .ok (.slice A 4000 c) W := fun W => by
      have hq := run_slice_h W 22 A n c ht' .i64 4000 (by omega) (by omega)
      rw [hq, he, hz8]
      cases A <;> simp [Result.andThen, sliced, Addr.add]
    have hr4 : Rd w w.heap.size 1 A 4000 ((zs.take 4000).map i64v) := by
      have hlen : zs.length = n := hn.symm
      refine ⟨by simp; omega, fun h0 => ?_⟩
      obtain ⟨b, o, rfl, hb, hcc⟩ := hr.2 (by omega)
      refine ⟨b, o, rfl, hb, fun k u hu => hcc k u ?_⟩
      have hk : k < 4000 := by
        have := (List.getElem?_eq_some_iff.1 hu).1
        simp at this; omega
      rw [← hu, List.map_take, List.getElem?_take_of_lt hk]
    have HN := Lib.hid (src_new w A 4000 c (zs.take 4000) 72 hr4 (by omega) (by omega) hm (fun z hz' => hz z (List.mem_of_mem_take hz')))
    clear h hn hc hm hr hz hr4 hz8 he ht'
    go_enter Try.func7, Try.ntmps7
    go_wp2
    go_ret
    exact HN.out
  · have HN := Lib.hid (src_new w A n c zs 72 hr (by omega) hc hm hz)
    clear h hn hc hm hr hz
    go_enter Try.func7, Try.ntmps7
    go_wp2
    go_ret
    exact HN.out
end Go.Proofs.Ytijpflljopckiaa
namespace Go.Proofs.Ytijpflljopckiaa
open Go.RowKit
set_option linter.unusedVariables false

/-- A handle. -/
structure Hn where
  id : Int
  gn : Int
  rt : Int
  ht : Int
abbrev Hn.v (H : Hn) : Value := .agg #[.int .i64 H.id, .int .i64 H.gn, .int .i64 H.rt, .int .i64 H.ht]
/-- Block q holds a handle. -/
def H4 (W : World) (q : Nat) (H : Hn) : Prop := W.cell? ⟨q, 0, none⟩ = some (.int .i64 H.id) ∧ W.cell? ⟨q, 1, none⟩ = some (.int .i64 H.gn) ∧ W.cell? ⟨q, 2, none⟩ = some (.int .i64 H.rt) ∧ W.cell? ⟨q, 3, none⟩ = some (.int .i64 H.ht) ∧ q < W.heap.size
theorem H4.up {W W' : World} {q : Nat} {H : Hn} (h : H4 W q H) (hb : Below W.heap.size W W') : H4 W' q H := by
  obtain ⟨h0, h1, h2, h3, hl⟩ := h
  exact ⟨(hb.cell (p := ⟨q, 0, none⟩) hl).trans h0, (hb.cell (p := ⟨q, 1, none⟩) hl).trans h1, (hb.cell (p := ⟨q, 2, none⟩) hl).trans h2, (hb.cell (p := ⟨q, 3, none⟩) hl).trans h3, Nat.lt_of_lt_of_le hl hb.size⟩
theorem H4.start (w : World) (H : Hn) (t : TypeId) : H4 (w.alloc (.cells #[.int .i64 H.id, .int .i64 H.gn, .int .i64 H.rt, .int .i64 H.ht] t)) w.heap.size H :=
  ⟨by simp [go_sem], by simp [go_sem], by simp [go_sem], by simp [go_sem], by simp⟩
end Go.Proofs.Ytijpflljopckiaa
namespace Go.Proofs.Ytijpflljopckiaa
open Go.RowKit
set_option linter.unusedVariables false

section
variable {S : Sh} {M : Msg}
end
/-- The cells of a message in a block. -/
abbrev M7 (q : Nat) (M : Msg) (W : World) : Prop := W.cell? ⟨q, 0, none⟩ = some (.int .i64 M.id) ∧ W.cell? ⟨q, 1, none⟩ = some (.int .i64 M.rt) ∧ W.cell? ⟨q, 2, none⟩ = some (.int .i64 M.ep) ∧ W.cell? ⟨q, 3, none⟩ = some (.int .i64 M.ct) ∧ W.cell? ⟨q, 4, none⟩ = some (.int .i64 M.gn) ∧ W.cell? ⟨q, 5, none⟩ = some (.int .i64 M.st) ∧ W.cell? ⟨q, 6, none⟩ = some (.string M.bd)
/-- A box of a message. -/
structure MBx (W : World) (q : Nat) (M : Msg) : Prop where
  m7 : M7 q M W
  fr : ∀ o, W.frozen? ⟨q, o, none⟩ = false
  lt : q < W.heap.size
theorem MBx.keep {W W' : World} {q : Nat} {M : Msg} (h : MBx W q M) (hc : ∀ o, W'.cell? ⟨q, o, none⟩ = W.cell? ⟨q, o, none⟩) (hf : ∀ o, W'.frozen? ⟨q, o, none⟩ = W.frozen? ⟨q, o, none⟩) (hs : W.heap.size ≤ W'.heap.size) : MBx W' q M := by
  obtain ⟨⟨h0, h1, h2, h3, h4, h5, h6⟩, hfr, hl⟩ := h
  exact ⟨⟨(hc 0).trans h0, (hc 1).trans h1, (hc 2).trans h2, (hc 3).trans h3, (hc 4).trans h4, (hc 5).trans h5, (hc 6).trans h6⟩, fun o => (hf o).trans (hfr o), Nat.lt_of_lt_of_le hl hs⟩
theorem MBx.up {W W' : World} {q : Nat} {M : Msg} (h : MBx W q M) (hb : Below W.heap.size W W') : MBx W' q M := h.keep (fun o => hb.cell (p := ⟨q, o, none⟩) h.lt) (fun o => hb.frozen (p := ⟨q, o, none⟩) h.lt) hb.size
theorem MBx.grown {W W' : World} {q : Nat} {M : Msg} (h : MBx W q M) {row : Option Nat} (hg : W.grownBy W' row) (hr : ∀ x, row = some x → x ≠ q) : MBx W' q M :=
  h.keep (fun o => hg.cell_far ⟨q, o, none⟩ h.lt (fun e => hr q e.symm rfl)) (fun o => hg.frozen_far ⟨q, o, none⟩ h.lt (fun e => hr q e.symm rfl)) hg.size
theorem MBx.start (w : World) (M : Msg) (t : TypeId) : MBx (w.alloc (.cells #[.int .i64 M.id, .int .i64 M.rt, .int .i64 M.ep, .int .i64 M.ct, .int .i64 M.gn, .int .i64 M.st, .string M.bd] t)) w.heap.size M :=
  ⟨⟨by simp [go_sem], by simp [go_sem], by simp [go_sem], by simp [go_sem], by simp [go_sem], by simp [go_sem], by simp [go_sem]⟩, fun o => by simp [go_sem], by simp⟩
theorem SB8.grown {W W' : World} {p : Nat} {S : Sh} {D : Sx} (h : SB8 W p S D) {row : Option Nat} (hg : W.grownBy W' row) (hr : ∀ x, row = some x → x ≠ p) : SB8 W' p S D :=
  h.keep (fun o => hg.cell_far ⟨p, o, none⟩ h.lt (fun e => hr p e.symm rfl)) (fun o => hg.frozen_far ⟨p, o, none⟩ h.lt (fun e => hr p e.symm rfl)) hg.size
/-- A shard and a message in boxes. -/
structure SmAt (w : World) (p q : Nat) (S : Sh) (D : Sx) (M : Msg) (W : World) : Prop where
  sa : SAt w p S D W
  mb : MBx W q M
  lt : p < q
theorem SmAt.below {w W W' : World} {p q : Nat} {S : Sh} {D : Sx} {M : Msg} (h : SmAt w p q S D M W) (hb : Below W.heap.size W W') : SmAt w p q S D M W' := ⟨h.sa.below hb, h.mb.up hb, h.lt⟩
theorem SmAt.alloc {w W : World} {p q : Nat} {S : Sh} {D : Sx} {M : Msg} (h : SmAt w p q S D M W) (o : Obj) : SmAt w p q S D M (W.alloc o) := h.below ((Below.refl _ _).alloc (Nat.le_refl _) o)
theorem SmAt.drew {w W : World} {p q : Nat} {S : Sh} {D : Sx} {M : Msg} (h : SmAt w p q S D M W) : SmAt w p q S D M W.drew := h.below ((Below.refl _ _).drew)
theorem SmAt.k {w W : World} {p q : Nat} {S : Sh} {D : Sx} {M : Msg} (h : SmAt w p q S D M W) : K8 p S D W ∧ M7 q M W := ⟨h.sa.k8, h.mb.m7⟩
theorem SmAt.start (w : World) (S : Sh) (D : Sx) (M : Msg) (t u : TypeId) (hs : SR w w.heap.size S D) : SmAt w w.heap.size (w.heap.size + 1) S D M ((w.alloc (.cells #[.bool S.lv, .int .i64 S.lo, .int .i64 S.hi, .slice D.A S.cs.length D.c, .int .i64 S.hd, .int .i64 S.sz, .slice D.A2 S.l.length D.c2, .slice D.A3 S.h.length D.c3] t)).alloc (.cells #[.int .i64 M.id, .int .i64 M.rt, .int .i64 M.ep, .int .i64 M.ct, .int .i64 M.gn, .int .i64 M.st, .string M.bd] u)) := by
  have h := MBx.start (w.alloc (.cells #[.bool S.lv, .int .i64 S.lo, .int .i64 S.hi, .slice D.A S.cs.length D.c, .int .i64 S.hd, .int .i64 S.sz, .slice D.A2 S.l.length D.c2, .slice D.A3 S.h.length D.c3] t)) M u
  rw [show (w.alloc (.cells #[.bool S.lv, .int .i64 S.lo, .int .i64 S.hi, .slice D.A S.cs.length D.c, .int .i64 S.hd, .int .i64 S.sz, .slice D.A2 S.l.length D.c2, .slice D.A3 S.h.length D.c3] t)).heap.size = w.heap.size + 1 by simp] at h
  exact ⟨(SAt.start t hs).alloc _, h, Nat.lt_succ_self _⟩
theorem SmAt.grown {w W W' : World} {p q lo : Nat} {S : Sh} {D : Sx} {M : Msg} (h : SmAt w p q S D M W) {row : Option Nat} (hg : W.grownBy W' row) (hr : ∀ x, row = some x → lo ≤ x) (hq : q < lo) : (K8 p S D W' ∧ M7 q M W') ∧ Below w.heap.size w W' :=
  ⟨⟨(h.sa.s8.grown hg (fun x e => by have := hr x e; have := h.lt; omega)).k8, (h.mb.grown hg (fun x e => by have := hr x e; omega)).m7⟩, h.sa.bel.grown hg h.sa.bel.size (fun x e => by have := hr x e; have := h.sa.old; have := h.lt; omega)⟩
end Go.Proofs.Ytijpflljopckiaa
