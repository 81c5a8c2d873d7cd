/- What is proved here: shardqueueref04.with by a contract; shardqueueref04.PushBack by a contract; RingOf of the statements' base makes a valid ring; New of the statements' base makes a source of a list; shard.Holds by a contract. -/
import Derived.Test.YtijpflljopckiaaJ05
import Derived.Test.YtijpflljopckiaaJ04
import Derived.Test.YtijpflljopckiaaJ06
import Derived.Deep.RegionHeld3
import Derived.Deep.DrawnRows
import Derived.Test.YtijpflljopckiaaJ03
import Derived.Test.YtijpflljopckiaaRows
import Derived.Test.YtijpflljopckiaaJ02
import Derived.WalkKit
import Derived.Outline
import Derived.IntWalk
import Derived.Deep.QuietTactic
import Derived.BigQuiet
import Derived.Test.YtijpflljopckiaaJ07
import Derived.Deep.AppendLies
import Derived.Test.YtijpflljopckiaaJ21
import Derived.Laws.StructEq
import Derived.KernelRfl
import Derived.Test.YtijpflljopckiaaJ12
import Derived.Test.YtijpflljopckiaaJ19
import Derived.Test.YtijpflljopckiaaJ20
import Derived.Test.YtijpflljopckiaaJ10
namespace Go.Proofs.Ytijpflljopckiaa
open Go.RowKit
set_option linter.unusedVariables false

/-- The work of 'with': the result, the new cells and the new ring. -/
structure WiAt (w : World) (r z y : Nat) (n : Nat) (hd sz : Int) (f : Nat → Msg) (W : World) : Prop where
  rs : RB W r none 0 0 0 0
  row : MRow W z n f
  rb : RB W y (some ⟨z, 0, none⟩) n n hd sz
  bel : Below w.heap.size w W
  old : w.heap.size ≤ r ∧ r < z ∧ z < y
section
variable {w W W' : World} {r z y n : Nat} {hd sz : Int} {f : Nat → Msg}
theorem WiAt.drew (h : WiAt w r z y n hd sz f W) : WiAt w r z y n hd sz f W.drew := ⟨h.rs.drew, h.row, h.rb.drew, h.bel.drew, h.old⟩
theorem WiAt.put (h : WiAt w r z y n hd sz f W) {k : Nat} (hk : k < n) (M : Msg) : WiAt w r z y n hd sz (fun i => if i = k then M else f i) (((((((W.setCell ⟨z, k * 7, none⟩ (.int .i64 M.id)).setCell ⟨z, k * 7 + 1, none⟩ (.int .i64 M.rt)).setCell ⟨z, k * 7 + 2, none⟩ (.int .i64 M.ep)).setCell ⟨z, k * 7 + 3, none⟩ (.int .i64 M.ct)).setCell ⟨z, k * 7 + 4, none⟩ (.int .i64 M.gn)).setCell ⟨z, k * 7 + 5, none⟩ (.int .i64 M.st)).setCell ⟨z, k * 7 + 6, none⟩ (.string M.bd)) :=
  ⟨h.rs.sets (by have := h.old; omega) (k * 7) M.l, h.row.put7n hk M, h.rb.sets (by have := h.old; omega) (k * 7) M.l, sets_below (by have := h.old; omega) M.l (k * 7) W h.bel, h.old⟩
theorem WiAt.at_ (h : WiAt w r z y n hd sz f W) {k : Nat} (hk : k < n) : C7 W z (k * 7) (f k) ∧ (W.frozen? ⟨z, k * 7, none⟩ = false ∧ W.frozen? ⟨z, k * 7 + 1, none⟩ = false ∧ W.frozen? ⟨z, k * 7 + 2, none⟩ = false ∧ W.frozen? ⟨z, k * 7 + 3, none⟩ = false ∧ W.frozen? ⟨z, k * 7 + 4, none⟩ = false ∧ W.frozen? ⟨z, k * 7 + 5, none⟩ = false ∧ W.frozen? ⟨z, k * 7 + 6, none⟩ = false) ∧ z < W.heap.size ∧ y < W.heap.size ∧ z ≠ y ∧ y ≠ z :=
  ⟨h.row.c7 hk, h.row.free _, h.row.1, h.rb.lt, by have := h.old; omega, by have := h.old; omega⟩
theorem WiAt.s8 (h : WiAt w r z y n hd sz f W) {b m : Nat} {X : Msg} (hc : C7 W b m X) : W.cell? ⟨y, 0, none⟩ = some (.slice (some ⟨z, 0, none⟩) n n) ∧ W.cell? ⟨b, m, none⟩ = some (.int .i64 X.id) ∧ W.cell? ⟨b, m + 1, none⟩ = some (.int .i64 X.rt) ∧ W.cell? ⟨b, m + 2, none⟩ = some (.int .i64 X.ep) ∧ W.cell? ⟨b, m + 3, none⟩ = some (.int .i64 X.ct) ∧ W.cell? ⟨b, m + 4, none⟩ = some (.int .i64 X.gn) ∧ W.cell? ⟨b, m + 5, none⟩ = some (.int .i64 X.st) ∧ W.cell? ⟨b, m + 6, none⟩ = some (.string X.bd) := ⟨h.rb.c0, hc⟩
theorem WiAt.start (w : World) (o : Obj) (n : Nat) (hd sz : Int) (t u : TypeId) : WiAt w (w.heap.size + 1) (w.heap.size + 1 + 1) (w.heap.size + 1 + 1 + 1) n hd sz (fun _ => zM) ((((w.alloc o).alloc (.cells #[.slice none 0 0, .int .i64 0, .int .i64 0] t)).alloc (.cells (madeCells (Msg.v zM).cells (n * 7)) u)).alloc (.cells #[.slice (some ⟨w.heap.size + 1 + 1, 0, none⟩) n n, .int .i64 hd, .int .i64 sz] t)) := by
  have e : (w.alloc o).heap.size = w.heap.size + 1 := by simp
  have e2 : ((w.alloc o).alloc (.cells #[.slice none 0 0, .int .i64 0, .int .i64 0] t)).heap.size = w.heap.size + 1 + 1 := by simp
  have e3 : (((w.alloc o).alloc (.cells #[.slice none 0 0, .int .i64 0, .int .i64 0] t)).alloc (.cells (madeCells (Msg.v zM).cells (n * 7)) u)).heap.size = w.heap.size + 1 + 1 + 1 := by simp
  have k := RB.fresh (w.alloc o) none 0 0 0 0 t
  have h := MRow.made ((w.alloc o).alloc (.cells #[.slice none 0 0, .int .i64 0, .int .i64 0] t)) n u
  have g := RB.fresh (((w.alloc o).alloc (.cells #[.slice none 0 0, .int .i64 0, .int .i64 0] t)).alloc (.cells (madeCells (Msg.v zM).cells (n * 7)) u)) (some ⟨w.heap.size + 1 + 1, 0, none⟩) n n hd sz t
  rw [e] at k
  rw [e2] at h
  rw [e3] at g
  exact ⟨(k.alloc _).alloc _, h.alloc _, g, ((((Below.refl _ _).alloc (Nat.le_refl _) _).alloc (by omega) _).alloc (by omega) _).alloc (by omega) _, by omega, Nat.lt_succ_self _, Nat.lt_succ_self _⟩
end

attribute [local go_sem ↓] Go.wp_at_zero Go.wp_at_succ
end Go.Proofs.Ytijpflljopckiaa
namespace Go.Proofs.Ytijpflljopckiaa
open Go.RowKit
set_option linter.unusedVariables false

section
variable {w W W' : World} {p q r n c : Nat} {A : Option Addr} {hd sz : Int} {M : Msg}
theorem RB.grown (h : RB W p A n c hd sz) {row : Option Nat} (hg : W.grownBy W' row) (hr : row ≠ some p) : RB W' p A n c hd sz := by
  have e : ∀ o, W'.cell? ⟨p, o, none⟩ = W.cell? ⟨p, o, none⟩ := fun o => hg.cell_far ⟨p, o, none⟩ h.lt (fun e => hr e.symm)
  exact ⟨Nat.lt_of_lt_of_le h.lt hg.size, (e 0).trans h.c0, (e 1).trans h.c1, (e 2).trans h.c2, fun o => (hg.frozen_far ⟨p, o, none⟩ h.lt (fun e => hr e.symm)).trans (h.fr o)⟩
theorem MAt.grown' {f : Nat → Int} {b : ByteArray} (h : MAt W q f b) {row : Option Nat} (hg : W.grownBy W' row) (hr : row ≠ some q) : MAt W' q f b :=
  ⟨Nat.lt_of_lt_of_le h.1 hg.size, fun j hj => (hg.cell_far ⟨q, j, none⟩ h.1 (fun e => hr e.symm)).trans (h.2.1 j hj), (hg.cell_far ⟨q, 6, none⟩ h.1 (fun e => hr e.symm)).trans h.2.2.1, fun o ho => (hg.frozen_far ⟨q, o, none⟩ h.1 (fun e => hr e.symm)).trans (h.2.2.2 o ho)⟩
theorem PbAt.grown (h : PbAt w p q r A n c hd sz M W) {row : Option Nat} (hg : W.grownBy W' row) (hr : ∀ k, row = some k → r < k) : PbAt w p q r A n c hd sz M W' :=
  ⟨h.rb.grown hg (fun e => by have := hr p e; have := h.old; omega), h.ms.grown' hg (fun e => by have := hr q e; have := h.old; omega), h.rs.grown hg (fun e => by have := hr r e; omega), h.bel.grown hg h.bel.size (fun k hk => by have := hr k hk; have := h.old; omega), h.old⟩
theorem PbAt.alloc (h : PbAt w p q r A n c hd sz M W) (o : Obj) : PbAt w p q r A n c hd sz M (W.alloc o) := h.below ((Below.refl _ _).alloc (Nat.le_refl _) o)
end
theorem RB.set3' {W : World} {p r n c : Nat} {A : Option Addr} {hd sz : Int} (h : RB W p A n c hd sz) (hr : r ≠ p) (x y z : Value) : RB (((W.setCell ⟨r, 0, none⟩ x).setCell ⟨r, 1, none⟩ y).setCell ⟨r, 2, none⟩ z) p A n c hd sz :=
  ((h.other (a := ⟨r, 0, none⟩) hr x).other (a := ⟨r, 1, none⟩) hr y).other (a := ⟨r, 2, none⟩) hr z
theorem MAt.set3' {W : World} {q r : Nat} {f : Nat → Int} {t : ByteArray} (h : MAt W q f t) (hr : r ≠ q) (x y z : Value) : MAt (((W.setCell ⟨r, 0, none⟩ x).setCell ⟨r, 1, none⟩ y).setCell ⟨r, 2, none⟩ z) q f t :=
  ((h.other (p := ⟨r, 0, none⟩) hr x).other (p := ⟨r, 1, none⟩) hr y).other (p := ⟨r, 2, none⟩) hr z
attribute [local go_sem ↓] Go.wp_at_zero Go.wp_at_succ
end Go.Proofs.Ytijpflljopckiaa
namespace Go.Proofs.Ytijpflljopckiaa
open Go.RowKit
set_option linter.unusedVariables false

/-- The work of RingOf: a ring in a block, the result, the source. -/
structure RoAt (w : World) (B g r y : Nat) (A : Option Addr) (k c hd : Nat) (L : List Msg) (W : World) : Prop where
  rb : RB W y A k c hd L.length
  rs : RB W r none 0 0 0 0
  ls : Ls W W.heap.size (.slice A k c) (fil k hd L)
  src : SrcAt W B g
  grow : w.grownBy W (some g)
  nw : Nw (r + 1) A
  offy : Off y A
  old : w.heap.size ≤ r ∧ r < y ∧ g < w.heap.size ∧ B ≤ g
section
variable {w W W' : World} {B g r y k c hd : Nat} {A : Option Addr} {L : List Msg}
theorem RoAt.drew (h : RoAt w B g r y A k c hd L W) : RoAt w B g r y A k c hd L W.drew := ⟨h.rb.drew, h.rs.drew, h.ls, h.src, only_drew h.grow, h.nw, h.offy, h.old⟩
theorem RoAt.below (h : RoAt w B g r y A k c hd L W) (hb : Below W.heap.size W W') : RoAt w B g r y A k c hd L W' :=
  ⟨h.rb.below hb h.rb.lt, h.rs.below hb h.rs.lt, (h.ls.below hb).more hb.size, h.src.below hb, only_below h.grow hb, h.nw, h.offy, h.old⟩
/-- A new ring is stored. -/
theorem RoAt.store {W1 : World} {A1 : Option Addr} {c1 hd1 : Nat} {L1 : List Msg} (h : RoAt w B g r y A k c hd L W) (hb : Below W.heap.size W W1) (hnw : Nw W.heap.size A1) (hl : Ls W1 W1.heap.size (.slice A1 k c1) (fil k hd1 L1)) (z : Int) (hz : z = (L1.length : Int)) : RoAt w B g r y A1 k c1 hd1 L1 (((W1.setCell ⟨y, 0, none⟩ (.slice A1 k c1)).setCell ⟨y, 1, none⟩ (.int .i64 hd1)).setCell ⟨y, 2, none⟩ (.int .i64 z)) := by
  subst hz
  have h1 := h.below hb
  have hy : y < W.heap.size := h.rb.lt
  have hyr : y ≠ r := by have := h.old; omega
  have hyg : y ≠ g := by have := h.old; omega
  have hyB : B ≤ y := by have := h.old; omega
  refine ⟨((h1.rb.setA A1 k c1).setH hd1).setS L1.length, h1.rs.set3' hyr _ _ _, ?_, ((h1.src.other (p := ⟨y, 0, none⟩) hyg hyB _).other (p := ⟨y, 1, none⟩) hyg hyB _).other (p := ⟨y, 2, none⟩) hyg hyB _, only_set (only_set (only_set h1.grow (.inr (by show w.heap.size ≤ y; have := h.old; omega)) _) (.inr (by show w.heap.size ≤ y; have := h.old; omega)) _) (.inr (by show w.heap.size ≤ y; have := h.old; omega)) _, nw_low hnw (by have := h.old; omega), off_nw hnw hy, h.old⟩
  have := (hl.off3 hnw hy (.slice A1 k c1) (.int .i64 hd1) (.int .i64 L1.length))
  simpa using this
theorem RoAt.s3 (h : RoAt w B g r y A k c hd L W) : W.cell? ⟨y, 0, none⟩ = some (.slice A k c) ∧ W.cell? ⟨y, 1, none⟩ = some (.int .i64 hd) ∧ W.cell? ⟨y, 2, none⟩ = some (.int .i64 L.length) := ⟨h.rb.c0, h.rb.c1, h.rb.c2⟩
end
end Go.Proofs.Ytijpflljopckiaa
namespace Go.Proofs.Ytijpflljopckiaa
open Go.RowKit
set_option linter.unusedVariables false

/-- A new source. -/
def SrNew (w : World) (e : Ending) (w' : World) : Prop := ∃ g, e = .returned (.pointer (some ⟨g, 0, none⟩)) ∧ SrcAt w' w.heap.size g ∧ Below w.heap.size w w'

theorem src_new (w : World) (A : Option Addr) (n c : Nat) (zs : List Int) (t : TypeId) (h : Rd w w.heap.size 1 A n (zs.map i64v)) (hn : n ≤ 4000) (hc : n ≤ c) (hm : c ≤ maxLen) (hz : ∀ z ∈ zs, -9223372036854775808 ≤ z ∧ z ≤ 9223372036854775807) :
    SrNew w (.returned (.pointer (some ⟨w.heap.size, 0, none⟩))) (w.alloc (.cells #[.slice A n c, .int .i64 0] t)) :=
  ⟨_, rfl, ⟨Nat.le_refl _, by simp, A, n, c, 0, zs, by omega, hn, hc, hm, by simp [go_sem], by simp [go_sem], by simp [go_sem], h.alloc (Nat.le_refl _) _, hz⟩, (Below.refl _ _).alloc (Nat.le_refl _) _⟩

theorem new_src (A : Option Addr) (n c : Nat) (zs : List Int) (w : World) (h : Ns w w.heap.size (.slice A n c) zs) : Calls Try.prog 7 #[.slice A n c] w (SrNew w) := by
  obtain ⟨hn, hc, hm, hr, hz⟩ := h.parts
  by_cases h4 : (4000 : Int) < (n : Int)
  · have ht' : Try.prog.underlying 22 = some (.slice (Try.prog.elem 22)) := by kernel_rfl
    have he : Try.prog.elem 22 = 3 := by kernel_rfl
    have hz8 : ∀ w, (Go.sizeOf 3).run Try.prog w = .ok 1 w := Try.sizeOf3
    have hcut : ∀ W, (Instr.slice 22 (.slice A n c) none (some (.int .i64 4000)) none).run Try.prog W = .ok (.slice A 4000 c) W := fun W => by
      have hq := run_slice_h W 22 A n c ht' .i64 4000 (by omega) (by omega)
      rw [hq, he, hz8]
      cases A <;> simp [Result.andThen, sliced, Addr.add]
    have hr4 : Rd w w.heap.size 1 A 4000 ((zs.take 4000).map i64v) := by
      have hlen : zs.length = n := hn.symm
      refine ⟨by simp; omega, fun h0 => ?_⟩
      obtain ⟨b, o, rfl, hb, hcc⟩ := hr.2 (by omega)
      refine ⟨b, o, rfl, hb, fun k u hu => hcc k u ?_⟩
      have hk : k < 4000 := by
        have := (List.getElem?_eq_some_iff.1 hu).1
        simp at this; omega
      rw [← hu, List.map_take, List.getElem?_take_of_lt hk]
    have HN := Lib.hid (src_new w A 4000 c (zs.take 4000) 72 hr4 (by omega) (by omega) hm (fun z hz' => hz z (List.mem_of_mem_take hz')))
    clear h hn hc hm hr hz hr4 hz8 he ht'
    go_enter Try.func7, Try.ntmps7
    go_wp2
    go_ret
    exact HN.out
  · have HN := Lib.hid (src_new w A n c zs 72 hr (by omega) hc hm hz)
    clear h hn hc hm hr hz
    go_enter Try.func7, Try.ntmps7
    go_wp2
    go_ret
    exact HN.out
end Go.Proofs.Ytijpflljopckiaa
namespace Go.Proofs.Ytijpflljopckiaa
open Go.RowKit
set_option linter.unusedVariables false

/-- A handle. -/
structure Hn where
  id : Int
  gn : Int
  rt : Int
  ht : Int
abbrev Hn.v (H : Hn) : Value := .agg #[.int .i64 H.id, .int .i64 H.gn, .int .i64 H.rt, .int .i64 H.ht]
/-- Block q holds a handle. -/
def H4 (W : World) (q : Nat) (H : Hn) : Prop := W.cell? ⟨q, 0, none⟩ = some (.int .i64 H.id) ∧ W.cell? ⟨q, 1, none⟩ = some (.int .i64 H.gn) ∧ W.cell? ⟨q, 2, none⟩ = some (.int .i64 H.rt) ∧ W.cell? ⟨q, 3, none⟩ = some (.int .i64 H.ht) ∧ q < W.heap.size
theorem H4.up {W W' : World} {q : Nat} {H : Hn} (h : H4 W q H) (hb : Below W.heap.size W W') : H4 W' q H := by
  obtain ⟨h0, h1, h2, h3, hl⟩ := h
  exact ⟨(hb.cell (p := ⟨q, 0, none⟩) hl).trans h0, (hb.cell (p := ⟨q, 1, none⟩) hl).trans h1, (hb.cell (p := ⟨q, 2, none⟩) hl).trans h2, (hb.cell (p := ⟨q, 3, none⟩) hl).trans h3, Nat.lt_of_lt_of_le hl hb.size⟩
theorem H4.start (w : World) (H : Hn) (t : TypeId) : H4 (w.alloc (.cells #[.int .i64 H.id, .int .i64 H.gn, .int .i64 H.rt, .int .i64 H.ht] t)) w.heap.size H :=
  ⟨by simp [go_sem], by simp [go_sem], by simp [go_sem], by simp [go_sem], by simp⟩
end Go.Proofs.Ytijpflljopckiaa
