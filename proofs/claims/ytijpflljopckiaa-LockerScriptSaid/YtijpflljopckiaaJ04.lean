/- What is proved here: ring.place, ring.within, ring.hasValidNumbers, each by one contract; ring.ordered returns the messages of a ring in order; shardqueueref04.order returns the messages of a ring in order; '==' and '!=' of a message and itself; cuts of a list of messages: what the walk gets, and how it reads. -/
import Derived.Test.YtijpflljopckiaaJ03
import Derived.Test.YtijpflljopckiaaRows
import Derived.Test.YtijpflljopckiaaJ02
import Derived.WalkKit
import Derived.Outline
import Derived.IntWalk
import Derived.RegionTactic
import Derived.Deep.RegionWith
import Derived.Deep.RegionHeld3
import Derived.Deep.DrawnRows
import Derived.Deep.AppendLies
import Derived.Laws.StructEq
import Derived.KernelRfl
import Derived.Laws.Slices
namespace Go.Proofs.Ytijpflljopckiaa
open Go.RowKit
set_option linter.unusedVariables false

theorem gwithin_any (n lo hi : Int) (w : World) : Calls Try.prog 118 #[.int .i64 n, .int .i64 lo, .int .i64 hi] w fun e w' => e = .returned (.bool (wi n lo hi)) ∧ w = w' := by
  by_cases h1 : lo ≤ n
  · by_cases h2 : n ≤ hi
    · have H := Lib.hid (wi_true h1 h2)
      go_enter Try.func118, Try.ntmps118
      go_wp2
      go_ret
      exact ⟨by rw [H.out]; rfl, rfl⟩
    · have H := Lib.hid (wi_high (lo := lo) (show hi < n by omega))
      go_enter Try.func118, Try.ntmps118
      go_wp2
      go_ret
      exact ⟨by rw [H.out]; rfl, rfl⟩
  · have H := Lib.hid (wi_low (hi := hi) (show n < lo by omega))
    go_enter Try.func118, Try.ntmps118
    go_wp2
    go_ret
    exact ⟨by rw [H.out]; rfl, rfl⟩
end Go.Proofs.Ytijpflljopckiaa
namespace Go.Proofs.Ytijpflljopckiaa
open Go.RowKit
set_option linter.unusedVariables false

theorem info_msg : (Try.prog.info? 151).map (fun i => (i.zero, i.size, i.bytes)) = some (some (Msg.v zM), 7, 64) := by kernel_rfl
theorem run_make_msgs (n : Nat) (h : n ≤ 1000000) (w : World) : (Instr.makeSlice 27 (.int .i64 n) (.int .i64 n)).run Try.prog w = .ok (.slice (some ⟨w.heap.size, 0, none⟩) n n) (w.alloc (.cells (madeCells (Msg.v zM).cells (n * 7)) 151)) := by
  obtain ⟨i, hi, hz⟩ := Option.map_eq_some_iff.1 info_msg
  simp only [Prod.mk.injEq] at hz
  have := run_make w 27 151 i (Msg.v zM) Try.underlying27 hi hz.1 .i64 .i64 n n (by omega) (by omega) (by rw [hz.2.2]; omega) (by omega)
  rw [hz.2.1] at this
  simpa using this

/-- A list of messages of the call's own. -/
def LsP (l : List Msg) (w : World) (e : Ending) (w' : World) : Prop := ∃ v, e = .returned v ∧ NwV w.heap.size v ∧ Ls w' w'.heap.size v l ∧ Below w.heap.size w w'

/-- A ring in block p, and a row of messages in block q of the call's own. -/
structure OrdAt (w : World) (p : Nat) (A : Option Addr) (n c : Nat) (hd sz : Int) (q m : Nat) (f : Nat → Msg) (W : World) : Prop where
  c0 : W.cell? ⟨p, 0, none⟩ = some (.slice A n c)
  c1 : W.cell? ⟨p, 1, none⟩ = some (.int .i64 hd)
  c2 : W.cell? ⟨p, 2, none⟩ = some (.int .i64 sz)
  row : MRow W q m f
  bel : Below w.heap.size w W
  old : w.heap.size ≤ p ∧ p < q
section
variable {w W W' : World} {p q n c m : Nat} {A : Option Addr} {hd sz : Int} {f : Nat → Msg}
theorem OrdAt.facts (h : OrdAt w p A n c hd sz q m f W) : W.cell? ⟨p, 0, none⟩ = some (.slice A n c) ∧ W.cell? ⟨p, 1, none⟩ = some (.int .i64 hd) ∧ W.cell? ⟨p, 2, none⟩ = some (.int .i64 sz) ∧ p < W.heap.size ∧ q < W.heap.size :=
  ⟨h.c0, h.c1, h.c2, Nat.lt_trans h.old.2 h.row.1, h.row.1⟩
theorem OrdAt.below (h : OrdAt w p A n c hd sz q m f W) (hb : Below W.heap.size W W') : OrdAt w p A n c hd sz q m f W' :=
  ⟨(hb.cell (p := ⟨p, 0, none⟩) (Nat.lt_trans h.old.2 h.row.1)).trans h.c0, (hb.cell (p := ⟨p, 1, none⟩) (Nat.lt_trans h.old.2 h.row.1)).trans h.c1, (hb.cell (p := ⟨p, 2, none⟩) (Nat.lt_trans h.old.2 h.row.1)).trans h.c2, h.row.below hb h.row.1, h.bel.trans (hb.mono h.bel.size), h.old⟩
theorem OrdAt.put (h : OrdAt w p A n c hd sz q m f W) {k : Nat} (hk : k < m) (M : Msg) : OrdAt w p A n c hd sz q m (fun i => if i = k then M else f i) (W.setCells q (k * 7) M.l) := by
  have hne : p ≠ q := by have := h.old.2; omega
  exact ⟨(sets_far (p := ⟨p, 0, none⟩) hne _ _).trans h.c0, (sets_far (p := ⟨p, 1, none⟩) hne _ _).trans h.c1, (sets_far (p := ⟨p, 2, none⟩) hne _ _).trans h.c2, h.row.put hk M, sets_below (by have := h.old; omega) _ _ _ h.bel, h.old⟩
theorem OrdAt.start (w : World) (A : Option Addr) (n c : Nat) (hd sz : Int) (m : Nat) (t u : TypeId) : OrdAt w w.heap.size A n c hd sz (w.heap.size + 1) m (fun _ => zM) ((w.alloc (.cells #[.slice A n c, .int .i64 hd, .int .i64 sz] t)).alloc (.cells (madeCells (Msg.v zM).cells (m * 7)) u)) := by
  have h := MRow.made (w.alloc (.cells #[.slice A n c, .int .i64 hd, .int .i64 sz] t)) m u
  have e : (w.alloc (.cells #[.slice A n c, .int .i64 hd, .int .i64 sz] t)).heap.size = w.heap.size + 1 := by simp
  rw [e] at h
  refine ⟨?_, ?_, ?_, h, ((Below.refl _ _).alloc (Nat.le_refl _) _).alloc (by omega) _, Nat.le_refl _, Nat.lt_succ_self _⟩
  all_goals
    rw [World.cell?_alloc_past _ _ _ (by omega)]
    simp [go_sem]
theorem OrdAt.congr {g : Nat → Msg} (h : OrdAt w p A n c hd sz q m f W) (e : ∀ k, k < m → f k = g k) : OrdAt w p A n c hd sz q m g W :=
  ⟨h.c0, h.c1, h.c2, h.row.congr e, h.bel, h.old⟩
theorem OrdAt.drew (h : OrdAt w p A n c hd sz q m f W) : OrdAt w p A n c hd sz q m f W.drew :=
  ⟨h.c0, h.c1, h.c2, h.row, h.bel.drew, h.old⟩
end

theorem OrdAt.step {w W W' : World} {p q n c m b o k : Nat} {A : Option Addr} {hd sz : Int} {f : Nat → Msg} {X : Msg} (h : OrdAt w p A n c hd sz q m f W) (hk : k < m) (hc : C7 W b o X) (hbw : b < W.heap.size) (hb : Below W.heap.size W W') :
    Hid (OrdAt w p A n c hd sz q m f W') ∧ (W'.cell? ⟨p, 0, none⟩ = some (.slice A n c) ∧ W'.cell? ⟨p, 1, none⟩ = some (.int .i64 hd) ∧ W'.cell? ⟨p, 2, none⟩ = some (.int .i64 sz) ∧ p < W'.heap.size ∧ q < W'.heap.size) ∧ C7 W' b o X ∧ C7 W' q (k * 7) (f k) ∧
      (W'.frozen? ⟨q, k * 7, none⟩ = false ∧ W'.frozen? ⟨q, k * 7 + 1, none⟩ = false ∧ W'.frozen? ⟨q, k * 7 + 2, none⟩ = false ∧ W'.frozen? ⟨q, k * 7 + 3, none⟩ = false ∧ W'.frozen? ⟨q, k * 7 + 4, none⟩ = false ∧ W'.frozen? ⟨q, k * 7 + 5, none⟩ = false ∧ W'.frozen? ⟨q, k * 7 + 6, none⟩ = false) :=
  ⟨Lib.hid (h.below hb), (h.below hb).facts, hc.below hb hbw, (h.below hb).row.c7 hk, (h.below hb).row.free _⟩
end Go.Proofs.Ytijpflljopckiaa
namespace Go.Proofs.Ytijpflljopckiaa
open Go.RowKit
set_option linter.unusedVariables false

/-- A ring in a block, and what was made beside it. -/
structure RgAt (w : World) (p : Nat) (A : Option Addr) (n c : Nat) (hd sz : Int) (W : World) : Prop where
  c0 : W.cell? ⟨p, 0, none⟩ = some (.slice A n c)
  c1 : W.cell? ⟨p, 1, none⟩ = some (.int .i64 hd)
  c2 : W.cell? ⟨p, 2, none⟩ = some (.int .i64 sz)
  bel : Below w.heap.size w W
  old : w.heap.size ≤ p ∧ p < W.heap.size
section
variable {w W W' : World} {p n c : Nat} {A : Option Addr} {hd sz : Int}
theorem RgAt.facts (h : RgAt w p A n c hd sz W) : W.cell? ⟨p, 0, none⟩ = some (.slice A n c) ∧ W.cell? ⟨p, 1, none⟩ = some (.int .i64 hd) ∧ W.cell? ⟨p, 2, none⟩ = some (.int .i64 sz) ∧ p < W.heap.size := ⟨h.c0, h.c1, h.c2, h.old.2⟩
theorem RgAt.below (h : RgAt w p A n c hd sz W) (hb : Below W.heap.size W W') : RgAt w p A n c hd sz W' :=
  ⟨(hb.cell (p := ⟨p, 0, none⟩) h.old.2).trans h.c0, (hb.cell (p := ⟨p, 1, none⟩) h.old.2).trans h.c1, (hb.cell (p := ⟨p, 2, none⟩) h.old.2).trans h.c2, h.bel.trans (hb.mono h.bel.size), h.old.1, Nat.lt_of_lt_of_le h.old.2 hb.size⟩
theorem RgAt.drew (h : RgAt w p A n c hd sz W) : RgAt w p A n c hd sz W.drew := ⟨h.c0, h.c1, h.c2, h.bel.drew, h.old⟩
theorem RgAt.drewN (h : RgAt w p A n c hd sz W) (k : Nat) : RgAt w p A n c hd sz (W.drewN k) := ⟨h.c0, h.c1, h.c2, below_drewN h.bel k, h.old⟩
theorem RgAt.alloc (h : RgAt w p A n c hd sz W) (o : Obj) : RgAt w p A n c hd sz (W.alloc o) := h.below ((Below.refl _ _).alloc (Nat.le_refl _) o)
/-- Something was written behind the ring. -/
theorem RgAt.grown (h : RgAt w p A n c hd sz W) {row : Option Nat} (hg : W.grownBy W' row) (hr : ∀ k, row = some k → p < k) : RgAt w p A n c hd sz W' := by
  have e : ∀ o, W'.cell? ⟨p, o, none⟩ = W.cell? ⟨p, o, none⟩ := fun o => hg.cell_far ⟨p, o, none⟩ h.old.2 (fun e => by have := hr p e.symm; omega)
  exact ⟨(e 0).trans h.c0, (e 1).trans h.c1, (e 2).trans h.c2, h.bel.grown hg h.bel.size (fun k hk => by have := hr k hk; have := h.old.1; omega), h.old.1, Nat.lt_of_lt_of_le h.old.2 hg.size⟩
theorem RgAt.start (w : World) (A : Option Addr) (n c : Nat) (hd sz : Int) (t : TypeId) : RgAt w w.heap.size A n c hd sz (w.alloc (.cells #[.slice A n c, .int .i64 hd, .int .i64 sz] t)) :=
  ⟨by simp [go_sem], by simp [go_sem], by simp [go_sem], (Below.refl _ _).alloc (Nat.le_refl _) _, Nat.le_refl _, by simp⟩
end

theorem C7.grown {W W' : World} {b m p : Nat} {X : Msg} {row : Option Nat} (h : C7 W b m X) (hg : W.grownBy W' row) (hb : b < p) (hp : p < W.heap.size) (hr : ∀ k, row = some k → p < k) : C7 W' b m X := by
  have e : ∀ o, W'.cell? ⟨b, o, none⟩ = W.cell? ⟨b, o, none⟩ := fun o => hg.cell_far ⟨b, o, none⟩ (show b < W.heap.size by omega) (fun e => by have := hr b e.symm; omega)
  obtain ⟨c0, c1, c2, c3, c4, c5, c6⟩ := h
  exact ⟨(e _).trans c0, (e _).trans c1, (e _).trans c2, (e _).trans c3, (e _).trans c4, (e _).trans c5, (e _).trans c6⟩

attribute [local go_sem ↓] Go.wp_at_zero Go.wp_at_succ
end Go.Proofs.Ytijpflljopckiaa
namespace Go.Proofs.Ytijpflljopckiaa
open Go.RowKit
set_option linter.unusedVariables false

theorem eqm_in (M : Msg) (W : World) : (Op.equalIn 10000 151 M.v M.v).run Try.prog W = .ok true W := by
  have u3 := Try.underlying3
  have u9 := Try.underlying9
  have hS : Try.prog.underlying 151 = some (.struct (Try.prog.fieldsOf 151)) := by kernel_rfl
  have hp : Try.prog.stoodInHeld 151 = false := by kernel_rfl
  rw [show (10000 : Nat) = 9999 + 1 from rfl, run_equalIn_agg W 9999 151 _ _ hS hp]
  simp only [Program.fieldsOf, Try.underlying151]
  go_simp
theorem neqm (M : Msg) : ∀ W, (binOp .neq 151 M.v M.v).run Try.prog W = .ok (.bool false) W := fun W => by
  rw [run_neq_struct, eqm_in]; rfl
end Go.Proofs.Ytijpflljopckiaa
namespace Go.Proofs.Ytijpflljopckiaa
open Go.RowKit
set_option linter.unusedVariables false

section
variable {w : World} {B : Nat} {A : Option Addr} {n c : Nat} {l : List Msg}
theorem Ls.upto (h : Ls w B (.slice A n c) l) (j : Nat) (hj : j ≤ n) : Ls w B (.slice A j c) (l.take j) := by
  obtain ⟨hn, hl, hm⟩ := h.len
  have hlen : (l.take j).length = j := by simp; omega
  refine ⟨A, c, by rw [hlen], by rw [hlen]; omega, hm, by rw [lcs_len], fun h0 => ?_⟩
  rw [hlen] at h0
  obtain ⟨b, o, rfl, hb, hc⟩ := h.rd.2 (by omega)
  refine ⟨b, o, rfl, hb, fun k u hu => hc k u ?_⟩
  rw [← lcs_take] at hu
  have hk : k < j * 7 := by
    have := (List.getElem?_eq_some_iff.1 hu).1
    simp at this; omega
  rw [← hu, List.getElem?_take_of_lt hk]
theorem Ls.cut (h : Ls w B (.slice A n c) l) (k : Nat) (hk : k ≤ n) : Ls w B (.slice (if c = k then A else A.map (·.add (k * 7))) (n - k) (c - k)) (l.drop k) := by
  obtain ⟨hn, hl, hm⟩ := h.len
  refine ⟨_, c - k, by rw [List.length_drop, hn], by simp; omega, by omega, by rw [lcs_len], fun h0 => ?_⟩
  rw [List.length_drop] at h0
  obtain ⟨b, o, rfl, hb, hc⟩ := h.rd.2 (by omega)
  rw [if_neg (by omega)]
  refine ⟨b, o + k * 7, by rw [Option.map_some, add_mk], hb, fun j u hu => ?_⟩
  rw [Nat.add_assoc]
  refine hc _ u ?_
  rw [← hu, ← lcs_drop, List.getElem?_drop]
end
end Go.Proofs.Ytijpflljopckiaa
