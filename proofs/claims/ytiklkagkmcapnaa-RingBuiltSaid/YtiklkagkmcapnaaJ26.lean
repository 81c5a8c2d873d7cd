/- What is proved here: More and Range of the statements' base, the latter from a number below zero on; what a statement about rings holds beside its source. -/
import Derived.Test.YtiklkagkmcapnaaJ18
import Derived.Test.YtiklkagkmcapnaaJ15
import Derived.Test.YtiklkagkmcapnaaJ14
namespace Go.Proofs.Ytiklkagkmcapnaa
open Go.RowKit
set_option linter.unusedVariables false

set_option maxHeartbeats 2000000 in
theorem range2_any (B g : Nat) (w : World) (h : SrcAt w B g) (lo hi : Int) (h0 : -1000 ≤ lo) (h1 : lo ≤ hi) (h2 : hi ≤ 1000000) : Calls Try.prog 17 #[.pointer (some ⟨g, 0, none⟩), .int .i64 lo, .int .i64 hi] w (SrInt B g lo hi w) := by
  have HC := Lib.hid (n_any B g w h (hi - lo + 1) (by omega) (by omega))
  clear h
  go_enter Try.func17, Try.ntmps17
  go_wp2_with fail
  refine HC.out.mono ?_
  rintro e w1 ⟨x, rfl, hx1, hx2, hs, hg⟩
  have HS := Lib.hid hs
  have HG := Lib.hid hg
  clear hs hg
  go_wp2
  go_ret
  exact ⟨lo + x, rfl, by omega, by omega, HS.out, HG.out⟩

/-- A yes or no of a source. -/
def SrBool (B g : Nat) (w : World) (e : Ending) (w' : World) : Prop := ∃ b : Bool, e = .returned (.bool b) ∧ SrcAt w' B g ∧ w.grownBy w' (some g)
set_option maxHeartbeats 2000000 in
theorem more_any (B g : Nat) (w : World) (h : SrcAt w B g) : Calls Try.prog 19 #[.pointer (some ⟨g, 0, none⟩)] w (SrBool B g w) := by
  have H := Lib.hid h
  obtain ⟨hB, hg, A, n, c, k, zs, a1, a2, a3, a4, a5, a6, a7, a8, a9⟩ := h
  have HK := Lib.hid (show ∀ b : Bool, decide ((k : Int) < (n : Int)) = b → True from fun _ _ => trivial)
  clear hB hg a2 a3 a4 a8 a9
  go_enter Try.func19, Try.ntmps19
  go_wp2
  go_quiet (fail)
  go_wp2
  go_ret
  exact ⟨_, rfl, H.out.drewN _, only_drewN (World.grownBy.refl _ _) _⟩

theorem rd_msg (w : World) (M : Msg) (t : TypeId) : Rd (w.alloc (.cells M.cs t)) (w.heap.size + 1) 7 (some ⟨w.heap.size, 0, none⟩) 1 (lcs [M]) := by
  refine ⟨by rw [lcs_len]; rfl, fun _ => ⟨w.heap.size, 0, rfl, Nat.lt_succ_self _, fun j u hu => ?_⟩⟩
  rw [Nat.zero_add, World.cell?_alloc_new]
  have e : lcs [M] = M.l := by simp [lcs]
  rw [e] at hu
  show (M.l.toArray)[j]? = some u
  simpa using hu
theorem off_own {W : World} {base b n : Nat} {e : TypeId} {A : Option Addr} {m c size : Nat} {xs : List Value} (h : W.ownsRow base e size (.slice A m c) n xs) (hb : b < base) : Off b A := fun a e => by
  subst e
  have := (h.lt a.block rfl).1
  omega

/-- A source, and a ring whose cells lie below a bound. -/
structure BuAt (w : World) (g p Bd : Nat) (A : Option Addr) (k c : Nat) (hd sz : Int) (cs : List Msg) (W : World) : Prop where
  src : SrcAt W w.heap.size g
  rb : RB W p A k c hd sz
  ls : Ls W Bd (.slice A k c) cs
  offg : Off g A
  offp : Off p A
  bel : Below w.heap.size w W
  old : w.heap.size ≤ g ∧ g < p ∧ Bd ≤ W.heap.size
section
variable {w W W' : World} {g p Bd k c : Nat} {A : Option Addr} {hd sz : Int} {cs : List Msg}
theorem BuAt.below (h : BuAt w g p Bd A k c hd sz cs W) (hb : Below W.heap.size W W') : BuAt w g p Bd A k c hd sz cs W' :=
  ⟨h.src.below hb, h.rb.below hb h.rb.lt, h.ls.below (hb.mono h.old.2.2), h.offg, h.offp, btrl h.bel h.bel.size hb, h.old.1, h.old.2.1, Nat.le_trans h.old.2.2 hb.size⟩
theorem BuAt.grownG (h : BuAt w g p Bd A k c hd sz cs W) (hs : SrcAt W' w.heap.size g) (hg : W.grownBy W' (some g)) : BuAt w g p Bd A k c hd sz cs W' :=
  ⟨hs, h.rb.grownG hg (by have := h.old; omega), h.ls.grownG hg h.old.2.2 h.offg, h.offg, h.offp, below_only h.bel hg h.old.1 (Nat.le_refl _), h.old.1, h.old.2.1, Nat.le_trans h.old.2.2 hg.size⟩
theorem BuAt.alloc (h : BuAt w g p Bd A k c hd sz cs W) (o : Obj) : BuAt w g p Bd A k c hd sz cs (W.alloc o) := h.below ((Below.refl _ _).alloc (Nat.le_refl _) o)
theorem BuAt.drew (h : BuAt w g p Bd A k c hd sz cs W) : BuAt w g p Bd A k c hd sz cs W.drew := ⟨h.src.drew, h.rb.drew, h.ls, h.offg, h.offp, h.bel.drew, h.old⟩
/-- A row that the call owns grows. -/
theorem BuAt.row (h : BuAt w g p Bd A k c hd sz cs W) {row : Option Nat} (hg : W.grownBy W' row) (hr : ∀ x, row = some x → p < x ∧ Bd ≤ x) : BuAt w g p Bd A k c hd sz cs W' := by
  have hne : ∀ b, b ≤ p → some b ≠ row := fun b hb e => by have := hr b e.symm; omega
  refine ⟨h.src.keep hg.size (fun o => hg.cell_far _ h.src.2.1 (hne g (by have := h.old; omega))) (fun o => hg.frozen_far _ h.src.2.1 (hne g (by have := h.old; omega))) (fun q hq => hg.cell_far q (by have := h.bel.size; omega) (hne _ (by have := h.old; omega))), ⟨Nat.lt_of_lt_of_le h.rb.lt hg.size, (hg.cell_far _ h.rb.lt (hne p (Nat.le_refl _))).trans h.rb.c0, (hg.cell_far _ h.rb.lt (hne p (Nat.le_refl _))).trans h.rb.c1, (hg.cell_far _ h.rb.lt (hne p (Nat.le_refl _))).trans h.rb.c2, fun o => (hg.frozen_far _ h.rb.lt (hne p (Nat.le_refl _))).trans (h.rb.fr o)⟩, h.ls.keep fun q hq => hg.cell_far q (by have := h.old; omega) (fun e => by have := (hr _ e.symm).2; omega), h.offg, h.offp, ?_, h.old.1, h.old.2.1, Nat.le_trans h.old.2.2 hg.size⟩
  exact h.bel.grown hg h.bel.size (fun x e => by have := hr x e; have := h.old; omega)
theorem BuAt.s3 (h : BuAt w g p Bd A k c hd sz cs W) : W.cell? ⟨p, 0, none⟩ = some (.slice A k c) ∧ W.cell? ⟨p, 1, none⟩ = some (.int .i64 hd) ∧ W.cell? ⟨p, 2, none⟩ = some (.int .i64 sz) := ⟨h.rb.c0, h.rb.c1, h.rb.c2⟩
theorem BuAt.here (h : BuAt w g p Bd A k c hd sz cs W) : Ls W W.heap.size (.slice A k c) cs := h.ls.more h.old.2.2
end
end Go.Proofs.Ytiklkagkmcapnaa
