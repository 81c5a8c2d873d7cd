/- What is proved here: (plain) a ring that is filled with valid messages of different IDs is valid; what pushes onto it give; ring.without by a contract; Rqbp; (plain) what removals from a ring that is filled with valid messages of different IDs give. -/
import Derived.Test.YtfkpkmcpepeaeaaJ06
import Derived.Deep.DeepCutAuto
import Derived.Test.YtfkpkmcpepeaeaaJ05
import Derived.Test.YtfkpkmcpepeaeaaJ02
import Derived.Test.YtfkpkmcpepeaeaaRows
import Derived.Test.YtfkpkmcpepeaeaaJ01
import Derived.WalkKit
import Derived.Outline
import Derived.IntWalk
import Derived.Deep.QuietTactic
import Derived.BigQuiet
namespace Go.Proofs.Ytfkpkmcpepeaeaa
open Go.RowKit
set_option linter.unusedVariables false

/-- Messages that a ring may hold. -/
def Gd (l : List Msg) : Prop := (∀ M ∈ l, vf M = 0) ∧ ¬ dupP l
section
variable {n hd : Nat} {l : List Msg}
theorem rgV_fil (h1 : 1 ≤ n) (h2 : n ≤ 12) (hh : hd < n) (hl : l.length ≤ n) (hg : Gd l) : rgV (fil n hd l) (hd : Int) (l.length : Int) = 0 := by
  refine rgV_ok (nm_mk (by rw [fil_len]; omega)) (fun k hk hlt => ?_) ?_ ?_
  · rw [fil_len] at hlt
    simp only [Int.toNat_natCast] at hk ⊢
    rw [cel_fil l hh hlt, List.getD_eq_getElem?_getD, List.getElem?_eq_none hk]
    rfl
  · simp only [Int.toNat_natCast]
    rw [ord_fil l hh hl]
    exact fe_all hg.1
  · simp only [Int.toNat_natCast]
    rw [ord_fil l hh hl]
    exact hg.2
theorem lsF_fil (h1 : 1 ≤ n) (h2 : n ≤ 12) (hh : hd < n) (hl : l.length ≤ n) (hg : Gd l) : lsF (fil n hd l) (hd : Int) (l.length : Int) = l := by
  unfold lsF
  rw [if_pos (rgV_fil h1 h2 hh hl hg)]
  simp only [Int.toNat_natCast]
  exact ord_fil l hh hl
theorem puE_fil (h1 : 1 ≤ n) (h2 : n ≤ 12) (hh : hd < n) (hl : l.length < n) (hg : Gd l) {M : Msg} (hM : vf M = 0) (hi : ∀ N ∈ l, N.id ≠ M.id) : puE (fil n hd l) (hd : Int) (l.length : Int) M = 0 := by
  unfold puE
  rw [if_neg (by simpa using rgV_fil h1 h2 hh (by omega) hg), if_neg (by simpa using hM), if_neg (by rw [fil_len]; omega)]
  have e : ord (fil n hd l) (hd : Int).toNat (l.length : Int).toNat = l := by simp only [Int.toNat_natCast]; exact ord_fil l hh (by omega)
  refine if_neg (fun h => ?_)
  rw [e] at h
  obtain ⟨N, hN, e⟩ := (ixF_ge l M.id).1 h
  exact hi N hN e
theorem pbC_fil (h1 : 1 ≤ n) (h2 : n ≤ 12) (hh : hd < n) (hl : l.length < n) (hg : Gd l) {M : Msg} (hM : vf M = 0) (hi : ∀ N ∈ l, N.id ≠ M.id) : pbC (fil n hd l) (hd : Int) (l.length : Int) M = fil n hd (l ++ [M]) := by
  unfold pbC
  rw [if_pos (puE_fil h1 h2 hh hl hg hM hi)]
  simp only [Int.toNat_natCast]
  rw [ord_fil l hh (by omega), fil_len]
theorem gd_nil : Gd [] := ⟨by simp, by rintro ⟨i, j, hi, _⟩; simp at hi⟩
theorem gd_front (hg : Gd l) {M : Msg} (hM : vf M = 0) (hi : ∀ N ∈ l, N.id ≠ M.id) : Gd (M :: l) := by
  refine ⟨fun N hN => ?_, ?_⟩
  · rcases List.mem_cons.1 hN with h | h
    · rw [h]; exact hM
    · exact hg.1 N h
  · rintro ⟨i, j, h1, h2, hij, e⟩
    obtain ⟨j, rfl⟩ : ∃ k, j = k + 1 := ⟨j - 1, by omega⟩
    have hj : j < l.length := by simpa using h2
    cases i with
    | zero => exact hi _ (List.getElem_mem hj) (by simpa using e.symm)
    | succ i => exact hg.2 ⟨i, j, by omega, hj, by omega, by simpa using e⟩
end
theorem nwC_fil {k : Nat} (h1 : 1 ≤ k) (h2 : k ≤ 12) (hd : Nat) (hh : hd < k) : nwC (k : Int) = fil k hd [] ∧ nwE (k : Int) = 0 := by
  have h : wi (k : Int) 1 12 = true := wi_true (by omega) (by omega)
  unfold nwC nwE
  rw [if_pos h, if_pos h]
  exact ⟨row_fil hh (fun j _ => by simp), rfl⟩
end Go.Proofs.Ytfkpkmcpepeaeaa
namespace Go.Proofs.Ytfkpkmcpepeaeaa
open Go.RowKit
set_option linter.unusedVariables false

/-- The work of 'without': the ring, the two results, the message and the new cells. -/
structure WoAt (w : World) (p r s y z : Nat) (n cap : Nat) (hd sz : Int) (X : Msg) (f : Nat → Msg) (W : World) : Prop where
  po : PoAt w p r s (some ⟨z, 0, none⟩) n cap hd sz W
  my : MAt W y X.nth X.bd
  row : MRow W z n f
  old : s < y ∧ y < z
section
variable {w W W' : World} {p r s y z n cap : Nat} {hd sz : Int} {X : Msg} {f : Nat → Msg}
theorem WoAt.below (h : WoAt w p r s y z n cap hd sz X f W) (hb : Below W.heap.size W W') : WoAt w p r s y z n cap hd sz X f W' := ⟨h.po.below hb, h.my.below hb h.my.1, h.row.below hb h.row.1, h.old⟩
theorem WoAt.drew (h : WoAt w p r s y z n cap hd sz X f W) : WoAt w p r s y z n cap hd sz X f W.drew := ⟨h.po.drew, h.my, h.row, h.old⟩
theorem WoAt.put (h : WoAt w p r s y z n cap hd sz X f W) {k : Nat} (hk : k < n) (M : Msg) : WoAt w p r s y z n cap hd sz X (fun i => if i = k then M else f i) (((((((W.setCell ⟨z, k * 7, none⟩ (.int .i64 M.id)).setCell ⟨z, k * 7 + 1, none⟩ (.int .i64 M.rt)).setCell ⟨z, k * 7 + 2, none⟩ (.int .i64 M.ep)).setCell ⟨z, k * 7 + 3, none⟩ (.int .i64 M.ct)).setCell ⟨z, k * 7 + 4, none⟩ (.int .i64 M.gn)).setCell ⟨z, k * 7 + 5, none⟩ (.int .i64 M.st)).setCell ⟨z, k * 7 + 6, none⟩ (.string M.bd)) :=
  ⟨h.po.sets7 (by have := h.old; omega) (k * 7) M, h.my.sets7 (by have := h.old; omega) (k * 7) M, h.row.put7n hk M, h.old⟩
theorem WoAt.s3 (h : WoAt w p r s y z n cap hd sz X f W) : W.cell? ⟨p, 0, none⟩ = some (.slice (some ⟨z, 0, none⟩) n cap) ∧ W.cell? ⟨p, 1, none⟩ = some (.int .i64 hd) ∧ W.cell? ⟨p, 2, none⟩ = some (.int .i64 sz) := ⟨h.po.rb.c0, h.po.rb.c1, h.po.rb.c2⟩
theorem PoAt.s3 {A : Option Addr} {c : Nat} (h : PoAt w p r s A n c hd sz W) : W.cell? ⟨p, 0, none⟩ = some (.slice A n c) ∧ W.cell? ⟨p, 1, none⟩ = some (.int .i64 hd) ∧ W.cell? ⟨p, 2, none⟩ = some (.int .i64 sz) := ⟨h.rb.c0, h.rb.c1, h.rb.c2⟩
theorem MAt.congr {q : Nat} {f g : Nat → Int} {t : ByteArray} (h : MAt W q f t) (e : ∀ j, j < 6 → f j = g j) : MAt W q g t :=
  ⟨h.1, fun j hj => by rw [← e j hj]; exact h.2.1 j hj, h.2.2⟩
theorem C7.drew {b m : Nat} {M : Msg} (h : C7 W b m M) : C7 W.drew b m M := h
theorem C7.up {A : Option Addr} {c b m : Nat} {M : Msg} (k : C7 W b m M) (h : PoAt w p r s A n c hd sz W) (hb : b < w.heap.size) (o : Obj) : C7 (W.alloc o) b m M :=
  C7.below k ((Below.refl W.heap.size W).alloc (Nat.le_refl _) o) (Nat.lt_of_lt_of_le hb h.bel.size)
/-- What is at hand in a block that a message is stored into. -/
theorem MAt.fr {q : Nat} {f : Nat → Int} {t : ByteArray} (h : MAt W q f t) : W.frozen? ⟨q, 0, none⟩ = false ∧ W.frozen? ⟨q, 1, none⟩ = false ∧ W.frozen? ⟨q, 2, none⟩ = false ∧ W.frozen? ⟨q, 3, none⟩ = false ∧ W.frozen? ⟨q, 4, none⟩ = false ∧ W.frozen? ⟨q, 5, none⟩ = false ∧ W.frozen? ⟨q, 6, none⟩ = false := ⟨h.2.2.2 0 (by omega), h.2.2.2 1 (by omega), h.2.2.2 2 (by omega), h.2.2.2 3 (by omega), h.2.2.2 4 (by omega), h.2.2.2 5 (by omega), h.2.2.2 6 (by omega)⟩
/-- What is at hand for a store of a message at place k, and a load at place j. -/
theorem WoAt.at2 (h : WoAt w p r s y z n cap hd sz X f W) {j k : Nat} (hj : j < n) (hk : k < n) : C7 W z (j * 7) (f j) ∧ C7 W z (k * 7) (f k) ∧ (W.frozen? ⟨z, k * 7, none⟩ = false ∧ W.frozen? ⟨z, k * 7 + 1, none⟩ = false ∧ W.frozen? ⟨z, k * 7 + 2, none⟩ = false ∧ W.frozen? ⟨z, k * 7 + 3, none⟩ = false ∧ W.frozen? ⟨z, k * 7 + 4, none⟩ = false ∧ W.frozen? ⟨z, k * 7 + 5, none⟩ = false ∧ W.frozen? ⟨z, k * 7 + 6, none⟩ = false) ∧ p < W.heap.size ∧ z < W.heap.size ∧ z ≠ p ∧ p ≠ z :=
  ⟨h.row.c7 hj, h.row.c7 hk, h.row.free _, h.po.rb.lt, h.row.1, by have := h.old; have := h.po.old; omega, by have := h.old; have := h.po.old; omega⟩
end

attribute [local go_sem ↓] Go.wp_at_zero Go.wp_at_succ
end Go.Proofs.Ytfkpkmcpepeaeaa
/- Plain: what PopBack returns; lists behind stores. -/
namespace Go.Proofs.Ytfkpkmcpepeaeaa
open Go.RowKit
set_option linter.unusedVariables false

theorem Ls.off3 {W : World} {B lo n c r : Nat} {A : Option Addr} {l : List Msg} (h : Ls W B (.slice A n c) l) (hA : Nw lo A) (hr : r < lo) (x y z : Value) : Ls (((W.setCell ⟨r, 0, none⟩ x).setCell ⟨r, 1, none⟩ y).setCell ⟨r, 2, none⟩ z) B (.slice A n c) l :=
  ((h.off hA (p := ⟨r, 0, none⟩) hr x).off hA (p := ⟨r, 1, none⟩) hr y).off hA (p := ⟨r, 2, none⟩) hr z
theorem RB.all {W : World} {p n c : Nat} {A : Option Addr} {hd sz : Int} (h : RB W p A n c hd sz) (A' : Option Addr) (n' c' : Nat) (x y : Int) : RB (((W.setCell ⟨p, 0, none⟩ (.slice A' n' c')).setCell ⟨p, 1, none⟩ (.int .i64 x)).setCell ⟨p, 2, none⟩ (.int .i64 y)) p A' n' c' x y := ((h.setA A' n' c').setH x).setS y
theorem PoAt.all {w W : World} {p r s n c : Nat} {A : Option Addr} {hd sz : Int} (h : PoAt w p r s A n c hd sz W) (A' : Option Addr) (n' c' : Nat) (x y : Int) : PoAt w p r s A' n' c' x y (((W.setCell ⟨p, 0, none⟩ (.slice A' n' c')).setCell ⟨p, 1, none⟩ (.int .i64 x)).setCell ⟨p, 2, none⟩ (.int .i64 y)) := ((h.setA A' n' c').setH x).setS y

attribute [local go_sem ↓] Go.wp_at_zero Go.wp_at_succ
end Go.Proofs.Ytfkpkmcpepeaeaa
namespace Go.Proofs.Ytfkpkmcpepeaeaa
open Go.RowKit
set_option linter.unusedVariables false

theorem dup_pair (l : List Msg) : ¬ dupP l ↔ l.Pairwise (fun a b => a.id ≠ b.id) := by
  rw [List.pairwise_iff_getElem]
  constructor
  · intro h i j hi hj hij e; exact h ⟨i, j, hi, hj, hij, e⟩
  · rintro h ⟨i, j, hi, hj, hij, e⟩; exact h i j hi hj hij e
theorem gd_sub {l m : List Msg} (hs : List.Sublist m l) (hg : Gd l) : Gd m :=
  ⟨fun M hM => hg.1 M (hs.subset hM), (dup_pair m).2 (((dup_pair l).1 hg.2).sublist hs)⟩
section
variable {n hd : Nat} {l : List Msg}
end
end Go.Proofs.Ytfkpkmcpepeaeaa
