/- What is proved here: ring.without by a contract; Rqbp; (plain) what removals from a ring that is filled with valid messages of different IDs give; (plain) heaps of deadlines: sifting up and down keeps the elements and makes a heap; (plain) heaps of deadlines: the place of an ID, what is due in order, insertion into a sorted row. -/
import Derived.Test.YtijpflljopckiaaJ06
import Derived.Deep.DeepCutAuto
import Derived.Test.YtijpflljopckiaaJ05
import Derived.Test.YtijpflljopckiaaJ03
import Derived.Test.YtijpflljopckiaaRows
import Derived.Test.YtijpflljopckiaaJ02
import Derived.WalkKit
import Derived.Outline
import Derived.IntWalk
import Derived.Deep.QuietTactic
import Derived.BigQuiet
import Derived.ProofKit
namespace Go.Proofs.Ytijpflljopckiaa
open Go.RowKit
set_option linter.unusedVariables false

/-- The work of 'without': the ring, the two results, the message and the new cells. -/
structure WoAt (w : World) (p r s y z : Nat) (n cap : Nat) (hd sz : Int) (X : Msg) (f : Nat → Msg) (W : World) : Prop where
  po : PoAt w p r s (some ⟨z, 0, none⟩) n cap hd sz W
  my : MAt W y X.nth X.bd
  row : MRow W z n f
  old : s < y ∧ y < z
section
variable {w W W' : World} {p r s y z n cap : Nat} {hd sz : Int} {X : Msg} {f : Nat → Msg}
theorem WoAt.below (h : WoAt w p r s y z n cap hd sz X f W) (hb : Below W.heap.size W W') : WoAt w p r s y z n cap hd sz X f W' := ⟨h.po.below hb, h.my.below hb h.my.1, h.row.below hb h.row.1, h.old⟩
theorem WoAt.drew (h : WoAt w p r s y z n cap hd sz X f W) : WoAt w p r s y z n cap hd sz X f W.drew := ⟨h.po.drew, h.my, h.row, h.old⟩
theorem WoAt.put (h : WoAt w p r s y z n cap hd sz X f W) {k : Nat} (hk : k < n) (M : Msg) : WoAt w p r s y z n cap hd sz X (fun i => if i = k then M else f i) (((((((W.setCell ⟨z, k * 7, none⟩ (.int .i64 M.id)).setCell ⟨z, k * 7 + 1, none⟩ (.int .i64 M.rt)).setCell ⟨z, k * 7 + 2, none⟩ (.int .i64 M.ep)).setCell ⟨z, k * 7 + 3, none⟩ (.int .i64 M.ct)).setCell ⟨z, k * 7 + 4, none⟩ (.int .i64 M.gn)).setCell ⟨z, k * 7 + 5, none⟩ (.int .i64 M.st)).setCell ⟨z, k * 7 + 6, none⟩ (.string M.bd)) :=
  ⟨h.po.sets7 (by have := h.old; omega) (k * 7) M, h.my.sets7 (by have := h.old; omega) (k * 7) M, h.row.put7n hk M, h.old⟩
theorem WoAt.s3 (h : WoAt w p r s y z n cap hd sz X f W) : W.cell? ⟨p, 0, none⟩ = some (.slice (some ⟨z, 0, none⟩) n cap) ∧ W.cell? ⟨p, 1, none⟩ = some (.int .i64 hd) ∧ W.cell? ⟨p, 2, none⟩ = some (.int .i64 sz) := ⟨h.po.rb.c0, h.po.rb.c1, h.po.rb.c2⟩
theorem WoAt.s10 (h : WoAt w p r s y z n cap hd sz X f W) {k : Nat} (hk : k < n) {M : Msg} (e : f k = M) : W.cell? ⟨p, 0, none⟩ = some (.slice (some ⟨z, 0, none⟩) n cap) ∧ W.cell? ⟨p, 1, none⟩ = some (.int .i64 hd) ∧ W.cell? ⟨p, 2, none⟩ = some (.int .i64 sz) ∧ W.cell? ⟨z, k * 7, none⟩ = some (.int .i64 M.id) ∧ W.cell? ⟨z, k * 7 + 1, none⟩ = some (.int .i64 M.rt) ∧ W.cell? ⟨z, k * 7 + 2, none⟩ = some (.int .i64 M.ep) ∧ W.cell? ⟨z, k * 7 + 3, none⟩ = some (.int .i64 M.ct) ∧ W.cell? ⟨z, k * 7 + 4, none⟩ = some (.int .i64 M.gn) ∧ W.cell? ⟨z, k * 7 + 5, none⟩ = some (.int .i64 M.st) ∧ W.cell? ⟨z, k * 7 + 6, none⟩ = some (.string M.bd) := by
  subst e; exact ⟨h.po.rb.c0, h.po.rb.c1, h.po.rb.c2, h.row.c7 hk⟩
theorem PoAt.s3 {A : Option Addr} {c : Nat} (h : PoAt w p r s A n c hd sz W) : W.cell? ⟨p, 0, none⟩ = some (.slice A n c) ∧ W.cell? ⟨p, 1, none⟩ = some (.int .i64 hd) ∧ W.cell? ⟨p, 2, none⟩ = some (.int .i64 sz) := ⟨h.rb.c0, h.rb.c1, h.rb.c2⟩
theorem MAt.congr {q : Nat} {f g : Nat → Int} {t : ByteArray} (h : MAt W q f t) (e : ∀ j, j < 6 → f j = g j) : MAt W q g t :=
  ⟨h.1, fun j hj => by rw [← e j hj]; exact h.2.1 j hj, h.2.2⟩
theorem C7.drew {b m : Nat} {M : Msg} (h : C7 W b m M) : C7 W.drew b m M := h
theorem C7.up {A : Option Addr} {c b m : Nat} {M : Msg} (k : C7 W b m M) (h : PoAt w p r s A n c hd sz W) (hb : b < w.heap.size) (o : Obj) : C7 (W.alloc o) b m M :=
  C7.below k ((Below.refl W.heap.size W).alloc (Nat.le_refl _) o) (Nat.lt_of_lt_of_le hb h.bel.size)
/-- What is at hand in a block that a message is stored into. -/
theorem MAt.fr {q : Nat} {f : Nat → Int} {t : ByteArray} (h : MAt W q f t) : W.frozen? ⟨q, 0, none⟩ = false ∧ W.frozen? ⟨q, 1, none⟩ = false ∧ W.frozen? ⟨q, 2, none⟩ = false ∧ W.frozen? ⟨q, 3, none⟩ = false ∧ W.frozen? ⟨q, 4, none⟩ = false ∧ W.frozen? ⟨q, 5, none⟩ = false ∧ W.frozen? ⟨q, 6, none⟩ = false := ⟨h.2.2.2 0 (by omega), h.2.2.2 1 (by omega), h.2.2.2 2 (by omega), h.2.2.2 3 (by omega), h.2.2.2 4 (by omega), h.2.2.2 5 (by omega), h.2.2.2 6 (by omega)⟩
/-- What is at hand for a store of a message at place k, and a load at place j. -/
theorem WoAt.at2 (h : WoAt w p r s y z n cap hd sz X f W) {j k : Nat} (hj : j < n) (hk : k < n) : C7 W z (j * 7) (f j) ∧ C7 W z (k * 7) (f k) ∧ (W.frozen? ⟨z, k * 7, none⟩ = false ∧ W.frozen? ⟨z, k * 7 + 1, none⟩ = false ∧ W.frozen? ⟨z, k * 7 + 2, none⟩ = false ∧ W.frozen? ⟨z, k * 7 + 3, none⟩ = false ∧ W.frozen? ⟨z, k * 7 + 4, none⟩ = false ∧ W.frozen? ⟨z, k * 7 + 5, none⟩ = false ∧ W.frozen? ⟨z, k * 7 + 6, none⟩ = false) ∧ p < W.heap.size ∧ z < W.heap.size ∧ z ≠ p ∧ p ≠ z :=
  ⟨h.row.c7 hj, h.row.c7 hk, h.row.free _, h.po.rb.lt, h.row.1, by have := h.old; have := h.po.old; omega, by have := h.old; have := h.po.old; omega⟩
end

attribute [local go_sem ↓] Go.wp_at_zero Go.wp_at_succ
end Go.Proofs.Ytijpflljopckiaa
/- Plain: what PopBack returns; lists behind stores. -/
namespace Go.Proofs.Ytijpflljopckiaa
open Go.RowKit
set_option linter.unusedVariables false

theorem Ls.off3 {W : World} {B lo n c r : Nat} {A : Option Addr} {l : List Msg} (h : Ls W B (.slice A n c) l) (hA : Nw lo A) (hr : r < lo) (x y z : Value) : Ls (((W.setCell ⟨r, 0, none⟩ x).setCell ⟨r, 1, none⟩ y).setCell ⟨r, 2, none⟩ z) B (.slice A n c) l :=
  ((h.off hA (p := ⟨r, 0, none⟩) hr x).off hA (p := ⟨r, 1, none⟩) hr y).off hA (p := ⟨r, 2, none⟩) hr z
theorem RB.all {W : World} {p n c : Nat} {A : Option Addr} {hd sz : Int} (h : RB W p A n c hd sz) (A' : Option Addr) (n' c' : Nat) (x y : Int) : RB (((W.setCell ⟨p, 0, none⟩ (.slice A' n' c')).setCell ⟨p, 1, none⟩ (.int .i64 x)).setCell ⟨p, 2, none⟩ (.int .i64 y)) p A' n' c' x y := ((h.setA A' n' c').setH x).setS y
theorem PoAt.all {w W : World} {p r s n c : Nat} {A : Option Addr} {hd sz : Int} (h : PoAt w p r s A n c hd sz W) (A' : Option Addr) (n' c' : Nat) (x y : Int) : PoAt w p r s A' n' c' x y (((W.setCell ⟨p, 0, none⟩ (.slice A' n' c')).setCell ⟨p, 1, none⟩ (.int .i64 x)).setCell ⟨p, 2, none⟩ (.int .i64 y)) := ((h.setA A' n' c').setH x).setS y

attribute [local go_sem ↓] Go.wp_at_zero Go.wp_at_succ
end Go.Proofs.Ytijpflljopckiaa
namespace Go.Proofs.Ytijpflljopckiaa
open Go.RowKit
set_option linter.unusedVariables false

theorem dup_pair (l : List Msg) : ¬ dupP l ↔ l.Pairwise (fun a b => a.id ≠ b.id) := by
  rw [List.pairwise_iff_getElem]
  constructor
  · intro h i j hi hj hij e; exact h ⟨i, j, hi, hj, hij, e⟩
  · rintro h ⟨i, j, hi, hj, hij, e⟩; exact h i j hi hj hij e
theorem gd_sub {l m : List Msg} (hs : List.Sublist m l) (hg : Gd l) : Gd m :=
  ⟨fun M hM => hg.1 M (hs.subset hM), (dup_pair m).2 (((dup_pair l).1 hg.2).sublist hs)⟩
section
variable {n hd : Nat} {l : List Msg}
end
end Go.Proofs.Ytijpflljopckiaa
namespace Go.Proofs.Ytijpflljopckiaa
set_option linter.unusedVariables false

/-- An element. -/
structure Du where
  dl : Int
  id : Int
def zD : Du := ⟨0, 0⟩
/-- It is before another one. -/
def bef (a b : Du) : Bool := decide (a.dl < b.dl ∨ (a.dl = b.dl ∧ a.id < b.id))
theorem bef_iff {a b : Du} : bef a b = true ↔ a.dl < b.dl ∨ (a.dl = b.dl ∧ a.id < b.id) := by unfold bef; exact decide_eq_true_iff
theorem bef_no {a b : Du} : bef a b = false ↔ b.dl < a.dl ∨ (b.dl = a.dl ∧ b.id ≤ a.id) := by
  rw [← Bool.not_eq_true, bef_iff]; omega
theorem bef_irr (a : Du) : bef a a = false := bef_no.2 (by omega)
theorem bef_asym {a b : Du} (h : bef a b = true) : bef b a = false := by
  rw [bef_iff] at h; rw [bef_no]; omega
/-- Not before, along a chain. -/
theorem nbef_trans {a b c : Du} (h : bef a b = false) (k : bef b c = false) : bef a c = false := by
  rw [bef_no] at *; omega
theorem bef_nbef {a b c : Du} (h : bef a b = true) (k : bef c b = false) : bef c a = false := by
  rw [bef_iff] at h; rw [bef_no] at *; omega

/-- The element at a place. -/
def ge (h : List Du) (i : Nat) : Du := h.getD i zD
/-- Two elements are exchanged. -/
def swp (h : List Du) (i k : Nat) : List Du := (h.set i (ge h k)).set k (ge h i)
theorem swp_len (h : List Du) (i k : Nat) : (swp h i k).length = h.length := by simp [swp]
theorem ge_set (h : List Du) (i j : Nat) (x : Du) (hi : i < h.length) : ge (h.set i x) j = if j = i then x else ge h j := by
  unfold ge
  by_cases e : j = i
  · subst e; simp [List.getD, hi]
  · rw [if_neg e]
    simp [List.getD, Ne.symm e]
theorem ge_swp {h : List Du} {i k : Nat} (hi : i < h.length) (hk : k < h.length) (j : Nat) : ge (swp h i k) j = if j = k then ge h i else if j = i then ge h k else ge h j := by
  unfold swp
  rw [ge_set _ _ _ _ (by simpa using hk)]
  by_cases e : j = k
  · rw [if_pos e, if_pos e]
  · rw [if_neg e, if_neg e, ge_set _ _ _ _ hi]

/-- A heap: no element is before its parent. -/
def Hp (h : List Du) : Prop := ∀ j, 0 < j → j < h.length → bef (ge h j) (ge h ((j - 1) / 2)) = false

/-- Sifting up. -/
def upF (h : List Du) (i : Nat) : List Du :=
  if hc : 0 < i ∧ bef (ge h i) (ge h ((i - 1) / 2)) = true then upF (swp h i ((i - 1) / 2)) ((i - 1) / 2) else h
termination_by i
decreasing_by omega
/-- The child that comes first. -/
def chF (h : List Du) (i : Nat) : Nat := if 2 * i + 2 < h.length ∧ bef (ge h (2 * i + 2)) (ge h (2 * i + 1)) = true then 2 * i + 2 else 2 * i + 1
theorem chF_cases (h : List Du) (i : Nat) : chF h i = 2 * i + 1 ∨ chF h i = 2 * i + 2 := by unfold chF; split <;> simp
theorem chF_lt {h : List Du} {i : Nat} (hi : 2 * i + 1 < h.length) : i < chF h i ∧ chF h i < h.length := by
  unfold chF
  split
  · rename_i hc; omega
  · omega
/-- Sifting down. -/
def dnF (h : List Du) (i : Nat) : List Du :=
  if hc : 2 * i + 1 < h.length ∧ bef (ge h (chF h i)) (ge h i) = true then dnF (swp h i (chF h i)) (chF h i) else h
termination_by h.length - i
decreasing_by
  have := chF_lt hc.1
  rw [swp_len]
  omega

theorem perm_set_set {h : List Du} {i k : Nat} (hi : i < h.length) (hk : k < h.length) : (swp h i k).Perm h := by
  unfold swp ge
  rw [List.getD_eq_getElem?_getD, List.getD_eq_getElem?_getD, List.getElem?_eq_getElem hi, List.getElem?_eq_getElem hk]
  simp only [Option.getD_some]
  exact List.set_set_perm hi hk
theorem upF_len (h : List Du) (i : Nat) : (upF h i).length = h.length := by
  induction h, i using upF.induct with
  | case1 h i hc ih => rw [upF, dif_pos hc, ih, swp_len]
  | case2 h i hc => rw [upF, dif_neg hc]
theorem dnF_len (h : List Du) (i : Nat) : (dnF h i).length = h.length := by
  induction h, i using dnF.induct with
  | case1 h i hc ih => rw [dnF, dif_pos hc, ih, swp_len]
  | case2 h i hc => rw [dnF, dif_neg hc]
theorem upF_perm (h : List Du) (i : Nat) (hi : i < h.length) : (upF h i).Perm h := by
  induction h, i using upF.induct with
  | case1 h i hc ih =>
    rw [upF, dif_pos hc]
    exact (ih (by rw [swp_len]; omega)).trans (perm_set_set hi (by omega))
  | case2 h i hc => rw [upF, dif_neg hc]
theorem dnF_perm (h : List Du) (i : Nat) (hi : i < h.length) : (dnF h i).Perm h := by
  induction h, i using dnF.induct with
  | case1 h i hc ih =>
    have := chF_lt hc.1
    rw [dnF, dif_pos hc]
    exact (ih (by rw [swp_len]; omega)).trans (perm_set_set hi this.2)
  | case2 h i hc => rw [dnF, dif_neg hc]

/-- A heap but for the element i, which may be before its parent. -/
def UpOk (h : List Du) (i : Nat) : Prop := (∀ j, 0 < j → j < h.length → j ≠ i → bef (ge h j) (ge h ((j - 1) / 2)) = false) ∧ ∀ j, 0 < j → j < h.length → (j - 1) / 2 = i → 0 < i → bef (ge h j) (ge h ((i - 1) / 2)) = false
theorem upF_heap (h : List Du) (i : Nat) (hi : i < h.length) (hu : UpOk h i) : Hp (upF h i) := by
  induction h, i using upF.induct with
  | case1 h i hc ih =>
    obtain ⟨h0, hb⟩ := hc
    rw [upF, dif_pos ⟨h0, hb⟩]
    have hp : (i - 1) / 2 < h.length := by omega
    refine ih (by rw [swp_len]; exact hp) ⟨fun j j0 jl jn => ?_, fun j j0 jl je p0 => ?_⟩
    · rw [swp_len] at jl
      rw [ge_swp hi hp, ge_swp hi hp, if_neg jn]
      by_cases e : j = i
      · subst e
        rw [if_pos rfl, if_pos rfl]
        exact bef_asym hb
      · rw [if_neg e]
        by_cases e1 : (j - 1) / 2 = (i - 1) / 2
        · rw [if_pos e1]
          exact bef_nbef hb (by have := hu.1 j j0 jl e; rw [e1] at this; exact this)
        · rw [if_neg e1]
          by_cases e2 : (j - 1) / 2 = i
          · rw [if_pos e2]
            exact hu.2 j j0 jl e2 h0
          · rw [if_neg e2]
            exact hu.1 j j0 jl e
    · rw [swp_len] at jl
      have hne : (((i - 1) / 2) - 1) / 2 ≠ (i - 1) / 2 := by omega
      have hne2 : (((i - 1) / 2) - 1) / 2 ≠ i := by omega
      rw [ge_swp hi hp, ge_swp hi hp, if_neg hne, if_neg hne2, if_neg (by omega)]
      have hpp := hu.1 ((i - 1) / 2) p0 hp (by omega)
      by_cases e : j = i
      · rw [if_pos e]; exact hpp
      · rw [if_neg e]
        have := hu.1 j j0 jl e
        rw [je] at this
        exact nbef_trans this hpp
  | case2 h i hc =>
    rw [upF, dif_neg hc]
    intro j j0 jl
    by_cases e : j = i
    · subst e
      cases hb : bef (ge h j) (ge h ((j - 1) / 2)) with
      | false => rfl
      | true => exact absurd ⟨j0, hb⟩ hc
    · exact hu.1 j j0 jl e

/-- A heap but for the element i, which its children may be before. -/
def DnOk (h : List Du) (i : Nat) : Prop := (∀ j, 0 < j → j < h.length → (j - 1) / 2 ≠ i → bef (ge h j) (ge h ((j - 1) / 2)) = false) ∧ ∀ j, 0 < j → j < h.length → (j - 1) / 2 = i → 0 < i → bef (ge h j) (ge h ((i - 1) / 2)) = false
theorem dnF_heap (h : List Du) (i : Nat) (hi : i < h.length) (hd : DnOk h i) : Hp (dnF h i) := by
  induction h, i using dnF.induct with
  | case1 h i hc ih =>
    obtain ⟨hl, hb⟩ := hc
    have hk := chF_lt hl
    rw [dnF, dif_pos ⟨hl, hb⟩]
    have hcc := chF_cases h i
    have hpar : (chF h i - 1) / 2 = i := by omega
    -- the other child is not before the chosen one
    have hoth : ∀ j, 0 < j → j < h.length → (j - 1) / 2 = i → bef (ge h j) (ge h (chF h i)) = false := by
      intro j j0 jl je
      by_cases e : j = chF h i
      · rw [e]; exact bef_irr _
      · unfold chF at e ⊢
        by_cases hx : 2 * i + 2 < h.length ∧ bef (ge h (2 * i + 2)) (ge h (2 * i + 1)) = true
        · rw [if_pos hx] at e ⊢
          have : j = 2 * i + 1 := by omega
          rw [this]
          exact bef_asym hx.2
        · rw [if_neg hx] at e ⊢
          have e2 : j = 2 * i + 2 := by omega
          rw [e2] at jl ⊢
          cases hb2 : bef (ge h (2 * i + 2)) (ge h (2 * i + 1)) with
          | false => rfl
          | true => exact absurd ⟨jl, hb2⟩ hx
    generalize chF h i = k at *
    refine ih (by rw [swp_len]; omega) ⟨fun j j0 jl jn => ?_, fun j j0 jl je p0 => ?_⟩
    · rw [swp_len] at jl
      rw [ge_swp hi hk.2, ge_swp hi hk.2]
      by_cases e : j = k
      · subst e
        rw [if_pos rfl, hpar, if_neg (by omega), if_pos rfl]
        exact bef_asym hb
      · rw [if_neg e, if_neg jn]
        by_cases e1 : j = i
        · subst e1
          rw [if_pos rfl, if_neg (by omega)]
          exact hd.2 k (by omega) hk.2 hpar j0
        · rw [if_neg e1]
          by_cases e2 : (j - 1) / 2 = i
          · rw [if_pos e2]
            exact hoth j j0 jl e2
          · rw [if_neg e2]
            exact hd.1 j j0 jl e2
    · rw [swp_len] at jl
      rw [ge_swp hi hk.2, ge_swp hi hk.2, if_neg (by omega), if_neg (by omega), hpar, if_neg (by omega), if_pos rfl]
      have := hd.1 j j0 jl (by omega)
      rw [je] at this
      exact this
  | case2 h i hc =>
    rw [dnF, dif_neg hc]
    intro j j0 jl
    by_cases e : (j - 1) / 2 = i
    · rw [e]
      have hl : 2 * i + 1 < h.length := by omega
      have hk : bef (ge h (chF h i)) (ge h i) = false := by
        cases hb : bef (ge h (chF h i)) (ge h i) with
        | false => rfl
        | true => exact absurd ⟨hl, hb⟩ hc
      unfold chF at hk
      by_cases hx : 2 * i + 2 < h.length ∧ bef (ge h (2 * i + 2)) (ge h (2 * i + 1)) = true
      · rw [if_pos hx] at hk
        by_cases e2 : j = 2 * i + 2
        · rw [e2]; exact hk
        · rw [show j = 2 * i + 1 by omega]
          exact nbef_trans (bef_asym hx.2) hk
      · rw [if_neg hx] at hk
        by_cases e2 : j = 2 * i + 1
        · rw [e2]; exact hk
        · have e3 : j = 2 * i + 2 := by omega
          rw [e3] at jl ⊢
          have : bef (ge h (2 * i + 2)) (ge h (2 * i + 1)) = false := by
            cases hb2 : bef (ge h (2 * i + 2)) (ge h (2 * i + 1)) with
            | false => rfl
            | true => exact absurd ⟨jl, hb2⟩ hx
          exact nbef_trans this hk
    · exact hd.1 j j0 jl e
theorem ge_take {h : List Du} {n j : Nat} (hj : j < n) : ge (h.take n) j = ge h j := by
  unfold ge
  rw [List.getD_eq_getElem?_getD, List.getD_eq_getElem?_getD, List.getElem?_take, if_pos hj]
theorem hp_take {h : List Du} (hh : Hp h) (n : Nat) : Hp (h.take n) := by
  intro j j0 jl
  rw [List.length_take] at jl
  rw [ge_take (by omega), ge_take (by omega)]
  exact hh j j0 (by omega)
/-- The element i is removed: the last one takes its place. -/
def cuF (h : List Du) (i : Nat) : List Du :=
  if i = h.length - 1 then h.take (h.length - 1)
  else if 0 < i ∧ bef (ge ((h.take (h.length - 1)).set i (ge h (h.length - 1))) i) (ge ((h.take (h.length - 1)).set i (ge h (h.length - 1))) ((i - 1) / 2)) = true then upF ((h.take (h.length - 1)).set i (ge h (h.length - 1))) i
  else dnF ((h.take (h.length - 1)).set i (ge h (h.length - 1))) i
theorem cuF_len {h : List Du} {i : Nat} (hi : i < h.length) : (cuF h i).length = h.length - 1 := by
  unfold cuF
  split
  · rw [List.length_take]; omega
  · split
    · rw [upF_len, List.length_set, List.length_take]; omega
    · rw [dnF_len, List.length_set, List.length_take]; omega
theorem take_last {h : List Du} (h0 : 0 < h.length) : h = h.take (h.length - 1) ++ [ge h (h.length - 1)] := by
  have e : ge h (h.length - 1) = h[h.length - 1]'(by omega) := by
    unfold ge; rw [List.getD_eq_getElem?_getD, List.getElem?_eq_getElem (by omega)]; rfl
  have k := List.take_append_getElem (l := h) (i := h.length - 1) (by omega)
  rw [e, k, List.take_of_length_le (by omega)]
theorem set_perm (x : Du) : ∀ (ys : List Du) (i : Nat), i < ys.length → (ys.set i x).Perm (x :: ys.eraseIdx i)
  | [], i, h => by simp at h
  | a :: ys, 0, _ => by simp
  | a :: ys, i + 1, h => by
    simp only [List.set_cons_succ, List.eraseIdx_cons_succ]
    exact ((set_perm x ys i (by simpa using h)).cons a).trans (List.Perm.swap _ _ _)
theorem cuF_perm {h : List Du} {i : Nat} (hi : i < h.length) : (cuF h i).Perm (h.eraseIdx i) := by
  have ht := take_last (h := h) (by omega)
  have hl : (h.take (h.length - 1)).length = h.length - 1 := by rw [List.length_take]; omega
  unfold cuF
  by_cases e : i = h.length - 1
  · rw [if_pos e, e, List.eraseIdx_eq_take_drop_succ, List.drop_eq_nil_of_le (by omega), List.append_nil]
  · rw [if_neg e]
    have hs : ((h.take (h.length - 1)).set i (ge h (h.length - 1))).Perm (h.eraseIdx i) := by
      have h1 := set_perm (ge h (h.length - 1)) (h.take (h.length - 1)) i (by omega)
      refine h1.trans ?_
      have h2 : h.eraseIdx i = (h.take (h.length - 1)).eraseIdx i ++ [ge h (h.length - 1)] := by
        have this : h.eraseIdx i = (h.take (h.length - 1) ++ [ge h (h.length - 1)]).eraseIdx i := congrArg (fun x => List.eraseIdx x i) ht
        rw [this, List.eraseIdx_append_of_lt_length (by omega)]
      rw [h2]
      exact (List.perm_append_singleton _ _).symm
    have hsl : i < ((h.take (h.length - 1)).set i (ge h (h.length - 1))).length := by rw [List.length_set]; omega
    split
    · exact (upF_perm _ _ hsl).trans hs
    · exact (dnF_perm _ _ hsl).trans hs
theorem cuF_heap {h : List Du} {i : Nat} (hi : i < h.length) (hh : Hp h) : Hp (cuF h i) := by
  have hl : (h.take (h.length - 1)).length = h.length - 1 := by rw [List.length_take]; omega
  unfold cuF
  by_cases e : i = h.length - 1
  · rw [if_pos e]; exact hp_take hh _
  · rw [if_neg e]
    have hi1 : i < h.length - 1 := by omega
    obtain ⟨y, hy⟩ : ∃ y, y = (h.take (h.length - 1)).set i (ge h (h.length - 1)) := ⟨_, rfl⟩
    have hyl : y.length = h.length - 1 := by rw [hy, List.length_set, hl]
    have hg : ∀ j, j < h.length - 1 → ge y j = if j = i then ge h (h.length - 1) else ge h j := fun j hj => by
      rw [hy, ge_set _ _ _ _ (by omega)]
      split
      · rfl
      · exact ge_take hj
    rw [← hy]
    by_cases hc : 0 < i ∧ bef (ge y i) (ge y ((i - 1) / 2)) = true
    · rw [if_pos hc]
      obtain ⟨h0, hb⟩ := hc
      rw [hg i hi1, if_pos rfl, hg _ (by omega), if_neg (by omega)] at hb
      refine upF_heap y i (by omega) ⟨fun j j0 jl jn => ?_, fun j j0 jl je p0 => ?_⟩
      · rw [hg j (by omega), if_neg jn, hg _ (by omega)]
        by_cases e1 : (j - 1) / 2 = i
        · rw [if_pos e1]
          have k1 := hh j j0 (by omega)
          rw [e1] at k1
          exact bef_nbef hb (nbef_trans k1 (hh i h0 (by omega)))
        · rw [if_neg e1]; exact hh j j0 (by omega)
      · rw [hg j (by omega), if_neg (by omega), hg _ (by omega), if_neg (by omega)]
        have k1 := hh j j0 (by omega)
        rw [je] at k1
        exact nbef_trans k1 (hh i h0 (by omega))
    · rw [if_neg hc]
      refine dnF_heap y i (by omega) ⟨fun j j0 jl jn => ?_, fun j j0 jl je p0 => ?_⟩
      · rw [hg _ (show (j - 1) / 2 < h.length - 1 by omega), if_neg jn]
        by_cases e1 : j = i
        · rw [e1]
          rw [e1] at j0 jn
          cases hb : bef (ge y i) (ge h ((i - 1) / 2)) with
          | false => rfl
          | true => exact absurd ⟨j0, by rw [hg _ (show (i - 1) / 2 < h.length - 1 by omega), if_neg (by omega)]; exact hb⟩ hc
        · rw [hg j (by omega), if_neg e1]
          exact hh j j0 (by omega)
      · rw [hg j (by omega), if_neg (by omega), hg _ (show (i - 1) / 2 < h.length - 1 by omega), if_neg (by omega)]
        have k1 := hh j j0 (by omega)
        rw [je] at k1
        exact nbef_trans k1 (hh i p0 (by omega))
/-- Adding an element. -/
def hpu (h : List Du) (d : Du) : List Du := upF (h ++ [d]) h.length
theorem puF_len (h : List Du) (d : Du) : (hpu h d).length = h.length + 1 := by unfold hpu; rw [upF_len]; simp
theorem puF_perm (h : List Du) (d : Du) : (hpu h d).Perm (d :: h) := (upF_perm _ _ (by simp)).trans (List.perm_append_singleton _ _)
theorem ge_snoc {h : List Du} {d : Du} {j : Nat} (hj : j < h.length) : ge (h ++ [d]) j = ge h j := by
  unfold ge
  simp [List.getD, List.getElem?_append_left hj]
theorem puF_heap {h : List Du} (hh : Hp h) (d : Du) : Hp (hpu h d) := by
  refine upF_heap _ _ (by simp) ⟨fun j j0 jl jn => ?_, fun j j0 jl je p0 => ?_⟩
  · simp at jl
    rw [ge_snoc (by omega), ge_snoc (by omega)]
    exact hh j j0 (by omega)
  · simp at jl
    omega
theorem ge_mem {h : List Du} {d : Du} (hd : d ∈ h) : ∃ j, j < h.length ∧ ge h j = d := by
  obtain ⟨j, hj, e⟩ := List.getElem_of_mem hd
  exact ⟨j, hj, by unfold ge; rw [List.getD_eq_getElem?_getD, List.getElem?_eq_getElem hj]; exact e⟩
theorem mem_ge {h : List Du} {j : Nat} (hj : j < h.length) : ge h j ∈ h := by
  unfold ge
  rw [List.getD_eq_getElem?_getD, List.getElem?_eq_getElem hj]
  exact List.getElem_mem hj
/-- An element in range. -/
def snd (d : Du) : Bool := decide (0 ≤ d.dl ∧ d.dl ≤ 1073741824 ∧ 1 ≤ d.id ∧ d.id ≤ 1073741824)
/-- Two elements have the same ID. -/
def dupD (h : List Du) : Prop := ∃ (i j : Nat), i < j ∧ j < h.length ∧ (ge h i).id = (ge h j).id
open Classical in
/-- The first error of a heap. -/
noncomputable def vaF (h : List Du) : Int :=
  if 12 < h.length then 2 else if ¬ (∀ j, j < h.length → snd (ge h j) = true) then 1 else if dupD h then 10 else if ¬ Hp h then 11 else 0
theorem vaF_zero {h : List Du} (e : vaF h = 0) : h.length ≤ 12 ∧ (∀ j, j < h.length → snd (ge h j) = true) ∧ ¬ dupD h ∧ Hp h := by
  unfold vaF at e
  by_cases h1 : 12 < h.length
  · rw [if_pos h1] at e; exact absurd e (by decide)
  · rw [if_neg h1] at e
    by_cases h2 : ∀ j, j < h.length → snd (ge h j) = true
    · rw [if_neg (by simpa using h2)] at e
      by_cases h3 : dupD h
      · rw [if_pos h3] at e; exact absurd e (by decide)
      · rw [if_neg h3] at e
        by_cases h4 : Hp h
        · exact ⟨by omega, h2, h3, h4⟩
        · rw [if_pos h4] at e; exact absurd e (by decide)
    · rw [if_pos h2] at e; exact absurd e (by decide)
theorem vaF_ok {h : List Du} (h1 : h.length ≤ 12) (h2 : ∀ j, j < h.length → snd (ge h j) = true) (h3 : ¬ dupD h) (h4 : Hp h) : vaF h = 0 := by
  unfold vaF
  rw [if_neg (by omega), if_neg (by simpa using h2), if_neg h3, if_neg (by simpa using h4)]
/-- In the words of lists: so that a permutation keeps it. -/
theorem dupD_iff (h : List Du) : ¬ dupD h ↔ (h.map Du.id).Nodup := by
  rw [List.nodup_iff_pairwise_ne, List.pairwise_map, List.pairwise_iff_getElem]
  have e : ∀ i (hi : i < h.length), ge h i = h[i] := fun i hi => by unfold ge; rw [List.getD_eq_getElem?_getD, List.getElem?_eq_getElem hi]; rfl
  constructor
  · intro k i j hi hj hij he; exact k ⟨i, j, hij, hj, by rw [e i hi, e j hj]; exact he⟩
  · rintro k ⟨i, j, hij, hj, he⟩; exact k i j (by omega) hj hij (by rw [← e i (by omega), ← e j hj]; exact he)
theorem snd_iff (h : List Du) : (∀ j, j < h.length → snd (ge h j) = true) ↔ ∀ d ∈ h, snd d = true :=
  ⟨fun k d hd => by obtain ⟨j, hj, rfl⟩ := ge_mem hd; exact k j hj, fun k j hj => k _ (mem_ge hj)⟩
/-- What adding a new element in range, and removing one, give: valid heaps. -/
theorem vaF_push {h : List Du} {d : Du} (hv : vaF h = 0) (hd : snd d = true) (hl : h.length < 12) (hi : ∀ x ∈ h, x.id ≠ d.id) : vaF (hpu h d) = 0 := by
  obtain ⟨h1, h2, h3, h4⟩ := vaF_zero hv
  have hp := puF_perm h d
  refine vaF_ok (by rw [puF_len]; omega) ((snd_iff _).2 fun x hx => ?_) ((dupD_iff _).2 ?_) (puF_heap h4 d)
  · rcases List.mem_cons.1 (hp.mem_iff.1 hx) with e | e
    · rw [e]; exact hd
    · exact (snd_iff h).1 h2 x e
  · rw [(hp.map Du.id).nodup_iff, List.map_cons, List.nodup_cons]
    refine ⟨fun k => ?_, (dupD_iff h).1 h3⟩
    obtain ⟨x, hx, e⟩ := List.mem_map.1 k
    exact hi x hx e
theorem vaF_cut {h : List Du} {i : Nat} (hv : vaF h = 0) (hi : i < h.length) : vaF (cuF h i) = 0 := by
  obtain ⟨h1, h2, h3, h4⟩ := vaF_zero hv
  have hp := cuF_perm hi
  refine vaF_ok (by rw [cuF_len hi]; omega) ((snd_iff _).2 fun x hx => ?_) ((dupD_iff _).2 ?_) (cuF_heap hi h4)
  · exact (snd_iff h).1 h2 x ((List.eraseIdx_sublist h i).subset (hp.mem_iff.1 hx))
  · rw [(hp.map Du.id).nodup_iff]
    exact ((dupD_iff h).1 h3).sublist ((List.eraseIdx_sublist h i).map _)
end Go.Proofs.Ytijpflljopckiaa
namespace Go.Proofs.Ytijpflljopckiaa
set_option linter.unusedVariables false

theorem ge_get {h : List Du} {k : Nat} (hk : k < h.length) : h[k] = ge h k := by
  unfold ge; rw [List.getD_eq_getElem?_getD, List.getElem?_eq_getElem hk]; rfl
/-- The place of the first element with an ID, or the length. -/
def ixE (h : List Du) (id : Int) : Nat := h.findIdx (fun d => d.id == id)
/-- The same, or -1. -/
def ixD (h : List Du) (id : Int) : Int := if ixE h id < h.length then (ixE h id : Int) else -1
theorem ixD_hit {h : List Du} {id : Int} {k : Nat} (hk : k < h.length) (e : (ge h k).id = id) (hn : ∀ j, j < k → (ge h j).id ≠ id) : ixD h id = k := by
  have e : ixE h id = k := (List.findIdx_eq hk).2 ⟨by rw [ge_get hk]; simpa using e, fun j hj => by rw [ge_get (by omega)]; simpa using hn j hj⟩
  unfold ixD
  rw [e, if_pos hk]
theorem ixD_none {h : List Du} {id : Int} (hn : ∀ j, j < h.length → (ge h j).id ≠ id) : ixD h id = -1 := by
  unfold ixD
  rw [if_neg]
  intro hl
  have := List.findIdx_getElem (w := hl)
  have this' : h[ixE h id].id = id := beq_iff_eq.1 this
  rw [ge_get hl] at this'
  exact hn _ hl this'
theorem ixD_cases (h : List Du) (id : Int) : (ixD h id = -1 ∧ ∀ j, j < h.length → (ge h j).id ≠ id) ∨ ∃ k, k < h.length ∧ ixD h id = k ∧ (ge h k).id = id ∧ ∀ j, j < k → (ge h j).id ≠ id := by
  by_cases hh : ∀ j, j < h.length → (ge h j).id ≠ id
  · exact .inl ⟨ixD_none hh, hh⟩
  · right
    have hl : ixE h id < h.length := by
      apply Decidable.byContradiction
      intro hc
      have e : ixE h id = h.length := Nat.le_antisymm List.findIdx_le_length (by omega)
      exact hh fun j hj hid => by
        have := (List.findIdx_eq_length.1 e) h[j] (List.getElem_mem hj)
        rw [ge_get hj] at this
        simp [hid] at this
    have hi : h[ixE h id].id = id := beq_iff_eq.1 (List.findIdx_getElem (p := fun d : Du => d.id == id) (w := hl))
    rw [ge_get hl] at hi
    refine ⟨ixE h id, hl, by unfold ixD; rw [if_pos hl], hi, fun j hlt => ?_⟩
    have := List.not_of_lt_findIdx hlt
    rw [ge_get (by omega)] at this
    simpa using this
theorem ixD_ge (h : List Du) (id : Int) : 0 ≤ ixD h id ↔ ∃ d ∈ h, d.id = id := by
  rcases ixD_cases h id with ⟨e, hn⟩ | ⟨k, hk, e, hi, _⟩
  · rw [e]
    refine ⟨fun hx => absurd hx (by omega), fun ⟨d, hd, hid⟩ => ?_⟩
    obtain ⟨j, hj, rfl⟩ := ge_mem hd
    exact absurd hid (hn j hj)
  · rw [e]
    exact ⟨fun _ => ⟨ge h k, mem_ge hk, hi⟩, fun _ => by omega⟩
theorem ixD_lt (h : List Du) (id : Int) : -1 ≤ ixD h id ∧ ixD h id < h.length := by
  rcases ixD_cases h id with ⟨e, _⟩ | ⟨k, hk, e, _, _⟩ <;> rw [e] <;> omega
theorem ixD_neg {h : List Du} {id : Int} (hx : ¬ 0 ≤ ixD h id) : ixD h id = -1 := by have := ixD_lt h id; omega

/-! Insertion into a sorted row. -/
def Srt (l : List Du) : Prop := l.Pairwise (fun a b => bef b a = false)
/-- The row is a permutation of l, its first i elements are in order. -/
structure SrtTo (l : List Du) (i : Nat) (g : List Du) : Prop where
  perm : g.Perm l
  ord : ∀ x y, x < y → y < i → bef (ge g y) (ge g x) = false
/-- The element at j is on its way down. -/
structure Ins (l : List Du) (i j : Nat) (g : List Du) : Prop where
  perm : g.Perm l
  a : ∀ x y, x < y → y ≤ i → x ≠ j → y ≠ j → bef (ge g y) (ge g x) = false
  b : ∀ y, j < y → y ≤ i → bef (ge g y) (ge g j) = false
theorem SrtTo.start (l : List Du) : SrtTo l 1 l := ⟨List.Perm.refl _, fun x y h1 h2 => absurd h1 (by omega)⟩
theorem SrtTo.ins {l g : List Du} {i : Nat} (h : SrtTo l i g) : Ins l i i g := ⟨h.perm, fun x y h1 h2 _ h3 => h.ord x y h1 (by omega), fun y h1 h2 => absurd h1 (by omega)⟩
theorem Ins.step {l g : List Du} {i j : Nat} (h : Ins l i j g) (h0 : 0 < j) (hj : j ≤ i) (hi : i < g.length) (hb : bef (ge g j) (ge g (j - 1)) = true) : Ins l i (j - 1) (swp g j (j - 1)) := by
  have g1 : ∀ t, ge (swp g j (j - 1)) t = if t = j - 1 then ge g j else if t = j then ge g (j - 1) else ge g t := fun t => ge_swp (by omega) (by omega) t
  refine ⟨(perm_set_set (by omega) (by omega)).trans h.perm, fun x y h1 h2 h3 h4 => ?_, fun y h1 h2 => ?_⟩
  · rw [g1, g1, if_neg h3, if_neg h4]
    by_cases ex : x = j
    · rw [if_pos ex, if_neg (by omega)]
      exact h.a (j - 1) y (by omega) h2 (by omega) (by omega)
    · rw [if_neg ex]
      by_cases ey : y = j
      · rw [if_pos ey]; exact h.a x (j - 1) (by omega) (by omega) ex (by omega)
      · rw [if_neg ey]; exact h.a x y h1 h2 ex ey
  · rw [g1, g1, if_pos rfl, if_neg (by omega)]
    by_cases ey : y = j
    · rw [if_pos ey]; exact bef_asym hb
    · rw [if_neg ey]; exact h.b y (by omega) h2
theorem Ins.done {l g : List Du} {i j : Nat} (h : Ins l i j g) (hj : j ≤ i) (hc : j = 0 ∨ bef (ge g j) (ge g (j - 1)) = false) : SrtTo l (i + 1) g := by
  refine ⟨h.perm, fun x y h1 h2 => ?_⟩
  by_cases ex : x = j
  · rw [ex]; exact h.b y (by omega) (by omega)
  · by_cases ey : y = j
    · rcases hc with hc | hc
      · omega
      · rw [ey]
        by_cases e1 : x = j - 1
        · rw [e1]; exact hc
        · exact nbef_trans hc (h.a x (j - 1) (by omega) (by omega) ex (by omega))
    · exact h.a x y h1 (by omega) ex ey
/-! Sifting, step by step. -/
/-! The booleans of Validate. -/
/-- The first error of a push, a pop, a removal. -/
noncomputable def hpuE (h : List Du) (d : Du) : Int := if vaF h ≠ 0 then vaF h else if snd d = false then 1 else if h.length = 12 then 3 else if 0 ≤ ixD h d.id then 10 else 0
noncomputable def hrmE (h : List Du) (id : Int) : Int := if vaF h ≠ 0 then vaF h else if ixD h id < 0 then 4 else 0
noncomputable def rmR (h : List Du) (id : Int) : List Du := if hrmE h id = 0 then cuF h (ixD h id).toNat else []
theorem hpuE_zero {h : List Du} {d : Du} (e : hpuE h d = 0) : vaF h = 0 ∧ snd d = true ∧ h.length < 12 ∧ ∀ x ∈ h, x.id ≠ d.id := by
  unfold hpuE at e
  by_cases h1 : vaF h = 0
  · rw [if_neg (by simpa using h1)] at e
    cases h2 : snd d with
    | false => rw [if_pos h2] at e; exact absurd e (by decide)
    | true =>
      rw [if_neg (by simp [h2])] at e
      by_cases h3 : h.length = 12
      · rw [if_pos h3] at e; exact absurd e (by decide)
      · rw [if_neg h3] at e
        by_cases h4 : 0 ≤ ixD h d.id
        · rw [if_pos h4] at e; exact absurd e (by decide)
        · refine ⟨h1, rfl, ?_, fun x hx hid => h4 ((ixD_ge _ _).2 ⟨x, hx, hid⟩)⟩
          have := (vaF_zero h1).1
          omega
  · rw [if_pos h1] at e; exact absurd e h1
end Go.Proofs.Ytijpflljopckiaa
