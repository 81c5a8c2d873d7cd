/- What is proved here: (plain) counter stripes, lists of them in memory, what Begin, End, Quiet, Same and Sum come to; stripe.isOdd, isNumber, within, Begin and ref11.Begin, counted by contracts; cuts of a list of leases: what the walk gets, and how it reads; (plain) 'copy' between rows whose elements take more than one cell; rows known whole. -/
import Derived.Test.YtdilgeabcacbdaaGreatJ01
import Derived.Test.YtdilgeabcacbdaaGreatJ17
import Derived.Test.YtdilgeabcacbdaaGreatJ03
import Derived.Below
import Derived.Deep.MidRow
import Derived.Laws.MakeOwn
import Derived.IntWalk
import Derived.Test.YtdilgeabcacbdaaGreatJ11
import Derived.Laws.Slices
import Derived.Laws.CopyRow
import Derived.Laws.CopyOwn
import Derived.Deep.RegionLaw
namespace Go.Proofs.YtdilgeabcacbdaaGreat
open Go.RowKit
set_option linter.unusedVariables false

/-- A counter stripe. -/
structure St where
  sq : Int
  ep : Int
  rd : Int
  ls : Int
deriving DecidableEq
abbrev zSt : St := ⟨0, 0, 0, 0⟩
/-- The element at a place. -/
def tg (l : List St) (k : Nat) : St := l.getD k zSt
theorem tg_get {l : List St} {k : Nat} (h : k < l.length) : tg l k = l[k] := by simp [tg, List.getD, h]
/-- The cells of a stripe. -/
def St.l (d : St) : List Value := [.int .i64 d.sq, .int .i64 d.ep, .int .i64 d.rd, .int .i64 d.ls]
/-- The stripe as a value. -/
abbrev St.v (d : St) : Value := .agg #[.int .i64 d.sq, .int .i64 d.ep, .int .i64 d.rd, .int .i64 d.ls]
theorem St.l_len (d : St) : d.l.length = 4 := rfl
theorem St.l_one (d : St) : ∀ u ∈ d.l, u.oneCell' = true := by
  intro u hu
  simp only [St.l, List.mem_cons, List.not_mem_nil, or_false] at hu
  rcases hu with rfl | rfl | rfl | rfl <;> rfl
def tcs (l : List St) : List Value := l.flatMap St.l
theorem tcs_cons (d : St) (l : List St) : tcs (d :: l) = d.l ++ tcs l := rfl
theorem tcs_app (l m : List St) : tcs (l ++ m) = tcs l ++ tcs m := by simp [tcs]
theorem tcs_len (l : List St) : (tcs l).length = l.length * 4 := by
  induction l with
  | nil => rfl
  | cons d l ih => rw [tcs_cons, List.length_append, ih, St.l_len]; simp; omega
theorem tcs_drop (l : List St) (k : Nat) : (tcs l).drop (k * 4) = tcs (l.drop k) := by
  induction k generalizing l with
  | zero => simp
  | succ k ih =>
    cases l with
    | nil => simp [tcs]
    | cons d l =>
      rw [tcs_cons, List.drop_succ_cons, ← ih, show (k + 1) * 4 = d.l.length + k * 4 by rw [St.l_len]; omega, List.drop_append, List.drop_eq_nil_of_le (by omega)]
      simp
theorem tcs_take (l : List St) (k : Nat) : (tcs l).take (k * 4) = tcs (l.take k) := by
  induction k generalizing l with
  | zero => simp [tcs]
  | succ k ih =>
    cases l with
    | nil => simp [tcs]
    | cons d l =>
      rw [tcs_cons, List.take_succ_cons, tcs_cons, ← ih, show (k + 1) * 4 = d.l.length + k * 4 by rw [St.l_len]; omega, List.take_append, List.take_of_length_le (by omega)]
      simp
theorem tcs_at (l : List St) (k j : Nat) (hk : k < l.length) (hj : j < 4) : (tcs l)[k * 4 + j]? = l[k].l[j]? := by
  have h := tcs_drop l k
  have e : (tcs l)[k * 4 + j]? = ((tcs l).drop (k * 4))[j]? := by rw [List.getElem?_drop]
  rw [e, h, List.drop_eq_getElem_cons hk, tcs_cons, List.getElem?_append_left (by rw [St.l_len]; exact hj)]
theorem tcs_one1 (d : St) : tcs [d] = d.l := by simp [tcs]
/-- A value that is a slice, reads as these stripes and lies below B. -/
def Tl (w : World) (B : Nat) (v : Value) (l : List St) : Prop := ∃ A c, v = .slice A l.length c ∧ l.length ≤ c ∧ c ≤ maxLen ∧ Rd w B 4 A l.length (tcs l)
section
variable {w w' : World} {B B' : Nat} {v : Value} {l : List St} {A : Option Addr} {n c : Nat}
theorem Tl.nil : Tl w B (.slice none 0 0) [] := ⟨none, 0, rfl, Nat.le_refl _, Nat.zero_le _, Rd.nil none⟩
theorem Tl.keep (h : Tl w B v l) (hk : ∀ p : Addr, p.block < B → w'.cell? p = w.cell? p) : Tl w' B v l := by
  obtain ⟨A, c, e, hl, hm, h⟩ := h; exact ⟨A, c, e, hl, hm, h.keep hk⟩
theorem Tl.more (h : Tl w B v l) (hB : B ≤ B') : Tl w B' v l := by
  obtain ⟨A, c, e, hl, hm, h⟩ := h; exact ⟨A, c, e, hl, hm, h.more hB⟩
theorem Tl.below (h : Tl w B v l) (hb : Below B w w') : Tl w' B v l := h.keep fun _ hp => hb.cell hp
theorem Tl.up (h : Tl w w.heap.size v l) (hb : Below w.heap.size w w') : Tl w' w'.heap.size v l := (h.below hb).more hb.size
theorem Tl.alloc (h : Tl w B v l) (hB : B ≤ w.heap.size) (o : Obj) : Tl (w.alloc o) B v l := h.keep fun p hp => World.cell?_alloc_lt w o p (by omega)
theorem Tl.setCell (h : Tl w B v l) {p : Addr} (hB : B ≤ p.block) (u : Value) : Tl (w.setCell p u) B v l :=
  h.keep fun q hq => World.cell?_setCell_other w p q u (fun e => by subst e; omega)
theorem Tl.len (h : Tl w B (.slice A n c) l) : n = l.length ∧ n ≤ c ∧ c ≤ maxLen := by
  obtain ⟨A', c', e, hl, hm, h⟩ := h
  injection e with e1 e2 e3
  subst e2; subst e3
  exact ⟨rfl, hl, hm⟩
theorem Tl.rd (h : Tl w B (.slice A n c) l) : Rd w B 4 A n (tcs l) := by
  obtain ⟨A', c', e, hl, hm, h⟩ := h
  injection e with e1 e2 e3
  subst e1; subst e2
  exact h
theorem Tl.form (h : Tl w B v l) : ∃ A c, v = .slice A l.length c ∧ l.length ≤ c ∧ c ≤ maxLen := by
  obtain ⟨A, c, e, hl, hm, _⟩ := h; exact ⟨A, c, e, hl, hm⟩
theorem Tl.of_own {base : Nat} {e : TypeId} {n : Nat} (h : w.ownsRow base e 4 v n (tcs l)) : Tl w w.heap.size v l := by
  have hl : n = l.length := by have := h.1; rw [tcs_len] at this; omega
  subst hl
  rcases h.2 with ⟨hv, h0⟩ | ⟨g, cap, cur, hv, _, _, hl, hm, _⟩
  · subst hv; exact ⟨none, 0, by rw [h0], by omega, Nat.zero_le _, by rw [show l = [] from List.length_eq_zero_iff.1 h0]; exact Rd.nil _⟩
  · subst hv; exact ⟨_, cap, rfl, hl, hm, Rd.of_own h⟩
theorem Tl.offp (h : Tl w B (.slice A n c) l) {p : Addr} (ho : ∀ a, A = some a → 0 < n → a.block ≠ p.block) (v : Value) : Tl (w.setCell p v) B (.slice A n c) l := by
  obtain ⟨h1, h2, h3⟩ := h.len
  subst h1
  refine ⟨A, c, rfl, h2, h3, h.rd.1, fun hn => ?_⟩
  obtain ⟨b, o, e, hb, hc⟩ := h.rd.2 hn
  have := ho _ e hn
  exact ⟨b, o, e, hb, fun j u hu => (World.cell?_setCell_other w p _ v (fun e' => by have e2 := congrArg Addr.block e'; simp at e2 this; omega)).trans (hc j u hu)⟩
/-- The stripe at place k, and where it lies. -/
theorem Tl.atg {k : Nat} (h : Tl w B (.slice A n c) l) (hk : k < l.length) : ∃ b o, A = some ⟨b, o, none⟩ ∧ b < B ∧ w.cell? ⟨b, o + k * 4, none⟩ = some (.int .i64 (tg l k).sq) ∧ w.cell? ⟨b, o + k * 4 + 1, none⟩ = some (.int .i64 (tg l k).ep) ∧ w.cell? ⟨b, o + k * 4 + 2, none⟩ = some (.int .i64 (tg l k).rd) ∧ w.cell? ⟨b, o + k * 4 + 3, none⟩ = some (.int .i64 (tg l k).ls) := by
  have hn := h.len.1
  obtain ⟨b, o, e, hb, hc⟩ := h.rd.2 (by omega)
  have g : ∀ j u, j < 4 → l[k].l[j]? = some u → w.cell? ⟨b, o + k * 4 + j, none⟩ = some u := fun j u hj hu => by
    rw [Nat.add_assoc]; exact hc _ u (by rw [tcs_at l k j hk hj]; exact hu)
  rw [tg_get hk]
  exact ⟨b, o, e, hb, g 0 _ (by omega) rfl, g 1 _ (by omega) rfl, g 2 _ (by omega) rfl, g 3 _ (by omega) rfl⟩
/-- A cut l[:k]. -/
theorem Tl.upto {k : Nat} (h : Tl w B (.slice A n c) l) (hk : k ≤ l.length) : Tl w B (.slice A k c) (l.take k) := by
  obtain ⟨h1, h2, h3⟩ := h.len
  refine ⟨A, c, by rw [List.length_take, Nat.min_eq_left hk], by rw [List.length_take, Nat.min_eq_left hk]; omega, h3, ?_⟩
  rw [List.length_take, Nat.min_eq_left hk]
  refine ⟨by rw [tcs_len, List.length_take, Nat.min_eq_left hk], fun h0 => ?_⟩
  obtain ⟨b, o, e, hb, hc⟩ := h.rd.2 (by omega)
  exact ⟨b, o, e, hb, fun j u hu => hc j u (by
    rw [← tcs_take, List.getElem?_take] at hu
    split at hu
    · exact hu
    · cases hu)⟩
/-- A cut l[k:]. -/
theorem Tl.from {k : Nat} (h : Tl w B (.slice A n c) l) (hk : k ≤ l.length) : Tl w B (.slice (if c = k then A else A.map (·.add (k * 4))) (l.length - k) (c - k)) (l.drop k) := by
  obtain ⟨h1, h2, h3⟩ := h.len
  refine ⟨_, c - k, by rw [List.length_drop], by rw [List.length_drop]; omega, by omega, ?_⟩
  rw [List.length_drop]
  refine ⟨by rw [tcs_len, List.length_drop], fun h0 => ?_⟩
  obtain ⟨b, o, e, hb, hc⟩ := h.rd.2 (by omega)
  rw [if_neg (by omega), e]
  refine ⟨b, o + k * 4, by rw [Option.map_some, add_mk], hb, fun j u hu => ?_⟩
  rw [Nat.add_assoc]
  exact hc _ u (by rw [← tcs_drop, List.getElem?_drop] at hu; exact hu)
end


/-- The remainder as the program has it. -/
theorem tmod2 (n : Int) : (n.tmod 2 = 0 ↔ n % 2 = 0) := by
  rw [← Int.dvd_iff_tmod_eq_zero, ← Int.dvd_iff_emod_eq_zero]
theorem tmod2_pos {n : Int} (h : 0 ≤ n) : n.tmod 2 = n % 2 := Int.tmod_eq_emod_of_nonneg h
/-- A number that counts. -/
abbrev nbP (n : Int) : Prop := 0 ≤ n ∧ n ≤ 1099511627776
def nbB (n : Int) : Bool := decide (nbP n)
theorem nbB_yes {n : Int} (h : nbP n) : nbB n = true := decide_eq_true h
theorem nbB_no {n : Int} (h : ¬ nbP n) : nbB n = false := decide_eq_false h
def evB (n : Int) : Bool := decide (n % 2 = 0)
theorem evB_yes {n : Int} (h : n % 2 = 0) : evB n = true := decide_eq_true h
theorem evB_no {n : Int} (h : ¬ n % 2 = 0) : evB n = false := decide_eq_false h
theorem evB_not (n : Int) : (n.tmod 2 != 0) = !evB n := by
  have := tmod2 n
  by_cases h : n % 2 = 0
  · rw [evB_yes h, this.2 h]; rfl
  · have h2 : ¬ n.tmod 2 = 0 := fun g => h (this.1 g)
    rw [evB_no h]; simp [h2]
/-- Begin's error and stripe. -/
def bgE (s : St) : Int := if ¬ nbP s.sq then 1 else if s.sq % 2 = 1 then 7 else if 1099511627774 < s.sq then 6 else 0
def bgT (s : St) : St := if bgE s = 0 then ⟨s.sq + 1, s.ep, s.rd, s.ls⟩ else zSt
theorem bg_1 {s : St} (h : ¬ nbP s.sq) : bgE s = 1 ∧ bgT s = zSt := by
  have e : bgE s = 1 := if_pos h
  exact ⟨e, by unfold bgT; rw [e]; rfl⟩
theorem bg_7 {s : St} (h : nbP s.sq) (h1 : s.sq % 2 = 1) : bgE s = 7 ∧ bgT s = zSt := by
  have e : bgE s = 7 := by unfold bgE; rw [if_neg (fun g => g h), if_pos h1]
  exact ⟨e, by unfold bgT; rw [e]; rfl⟩
theorem bg_6 {s : St} (h : nbP s.sq) (h1 : ¬ s.sq % 2 = 1) (h2 : 1099511627774 < s.sq) : bgE s = 6 ∧ bgT s = zSt := by
  have e : bgE s = 6 := by unfold bgE; rw [if_neg (fun g => g h), if_neg h1, if_pos h2]
  exact ⟨e, by unfold bgT; rw [e]; rfl⟩
theorem bg_0 {s : St} (h : nbP s.sq) (h1 : ¬ s.sq % 2 = 1) (h2 : ¬ 1099511627774 < s.sq) : bgE s = 0 ∧ bgT s = ⟨s.sq + 1, s.ep, s.rd, s.ls⟩ := by
  have e : bgE s = 0 := by unfold bgE; rw [if_neg (fun g => g h), if_neg h1, if_neg h2]
  exact ⟨e, by unfold bgT; rw [if_pos e]⟩
/-- Whether a sum counts a stripe. -/
def cnB (s : St) (ep : Int) : Bool := decide (s.ep = ep) && (decide (nbP s.sq) && (decide (nbP s.rd) && decide (nbP s.ls)))
/-- The sums. -/
def suR (l : List St) (ep : Int) : Int := (l.map fun s => if cnB s ep = true then s.rd else 0).sum
def suL (l : List St) (ep : Int) : Int := (l.map fun s => if cnB s ep = true then s.ls else 0).sum
theorem cnB_no {s : St} {ep : Int} (h : ¬ (s.ep = ep ∧ nbP s.sq ∧ nbP s.rd ∧ nbP s.ls)) : cnB s ep = false := by
  cases e : cnB s ep with
  | false => rfl
  | true =>
    unfold cnB at e
    simp only [Bool.and_eq_true, decide_eq_true_eq] at e
    exact absurd ⟨e.1, e.2.1, e.2.2.1, e.2.2.2⟩ h
theorem cnB_iff {s : St} {ep : Int} : cnB s ep = true ↔ (s.ep = ep ∧ nbP s.sq ∧ nbP s.rd ∧ nbP s.ls) := by
  unfold cnB; simp only [Bool.and_eq_true, decide_eq_true_eq]
theorem suR_succ {l : List St} {k : Nat} (h : k < l.length) (ep : Int) : suR (l.take (k + 1)) ep = suR (l.take k) ep + (if cnB (tg l k) ep = true then (tg l k).rd else 0) := by
  rw [tg_get h]
  unfold suR
  rw [← List.take_append_getElem h, List.map_append, List.sum_append]; simp
theorem suL_succ {l : List St} {k : Nat} (h : k < l.length) (ep : Int) : suL (l.take (k + 1)) ep = suL (l.take k) ep + (if cnB (tg l k) ep = true then (tg l k).ls else 0) := by
  rw [tg_get h]
  unfold suL
  rw [← List.take_append_getElem h, List.map_append, List.sum_append]; simp
theorem suR_rng (l : List St) (ep : Int) : 0 ≤ suR l ep ∧ suR l ep ≤ l.length * 1099511627776 := by
  induction l with
  | nil => simp [suR]
  | cons s l ih =>
    unfold suR at ih ⊢
    rw [List.map_cons, List.sum_cons, List.length_cons]
    by_cases h : cnB s ep = true
    · have := (cnB_iff.1 h).2.2.1
      rw [if_pos h]
      simp only [nbP] at this
      push_cast
      omega
    · rw [if_neg h]
      push_cast
      omega
theorem suL_rng (l : List St) (ep : Int) : 0 ≤ suL l ep ∧ suL l ep ≤ l.length * 1099511627776 := by
  induction l with
  | nil => simp [suL]
  | cons s l ih =>
    unfold suL at ih ⊢
    rw [List.map_cons, List.sum_cons, List.length_cons]
    by_cases h : cnB s ep = true
    · have := (cnB_iff.1 h).2.2.2
      rw [if_pos h]
      simp only [nbP] at this
      push_cast
      omega
    · rw [if_neg h]
      push_cast
      omega
/-- Quiet's answer. -/
def quB (l : List St) : Bool := l.all fun s => decide (s.sq % 2 = 0)
theorem quB_yes {l : List St} (h : ∀ j, j < l.length → (tg l j).sq % 2 = 0) : quB l = true := List.all_eq_true.2 fun s hs => by
  obtain ⟨j, hj, rfl⟩ := List.getElem_of_mem hs
  have := h j hj
  rw [tg_get hj] at this
  exact decide_eq_true this
theorem quB_no {l : List St} {j : Nat} (hj : j < l.length) (h : ¬ (tg l j).sq % 2 = 0) : quB l = false := by
  cases e : quB l with
  | false => rfl
  | true =>
    have := List.all_eq_true.1 e _ (List.getElem_mem hj)
    rw [tg_get hj] at h
    exact absurd (of_decide_eq_true this) h
end Go.Proofs.YtdilgeabcacbdaaGreat
namespace Go.Proofs.YtdilgeabcacbdaaGreat
open Go.RowKit
set_option linter.unusedVariables false

theorem ywithin_any (n lo hi : Int) (w : World) : Calls Tryz.prog 44 #[.int .i64 n, .int .i64 lo, .int .i64 hi] w fun e w' => e = .returned (.bool (wi n lo hi)) ∧ w = w' := by
  by_cases h1 : lo ≤ n
  · by_cases h2 : n ≤ hi
    · have H := Lib.hid (wi_true h1 h2)
      go_enter Tryz.func44, Tryz.ntmps44
      go_wp2
      go_ret
      exact ⟨by rw [H.out]; rfl, rfl⟩
    · have H := Lib.hid (show wi n lo hi = false from decide_eq_false (fun h => h2 h.2))
      go_enter Tryz.func44, Tryz.ntmps44
      go_wp2
      go_ret
      exact ⟨by rw [H.out]; rfl, rfl⟩
  · have H := Lib.hid (show wi n lo hi = false from decide_eq_false (fun h => h1 h.1))
    go_enter Tryz.func44, Tryz.ntmps44
    go_wp2
    go_ret
    exact ⟨by rw [H.out]; rfl, rfl⟩
theorem ynumber_any (n : Int) (w : World) : Calls Tryz.prog 27 #[.int .i64 n] w fun e w' => e = .returned (.bool (nbB n)) ∧ w = w' := by
  have HC := Lib.hid (fun w => ywithin_any n 0 1099511627776 w)
  have HE := Lib.hid (show wi n 0 1099511627776 = nbB n from rfl)
  rw [HE.out] at HC
  clear HE
  generalize nbB n = b at *
  go_enter Tryz.func27, Tryz.ntmps27
  go_wp2_with fail
  refine (HC.out _).mono ?_
  rintro e w1 ⟨rfl, rfl⟩
  go_wp2
  go_ret
  exact ⟨rfl, rfl⟩
theorem yodd_any (n : Int) (w : World) : Calls Tryz.prog 28 #[.int .i64 n] w fun e w' => e = .returned (.bool (!evB n)) ∧ w = w' := by
  have H := Lib.hid (evB_not n)
  go_enter Tryz.func28, Tryz.ntmps28
  go_wp2
  go_ret
  exact ⟨by rw [← H.out]; rfl, rfl⟩
theorem rcounted_any (n : Int) (w : World) : Calls Tryz.prog 32 #[.int .i64 n] w fun e w' => e = .returned (.bool (nbB n)) ∧ w = w' := by
  by_cases h1 : 0 ≤ n
  · by_cases h2 : n ≤ 1099511627776
    · have H := Lib.hid (nbB_yes (n := n) ⟨h1, h2⟩)
      go_enter Tryz.func32, Tryz.ntmps32
      go_wp2
      go_ret
      exact ⟨by rw [H.out]; rfl, rfl⟩
    · have H := Lib.hid (nbB_no (n := n) (fun h => h2 h.2))
      go_enter Tryz.func32, Tryz.ntmps32
      go_wp2
      go_ret
      exact ⟨by rw [H.out]; rfl, rfl⟩
  · have H := Lib.hid (nbB_no (n := n) (fun h => h1 h.1))
    go_enter Tryz.func32, Tryz.ntmps32
    go_wp2
    go_ret
    exact ⟨by rw [H.out]; rfl, rfl⟩

/-- A stripe and an error as a result. -/
def StE (w : World) (T : St) (x : Int) (e : Ending) (w' : World) : Prop := e = .returned (.tuple #[T.v, .int .i64 x]) ∧ Below w.heap.size w w'
theorem below4 {w W : World} {B r : Nat} (h : Below B w W) (hr : B ≤ r) (a b c d : Value) : Below B w ((((W.setCell ⟨r, 0, none⟩ a).setCell ⟨r, 1, none⟩ b).setCell ⟨r, 2, none⟩ c).setCell ⟨r, 3, none⟩ d) :=
  (((h.setCell (p := ⟨r, 0, none⟩) hr _).setCell (p := ⟨r, 1, none⟩) hr _).setCell (p := ⟨r, 2, none⟩) hr _).setCell (p := ⟨r, 3, none⟩) hr _
theorem below2 (w : World) (x y : Obj) : Below w.heap.size w ((w.alloc x).alloc y) := ((Below.refl _ _).alloc (Nat.le_refl _) x).alloc (by simp) y
set_option maxHeartbeats 2000000 in
theorem rbegin_any (s : St) (w : World) : Calls Tryz.prog 12 #[s.v] w (StE w (bgT s) (bgE s)) := by
  by_cases h1 : 0 ≤ s.sq
  · by_cases h2 : s.sq ≤ 1099511627776
    · have hm : s.sq.tmod 2 = s.sq % 2 := tmod2_pos h1
      by_cases h3 : s.sq % 2 = 1
      · have HR := Lib.hid (bg_7 ⟨h1, h2⟩ h3)
        rw [h3] at hm
        clear h3
        go_enter Tryz.func12, Tryz.ntmps12
        go_wp2
        exact bodyPost_ret (v := .tuple #[zSt.v, .int .i64 7]) (by simp only [results, Tryz.results12]; go_simp <;> rfl) rfl ⟨by rw [HR.out.1, HR.out.2], below2 w _ _⟩
      · have h4 : s.sq % 2 = 0 := by omega
        by_cases h5 : 1099511627774 < s.sq
        · have HR := Lib.hid (bg_6 ⟨h1, h2⟩ h3 h5)
          rw [h4] at hm
          clear h3 h4
          go_enter Tryz.func12, Tryz.ntmps12
          go_wp2
          exact bodyPost_ret (v := .tuple #[zSt.v, .int .i64 6]) (by simp only [results, Tryz.results12]; go_simp <;> rfl) rfl ⟨by rw [HR.out.1, HR.out.2], below2 w _ _⟩
        · have HR := Lib.hid (bg_0 ⟨h1, h2⟩ h3 h5)
          rw [h4] at hm
          clear h3 h4
          have hw : IntKind.i64.wrap (s.sq + 1) = s.sq + 1 := IntWalk.i64_in _ (by omega)
          have hw2 : wrap64 (s.sq + 1) = s.sq + 1 := IntWalk.wrap64_in _ (by omega)
          go_enter Tryz.func12, Tryz.ntmps12
          go_wp2
          exact bodyPost_ret (v := .tuple #[.agg #[.int .i64 (s.sq + 1), .int .i64 s.ep, .int .i64 s.rd, .int .i64 s.ls], .int .i64 0]) (by simp only [results, Tryz.results12]; go_simp <;> rfl) rfl ⟨by rw [HR.out.1, HR.out.2], below2 w _ _⟩
    · have HR := Lib.hid (bg_1 (s := s) (fun h => h2 h.2))
      go_enter Tryz.func12, Tryz.ntmps12
      go_wp2
      exact bodyPost_ret (v := .tuple #[zSt.v, .int .i64 1]) (by simp only [results, Tryz.results12]; go_simp <;> rfl) rfl ⟨by rw [HR.out.1, HR.out.2], below2 w _ _⟩
  · have HR := Lib.hid (bg_1 (s := s) (fun h => h1 h.1))
    go_enter Tryz.func12, Tryz.ntmps12
    go_wp2
    exact bodyPost_ret (v := .tuple #[zSt.v, .int .i64 1]) (by simp only [results, Tryz.results12]; go_simp <;> rfl) rfl ⟨by rw [HR.out.1, HR.out.2], below2 w _ _⟩
end Go.Proofs.YtdilgeabcacbdaaGreat
namespace Go.Proofs.YtdilgeabcacbdaaGreat
open Go.RowKit
set_option linter.unusedVariables false

section
variable {w : World} {B : Nat} {A : Option Addr} {n c : Nat} {l : List Le}
theorem el_under : Tryz.prog.underlying 32 = some (.slice (Tryz.prog.elem 32)) := by kernel_rfl
theorem el_elem : Tryz.prog.elem 32 = 75 := by kernel_rfl
theorem El.upto (h : El w B (.slice A n c) l) (j : Nat) (hj : j ≤ n) : El w B (.slice A j c) (l.take j) := by
  obtain ⟨hn, hl, hm⟩ := h.len
  have hlen : (l.take j).length = j := by simp; omega
  refine ⟨A, c, by rw [hlen], by rw [hlen]; omega, hm, by rw [ecs_len], fun h0 => ?_⟩
  rw [hlen] at h0
  obtain ⟨b, o, rfl, hb, hc⟩ := h.rd.2 (by omega)
  refine ⟨b, o, rfl, hb, fun k u hu => hc k u ?_⟩
  rw [← ecs_take] at hu
  have hk : k < j * 8 := by
    have := (List.getElem?_eq_some_iff.1 hu).1
    simp at this; omega
  rw [← hu, List.getElem?_take_of_lt hk]
theorem El.cut (h : El w B (.slice A n c) l) (k : Nat) (hk : k ≤ n) : El w B (.slice (if c = k then A else A.map (·.add (k * 8))) (n - k) (c - k)) (l.drop k) := by
  obtain ⟨hn, hl, hm⟩ := h.len
  refine ⟨_, c - k, by rw [List.length_drop, hn], by simp; omega, by omega, by rw [ecs_len], fun h0 => ?_⟩
  rw [List.length_drop] at h0
  obtain ⟨b, o, rfl, hb, hc⟩ := h.rd.2 (by omega)
  rw [if_neg (by omega)]
  refine ⟨b, o + k * 8, by rw [Option.map_some, add_mk], hb, fun j u hu => ?_⟩
  rw [Nat.add_assoc]
  refine hc _ u ?_
  rw [← hu, ← ecs_drop, List.getElem?_drop]
theorem run_eupto (A : Option Addr) (n c : Nat) (kh : IntKind) (j : Nat) (hj : j ≤ c) : ∀ W, (Instr.slice 32 (.slice A n c) none (some (.int kh (j : Int))) none).run Tryz.prog W = .ok (.slice A j c) W := fun W => by
  rw [run_slice_h W _ _ _ _ el_under kh _ (by omega) (by omega), el_elem, Tryz.sizeOf75]
  cases A <;> simp [Result.andThen, sliced, Addr.add]
theorem run_ecut (A : Option Addr) (n c : Nat) (kl : IntKind) (k : Nat) (hk : k ≤ n) : ∃ A', A' = (if c = k then A else A.map (·.add (k * 8))) ∧ ∀ W, (Instr.slice 32 (.slice A n c) (some (.int kl (k : Int))) none none).run Tryz.prog W = .ok (.slice A' (n - k) (c - k)) W := by
  refine ⟨_, rfl, fun W => ?_⟩
  rw [run_slice_l W _ _ _ _ el_under kl _ (by omega) (by omega), el_elem, Tryz.sizeOf75]
  simp [Result.andThen, sliced]
end
end Go.Proofs.YtdilgeabcacbdaaGreat
namespace Go.Proofs.YtdilgeabcacbdaaGreat
open Go.RowKit
set_option linter.unusedVariables false

section
variable {P : Program}
end

/-- A row of leases that is known whole: block g has the cells cur. -/
abbrev Rw (W : World) (g : Nat) (t : TypeId) (cur : List Value) : Prop := W.heap[g]? = some (.cells cur.toArray t (0, 0))
section
variable {W : World} {g base n cap size : Nat} {t e : TypeId} {cur xs : List Value} {v : Value}
theorem Rw.set (h : Rw W g t cur) (o : Nat) (cs : List Value) : Rw (W.setRow g (splice cur o cs).toArray) g t (splice cur o cs) := setRow_heap W g _ _ t _ h
theorem Rw.cell (h : Rw W g t cur) {j : Nat} {u : Value} (hj : cur[j]? = some u) : W.cell? ⟨g, j, none⟩ = some u := by
  simp [World.cell?, h, hj]
theorem Rw.of_own (h : W.ownsRow base e size v n xs) (h0 : 0 < n) : ∃ g cap cur, v = .slice (some ⟨g, 0, none⟩) n cap ∧ base ≤ g ∧ Rw W g e cur ∧ n ≤ cap ∧ cap ≤ maxLen ∧ cur.length = cap * size ∧ cur.take (n * size) = xs := by
  rcases h.2 with ⟨_, h⟩ | ⟨g, cap, cur, hv, hb, hh, hl, hm, hs, ht⟩
  · omega
  · exact ⟨g, cap, cur.toList, hv, hb, by simpa using hh, hl, hm, by simpa using hs, ht⟩
theorem Rw.own (h : Rw W g e cur) (hb : base ≤ g) (hl : n ≤ cap) (hm : cap ≤ maxLen) (hs : cur.length = cap * size) (ht : cur.take (n * size) = xs) : W.ownsRow base e size (.slice (some ⟨g, 0, none⟩) n cap) n xs := by
  refine ⟨?_, .inr ⟨g, cap, cur.toArray, rfl, hb, h, hl, hm, by simpa using hs, by simpa using ht⟩⟩
  rw [← ht, List.length_take, hs]
  exact Nat.min_eq_left (Nat.mul_le_mul_right _ hl)
theorem Rw.lt (h : Rw W g t cur) : g < W.heap.size := (Array.getElem?_eq_some_iff.1 h).1
theorem Rw.grown {W W' : World} {g : Nat} {t : TypeId} {cur : List Value} {row : Option Nat} (h : Rw W g t cur) (hg : W.grownBy W' row) (hne : some g ≠ row) : Rw W' g t cur := (hg.block g h.lt hne).trans h
theorem Rw.below {W W' : World} {B g : Nat} {t : TypeId} {cur : List Value} (h : Rw W g t cur) (hb : Below B W W') (hl : g < B) : Rw W' g t cur := (hb.block g hl).trans h
theorem Rw.free {W : World} {g : Nat} {t : TypeId} {cur : List Value} (h : Rw W g t cur) (o : Nat) : W.frozen? ⟨g, o, none⟩ = false := by
  have h : W.heap[g]? = some (.cells cur.toArray t (0, 0)) := h
  simp [World.frozen?, h]
theorem Rw.fresh (w : World) (cs : Array Value) (t : TypeId) : Rw (w.alloc (.cells cs t)) w.heap.size t cs.toList := by
  show (w.heap.push (.cells cs t))[w.heap.size]? = some (.cells cs.toList.toArray t (0, 0))
  simp
section
variable {P : Program} {ops : Array Oper} {o : Oper} {a : Act} {w : World}
end
end
end Go.Proofs.YtdilgeabcacbdaaGreat
