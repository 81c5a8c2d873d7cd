/- What is proved here: (plain) counter stripes, lists of them in memory, what Begin, End, Quiet, Same and Sum come to; (plain functions) directories: spans, owners, homes, validity, splits and merges; (plain functions) forwards of a directory, homes, owners, Validate's answer, Apply's answer; (plain) the source of numbers that the statements' base reads from: what lies at its block, and how it is kept. -/
import Derived.Test.YtfkpkmcpepeaeaaJ01
import Derived.Test.YtfkpkmcpepeaeaaJ13
import Derived.Test.YtfkpkmcpepeaeaaJ02
import Derived.Below
import Derived.Deep.MidRow
import Derived.Laws.MakeOwn
import Derived.WalkKit
import Derived.Deep.AppendLies
import Derived.Maps.AppendAt
namespace Go.Proofs.Ytfkpkmcpepeaeaa
open Go.RowKit
set_option linter.unusedVariables false

/-- A counter stripe. -/
structure St where
  sq : Int
  ep : Int
  rd : Int
  ls : Int
deriving DecidableEq
abbrev zSt : St := ⟨0, 0, 0, 0⟩
/-- The element at a place. -/
def tg (l : List St) (k : Nat) : St := l.getD k zSt
theorem tg_get {l : List St} {k : Nat} (h : k < l.length) : tg l k = l[k] := by simp [tg, List.getD, h]
/-- The cells of a stripe. -/
def St.l (d : St) : List Value := [.int .i64 d.sq, .int .i64 d.ep, .int .i64 d.rd, .int .i64 d.ls]
/-- The stripe as a value. -/
abbrev St.v (d : St) : Value := .agg #[.int .i64 d.sq, .int .i64 d.ep, .int .i64 d.rd, .int .i64 d.ls]
theorem St.l_len (d : St) : d.l.length = 4 := rfl
theorem St.l_one (d : St) : ∀ u ∈ d.l, u.oneCell' = true := by
  intro u hu
  simp only [St.l, List.mem_cons, List.not_mem_nil, or_false] at hu
  rcases hu with rfl | rfl | rfl | rfl <;> rfl
def tcs (l : List St) : List Value := l.flatMap St.l
theorem tcs_cons (d : St) (l : List St) : tcs (d :: l) = d.l ++ tcs l := rfl
theorem tcs_app (l m : List St) : tcs (l ++ m) = tcs l ++ tcs m := by simp [tcs]
theorem tcs_len (l : List St) : (tcs l).length = l.length * 4 := by
  induction l with
  | nil => rfl
  | cons d l ih => rw [tcs_cons, List.length_append, ih, St.l_len]; simp; omega
theorem tcs_drop (l : List St) (k : Nat) : (tcs l).drop (k * 4) = tcs (l.drop k) := by
  induction k generalizing l with
  | zero => simp
  | succ k ih =>
    cases l with
    | nil => simp [tcs]
    | cons d l =>
      rw [tcs_cons, List.drop_succ_cons, ← ih, show (k + 1) * 4 = d.l.length + k * 4 by rw [St.l_len]; omega, List.drop_append, List.drop_eq_nil_of_le (by omega)]
      simp
theorem tcs_take (l : List St) (k : Nat) : (tcs l).take (k * 4) = tcs (l.take k) := by
  induction k generalizing l with
  | zero => simp [tcs]
  | succ k ih =>
    cases l with
    | nil => simp [tcs]
    | cons d l =>
      rw [tcs_cons, List.take_succ_cons, tcs_cons, ← ih, show (k + 1) * 4 = d.l.length + k * 4 by rw [St.l_len]; omega, List.take_append, List.take_of_length_le (by omega)]
      simp
theorem tcs_at (l : List St) (k j : Nat) (hk : k < l.length) (hj : j < 4) : (tcs l)[k * 4 + j]? = l[k].l[j]? := by
  have h := tcs_drop l k
  have e : (tcs l)[k * 4 + j]? = ((tcs l).drop (k * 4))[j]? := by rw [List.getElem?_drop]
  rw [e, h, List.drop_eq_getElem_cons hk, tcs_cons, List.getElem?_append_left (by rw [St.l_len]; exact hj)]
theorem tcs_one (l : List St) : ∀ u ∈ tcs l, u.oneCell' = true := by
  intro u hu
  obtain ⟨M, _, h⟩ := List.mem_flatMap.1 hu
  exact M.l_one u h
/-- A value that is a slice, reads as these stripes and lies below B. -/
def Tl (w : World) (B : Nat) (v : Value) (l : List St) : Prop := ∃ A c, v = .slice A l.length c ∧ l.length ≤ c ∧ c ≤ maxLen ∧ Rd w B 4 A l.length (tcs l)
section
variable {w w' : World} {B B' : Nat} {v : Value} {l : List St} {A : Option Addr} {n c : Nat}
theorem Tl.nil : Tl w B (.slice none 0 0) [] := ⟨none, 0, rfl, Nat.le_refl _, Nat.zero_le _, Rd.nil none⟩
theorem Tl.keep (h : Tl w B v l) (hk : ∀ p : Addr, p.block < B → w'.cell? p = w.cell? p) : Tl w' B v l := by
  obtain ⟨A, c, e, hl, hm, h⟩ := h; exact ⟨A, c, e, hl, hm, h.keep hk⟩
theorem Tl.more (h : Tl w B v l) (hB : B ≤ B') : Tl w B' v l := by
  obtain ⟨A, c, e, hl, hm, h⟩ := h; exact ⟨A, c, e, hl, hm, h.more hB⟩
theorem Tl.below (h : Tl w B v l) (hb : Below B w w') : Tl w' B v l := h.keep fun _ hp => hb.cell hp
theorem Tl.up (h : Tl w w.heap.size v l) (hb : Below w.heap.size w w') : Tl w' w'.heap.size v l := (h.below hb).more hb.size
theorem Tl.alloc (h : Tl w B v l) (hB : B ≤ w.heap.size) (o : Obj) : Tl (w.alloc o) B v l := h.keep fun p hp => World.cell?_alloc_lt w o p (by omega)
theorem Tl.setCell (h : Tl w B v l) {p : Addr} (hB : B ≤ p.block) (u : Value) : Tl (w.setCell p u) B v l :=
  h.keep fun q hq => World.cell?_setCell_other w p q u (fun e => by subst e; omega)
theorem Tl.len (h : Tl w B (.slice A n c) l) : n = l.length ∧ n ≤ c ∧ c ≤ maxLen := by
  obtain ⟨A', c', e, hl, hm, h⟩ := h
  injection e with e1 e2 e3
  subst e2; subst e3
  exact ⟨rfl, hl, hm⟩
theorem Tl.rd (h : Tl w B (.slice A n c) l) : Rd w B 4 A n (tcs l) := by
  obtain ⟨A', c', e, hl, hm, h⟩ := h
  injection e with e1 e2 e3
  subst e1; subst e2
  exact h
theorem Tl.form (h : Tl w B v l) : ∃ A c, v = .slice A l.length c ∧ l.length ≤ c ∧ c ≤ maxLen := by
  obtain ⟨A, c, e, hl, hm, _⟩ := h; exact ⟨A, c, e, hl, hm⟩
theorem Tl.of_own {base : Nat} {e : TypeId} {n : Nat} (h : w.ownsRow base e 4 v n (tcs l)) : Tl w w.heap.size v l := by
  have hl : n = l.length := by have := h.1; rw [tcs_len] at this; omega
  subst hl
  rcases h.2 with ⟨hv, h0⟩ | ⟨g, cap, cur, hv, _, _, hl, hm, _⟩
  · subst hv; exact ⟨none, 0, by rw [h0], by omega, Nat.zero_le _, by rw [show l = [] from List.length_eq_zero_iff.1 h0]; exact Rd.nil _⟩
  · subst hv; exact ⟨_, cap, rfl, hl, hm, Rd.of_own h⟩
theorem Tl.offp (h : Tl w B (.slice A n c) l) {p : Addr} (ho : ∀ a, A = some a → 0 < n → a.block ≠ p.block) (v : Value) : Tl (w.setCell p v) B (.slice A n c) l := by
  obtain ⟨h1, h2, h3⟩ := h.len
  subst h1
  refine ⟨A, c, rfl, h2, h3, h.rd.1, fun hn => ?_⟩
  obtain ⟨b, o, e, hb, hc⟩ := h.rd.2 hn
  have := ho _ e hn
  exact ⟨b, o, e, hb, fun j u hu => (World.cell?_setCell_other w p _ v (fun e' => by have e2 := congrArg Addr.block e'; simp at e2 this; omega)).trans (hc j u hu)⟩
/-- The stripe at place k, and where it lies. -/
theorem Tl.atg {k : Nat} (h : Tl w B (.slice A n c) l) (hk : k < l.length) : ∃ b o, A = some ⟨b, o, none⟩ ∧ b < B ∧ w.cell? ⟨b, o + k * 4, none⟩ = some (.int .i64 (tg l k).sq) ∧ w.cell? ⟨b, o + k * 4 + 1, none⟩ = some (.int .i64 (tg l k).ep) ∧ w.cell? ⟨b, o + k * 4 + 2, none⟩ = some (.int .i64 (tg l k).rd) ∧ w.cell? ⟨b, o + k * 4 + 3, none⟩ = some (.int .i64 (tg l k).ls) := by
  have hn := h.len.1
  obtain ⟨b, o, e, hb, hc⟩ := h.rd.2 (by omega)
  have g : ∀ j u, j < 4 → l[k].l[j]? = some u → w.cell? ⟨b, o + k * 4 + j, none⟩ = some u := fun j u hj hu => by
    rw [Nat.add_assoc]; exact hc _ u (by rw [tcs_at l k j hk hj]; exact hu)
  rw [tg_get hk]
  exact ⟨b, o, e, hb, g 0 _ (by omega) rfl, g 1 _ (by omega) rfl, g 2 _ (by omega) rfl, g 3 _ (by omega) rfl⟩
/-- A cut l[:k]. -/
theorem Tl.upto {k : Nat} (h : Tl w B (.slice A n c) l) (hk : k ≤ l.length) : Tl w B (.slice A k c) (l.take k) := by
  obtain ⟨h1, h2, h3⟩ := h.len
  refine ⟨A, c, by rw [List.length_take, Nat.min_eq_left hk], by rw [List.length_take, Nat.min_eq_left hk]; omega, h3, ?_⟩
  rw [List.length_take, Nat.min_eq_left hk]
  refine ⟨by rw [tcs_len, List.length_take, Nat.min_eq_left hk], fun h0 => ?_⟩
  obtain ⟨b, o, e, hb, hc⟩ := h.rd.2 (by omega)
  exact ⟨b, o, e, hb, fun j u hu => hc j u (by
    rw [← tcs_take, List.getElem?_take] at hu
    split at hu
    · exact hu
    · cases hu)⟩
/-- A cut l[k:]. -/
theorem Tl.from {k : Nat} (h : Tl w B (.slice A n c) l) (hk : k ≤ l.length) : Tl w B (.slice (if c = k then A else A.map (·.add (k * 4))) (l.length - k) (c - k)) (l.drop k) := by
  obtain ⟨h1, h2, h3⟩ := h.len
  refine ⟨_, c - k, by rw [List.length_drop], by rw [List.length_drop]; omega, by omega, ?_⟩
  rw [List.length_drop]
  refine ⟨by rw [tcs_len, List.length_drop], fun h0 => ?_⟩
  obtain ⟨b, o, e, hb, hc⟩ := h.rd.2 (by omega)
  rw [if_neg (by omega), e]
  refine ⟨b, o + k * 4, by rw [Option.map_some, add_mk], hb, fun j u hu => ?_⟩
  rw [Nat.add_assoc]
  exact hc _ u (by rw [← tcs_drop, List.getElem?_drop] at hu; exact hu)
end


end Go.Proofs.Ytfkpkmcpepeaeaa
namespace Go.Proofs.Ytfkpkmcpepeaeaa
open Go.RowKit
set_option linter.unusedVariables false

/-- A span of routes. -/
structure Sp where
  lo : Int
  hi : Int
  sh : Int
deriving DecidableEq
abbrev zSp : Sp := ⟨0, 0, 0⟩
/-- The element at a place. -/
def sg (l : List Sp) (k : Nat) : Sp := l.getD k zSp
theorem sg_get {l : List Sp} {k : Nat} (h : k < l.length) : sg l k = l[k] := by simp [sg, List.getD, h]
theorem sg_mem {l : List Sp} {k : Nat} (h : k < l.length) : sg l k ∈ l := by rw [sg_get h]; exact List.getElem_mem h
theorem sg_take {l : List Sp} {j k : Nat} (h : k < j) : sg (l.take j) k = sg l k := by simp [sg, List.getD, h]
/-- The number at a place. -/
def ig (F : List Int) (k : Nat) : Int := F.getD k 0
theorem ig_get {F : List Int} {k : Nat} (h : k < F.length) : ig F k = F[k] := by simp [ig, List.getD, h]
/-- The index of the span of a slot, from k on. -/
def ixN10 : List Sp → Int → Nat → Int
  | [], _, _ => -1
  | x :: l, s, k => if x.sh = s then (k : Int) else ixN10 l s (k + 1)
/-- The index of the span of a slot, or -1. -/
def ixS (l : List Sp) (s : Int) : Int := ixN10 l s 0
theorem ixN_none {l : List Sp} {s : Int} (k : Nat) (h : ∀ x ∈ l, x.sh ≠ s) : ixN10 l s k = -1 := by
  induction l generalizing k with
  | nil => rfl
  | cons x l ih => rw [ixN10, if_neg (h x (by simp))]; exact ih _ fun y hy => h y (by simp [hy])
theorem ixN_hit {l : List Sp} {s : Int} (k : Nat) {i : Nat} (hi : i < l.length) (he : l[i].sh = s) (hn : ∀ j (hj : j < i), l[j].sh ≠ s) : ixN10 l s k = (k + i : Nat) := by
  induction l generalizing k i with
  | nil => simp at hi
  | cons x l ih =>
    cases i with
    | zero => rw [ixN10, if_pos (by simpa using he)]; rfl
    | succ i =>
      rw [ixN10, if_neg (by simpa using hn 0 (by omega)), ih (k + 1) (by simpa using hi) (by simpa using he) (fun j hj => by simpa using hn (j + 1) (by omega))]
      congr 1; omega
theorem ixS_none {l : List Sp} {s : Int} (h : ∀ j, j < l.length → (sg l j).sh ≠ s) : ixS l s = -1 := ixN_none 0 fun x hx => by
  obtain ⟨j, hj, rfl⟩ := List.getElem_of_mem hx
  have := h j hj
  rwa [sg_get hj] at this
theorem ixS_hit {l : List Sp} {s : Int} {i : Nat} (hi : i < l.length) (he : (sg l i).sh = s) (hn : ∀ j, j < i → (sg l j).sh ≠ s) : ixS l s = (i : Int) := by
  have := ixN_hit (l := l) (s := s) 0 hi (by rwa [sg_get hi] at he) (fun j hj => by have := hn j hj; rwa [sg_get (by omega)] at this)
  rwa [Nat.zero_add] at this
/-- Either there is no span of the slot, or the index is the first one. -/
theorem ixS_cases (l : List Sp) (s : Int) : (ixS l s = -1 ∧ ∀ j, j < l.length → (sg l j).sh ≠ s) ∨ ∃ i : Nat, ixS l s = (i : Int) ∧ i < l.length ∧ (sg l i).sh = s ∧ ∀ j, j < i → (sg l j).sh ≠ s := by
  by_cases h : ∀ j, j < l.length → (sg l j).sh ≠ s
  · exact .inl ⟨ixS_none h, h⟩
  · have h' : ∃ j, j < l.length ∧ (sg l j).sh = s := by
      apply Classical.byContradiction
      intro hn
      exact h fun j hj e => hn ⟨j, hj, e⟩
    have h2 : ∃ i, (i < l.length ∧ (sg l i).sh = s) ∧ ∀ j, j < i → ¬ (j < l.length ∧ (sg l j).sh = s) := by
      obtain ⟨j, hj⟩ := h'
      induction j using Nat.strongRecOn with
      | _ j ih =>
        by_cases hm : ∃ m, m < j ∧ (m < l.length ∧ (sg l m).sh = s)
        · obtain ⟨m, hm1, hm2⟩ := hm
          exact ih m hm1 hm2
        · exact ⟨j, hj, fun m hm1 hm2 => hm ⟨m, hm1, hm2⟩⟩
    obtain ⟨i, ⟨hi, he⟩, hn⟩ := h2
    exact .inr ⟨i, ixS_hit hi he (fun j hj e => hn j hj ⟨by omega, e⟩), hi, he, fun j hj e => hn j hj ⟨by omega, e⟩⟩
theorem ixS_neg {l : List Sp} {s : Int} (h : ¬ 0 ≤ ixS l s) : ixS l s = -1 ∧ ∀ j, j < l.length → (sg l j).sh ≠ s := by
  rcases ixS_cases l s with h1 | ⟨i, h1, _⟩
  · exact h1
  · omega
theorem ixS_pos {l : List Sp} {s : Int} (h : 0 ≤ ixS l s) : ∃ i : Nat, ixS l s = (i : Int) ∧ i < l.length ∧ (sg l i).sh = s ∧ ∀ j, j < i → (sg l j).sh ≠ s := by
  rcases ixS_cases l s with h1 | h1
  · omega
  · exact h1
/-- There is a span of the slot. -/
abbrev hasS (l : List Sp) (s : Int) : Prop := 0 ≤ ixS l s
theorem hasS_iff {l : List Sp} {s : Int} : hasS l s ↔ ∃ x ∈ l, x.sh = s := by
  constructor
  · intro h
    obtain ⟨i, _, hi, he, _⟩ := ixS_pos h
    exact ⟨_, sg_mem hi, he⟩
  · rintro ⟨x, hx, e⟩
    apply Classical.byContradiction
    intro h
    obtain ⟨j, hj, rfl⟩ := List.getElem_of_mem hx
    have := (ixS_neg h).2 j hj
    rw [sg_get hj] at this
    exact this e

/-- The spans follow each other from n on, to the last route. -/
def cvD : Int → List Sp → Bool
  | n, [] => decide (n = 65536)
  | n, x :: l => decide (x.lo = n) && (decide (x.lo ≤ x.hi) && (decide (x.hi ≤ 65535) && cvD (x.hi + 1) l))
/-- Where the next span must begin behind k spans. -/
def nxD (l : List Sp) (k : Nat) : Int := if k = 0 then 0 else (sg l (k - 1)).hi + 1
theorem nxD_zero (l : List Sp) : nxD l 0 = 0 := if_pos rfl
theorem nxD_succ (l : List Sp) (k : Nat) : nxD l (k + 1) = (sg l k).hi + 1 := by unfold nxD; rw [if_neg (by omega), Nat.add_sub_cancel]
/-- The span at k is as it must be. -/
def spK (l : List Sp) (k : Nat) : Prop := (sg l k).lo = nxD l k ∧ (sg l k).lo ≤ (sg l k).hi ∧ (sg l k).hi ≤ 65535
theorem cvD_gen (n : Int) (l : List Sp) : cvD n l = true ↔ (∀ k, k < l.length → (sg l k).lo = (if k = 0 then n else (sg l (k - 1)).hi + 1) ∧ (sg l k).lo ≤ (sg l k).hi ∧ (sg l k).hi ≤ 65535) ∧ (if l.length = 0 then n else (sg l (l.length - 1)).hi + 1) = 65536 := by
  induction l generalizing n with
  | nil => simp [cvD]
  | cons x l ih =>
    simp only [cvD, Bool.and_eq_true, decide_eq_true_eq, ih]
    constructor
    · rintro ⟨h1, h2, h3, h4, h5⟩
      refine ⟨fun k hk => ?_, ?_⟩
      · cases k with
        | zero => simpa [sg] using ⟨h1, h2, h3⟩
        | succ k =>
          have := h4 k (by simpa using hk)
          cases k with
          | zero => simpa [sg] using this
          | succ k => simpa [sg] using this
      · cases l with
        | nil => simpa [sg] using h5
        | cons y l => simpa [sg] using h5
    · rintro ⟨h1, h2⟩
      have h0 := h1 0 (by simp)
      simp [sg] at h0
      refine ⟨h0.1, h0.2.1, h0.2.2, fun k hk => ?_, ?_⟩
      · have := h1 (k + 1) (by simpa using hk)
        cases k with
        | zero => simpa [sg] using this
        | succ k => simpa [sg] using this
      · cases l with
        | nil => simpa [sg] using h2
        | cons y l => simpa [sg] using h2
theorem cvD_iff (l : List Sp) : cvD 0 l = true ↔ (∀ k, k < l.length → spK l k) ∧ nxD l l.length = 65536 := by
  rw [cvD_gen]
  rfl
theorem cvD_no {l : List Sp} {k : Nat} (hk : k < l.length) (h : ¬ spK l k) : cvD 0 l = false := by
  cases e : cvD 0 l with
  | false => rfl
  | true => exact absurd (((cvD_iff l).1 e).1 k hk) h
theorem cvD_end {l : List Sp} (h : ∀ k, k < l.length → spK l k) : cvD 0 l = decide (nxD l l.length = 65536) := by
  cases e : cvD 0 l with
  | true => exact (decide_eq_true ((cvD_iff l).1 e).2).symm
  | false =>
    symm
    apply decide_eq_false
    intro h2
    rw [(cvD_iff l).2 ⟨h, h2⟩] at e
    cases e

/-- A number is a slot. -/
abbrev slotP (n : Nat) (s : Int) : Prop := 0 ≤ s ∧ s < n
/-- All shards are slots. -/
def msD (n : Nat) (l : List Sp) : Bool := l.all fun x => decide (slotP n x.sh)
theorem msD_iff {n : Nat} {l : List Sp} : msD n l = true ↔ ∀ k, k < l.length → slotP n (sg l k).sh := by
  simp only [msD, List.all_eq_true, decide_eq_true_eq]
  constructor
  · intro h k hk; exact h _ (sg_mem hk)
  · intro h x hx
    obtain ⟨k, hk, rfl⟩ := List.getElem_of_mem hx
    have := h k hk
    rwa [sg_get hk] at this
theorem msD_no {n : Nat} {l : List Sp} {k : Nat} (hk : k < l.length) (h : ¬ slotP n (sg l k).sh) : msD n l = false := by
  cases e : msD n l with
  | false => rfl
  | true => exact absurd (msD_iff.1 e k hk) h
/-- Two spans have the same shard. -/
def duD (l : List Sp) : Prop := ∃ i j, i < j ∧ j < l.length ∧ (sg l i).sh = (sg l j).sh
open Classical in
noncomputable def duB (l : List Sp) : Bool := decide (duD l)
open Classical in
theorem duB_yes {l : List Sp} (h : duD l) : duB l = true := decide_eq_true h
open Classical in
theorem duB_no {l : List Sp} (h : ¬ duD l) : duB l = false := decide_eq_false h
theorem ixS_take {l : List Sp} {k : Nat} {s : Int} (hk : k ≤ l.length) : 0 ≤ ixS (l.take k) s ↔ ∃ i, i < k ∧ (sg l i).sh = s := by
  constructor
  · intro h
    obtain ⟨i, _, hi, he, _⟩ := ixS_pos h
    have hik : i < k := by simp at hi; omega
    exact ⟨i, hik, by rwa [sg_take hik] at he⟩
  · rintro ⟨i, hi, he⟩
    exact hasS_iff.2 ⟨sg (l.take k) i, sg_mem (by simp; omega), by rwa [sg_take hi]⟩
theorem du_take {l : List Sp} {k : Nat} (hk : k < l.length) (h : 0 ≤ ixS (l.take k) (sg l k).sh) : duD l := by
  obtain ⟨i, hi, he⟩ := (ixS_take (by omega)).1 h
  exact ⟨i, k, hi, hk, he⟩
theorem du_not {l : List Sp} (h : ∀ k, k < l.length → ¬ 0 ≤ ixS (l.take k) (sg l k).sh) : ¬ duD l := by
  rintro ⟨i, j, hij, hj, e⟩
  exact h j hj ((ixS_take (by omega)).2 ⟨i, hij, e⟩)
end Go.Proofs.Ytfkpkmcpepeaeaa
namespace Go.Proofs.Ytfkpkmcpepeaeaa
open Go.RowKit
set_option linter.unusedVariables false

/-- Where k steps lead. -/
def fwD (F : List Int) : Nat → Int → Int
  | 0, a => a
  | k + 1, a => if a < 0 then a else fwD F k (ig F a.toNat)
theorem fwD_neg {F : List Int} {a : Int} (k : Nat) (h : a < 0) : fwD F k a = a := by
  cases k with
  | zero => rfl
  | succ k => rw [fwD, if_pos h]
theorem fwD_pos {F : List Int} {a : Int} (k : Nat) (h : 0 ≤ a) : fwD F (k + 1) a = fwD F k (ig F a.toNat) := by rw [fwD, if_neg (by omega)]
/-- What the program asks of a slot without a span. -/
def pvD (F : List Int) : Nat → Int → Bool
  | 0, _ => false
  | k + 1, s => if ig F s.toNat = -1 then true else if slotP F.length (ig F s.toNat) then pvD F k (ig F s.toNat) else false
theorem pvD_one {F : List Int} {k : Nat} {s : Int} (h : ig F s.toNat = -1) : pvD F (k + 1) s = true := by rw [pvD, if_pos h]
theorem pvD_no {F : List Int} {k : Nat} {s : Int} (h : ig F s.toNat ≠ -1) (h2 : ¬ slotP F.length (ig F s.toNat)) : pvD F (k + 1) s = false := by rw [pvD, if_neg h, if_neg h2]
theorem pvD_next {F : List Int} {k : Nat} {s : Int} (h : ig F s.toNat ≠ -1) (h2 : slotP F.length (ig F s.toNat)) : pvD F (k + 1) s = pvD F k (ig F s.toNat) := by rw [pvD, if_neg h, if_pos h2]
/-- Forward of a slot is as it must be, as the program asks. -/
def fvB (l : List Sp) (F : List Int) (s : Int) : Bool := if hasS l s then decide (ig F s.toNat = -1) else pvD F F.length s
/-- Forward of a slot is a slot or -1, and -1 if the slot has a span. -/
def f1D (l : List Sp) (F : List Int) (i : Nat) : Prop := (-1 ≤ ig F i ∧ ig F i < F.length) ∧ (hasS l (i : Int) → ig F i = -1)
/-- All forwards are as they must be, as the reference asks. -/
def foD (l : List Sp) (F : List Int) : Prop := (∀ i, i < F.length → f1D l F i) ∧ ∀ i : Nat, i < F.length → fwD F F.length (i : Int) < 0
open Classical in
noncomputable def foB (l : List Sp) (F : List Int) : Bool := decide (foD l F)
open Classical in
theorem foB_yes {l : List Sp} {F : List Int} (h : foD l F) : foB l F = true := decide_eq_true h
open Classical in
theorem foB_no {l : List Sp} {F : List Int} (h : ¬ foD l F) : foB l F = false := decide_eq_false h
theorem pv_fw {F : List Int} (hb : ∀ i, i < F.length → -1 ≤ ig F i ∧ ig F i < F.length) (k : Nat) (s : Int) (hs : slotP F.length s) : pvD F k s = true ↔ fwD F k s < 0 := by
  induction k generalizing s with
  | zero => simp only [pvD, fwD]; constructor <;> intro h <;> first | cases h | (have := hs.1; omega)
  | succ k ih =>
    rw [fwD_pos k hs.1]
    have h1 := hb s.toNat (by have := hs; omega)
    by_cases he : ig F s.toNat = -1
    · rw [pvD_one he, fwD_neg k (by omega)]
      exact ⟨fun _ => by omega, fun _ => rfl⟩
    · have h2 : slotP F.length (ig F s.toNat) := ⟨by omega, h1.2⟩
      rw [pvD_next he h2]
      exact ih _ h2
theorem fv_fo {l : List Sp} {F : List Int} : (∀ i : Nat, i < F.length → fvB l F (i : Int) = true) ↔ foD l F := by
  constructor
  · intro h
    have hb : ∀ i, i < F.length → f1D l F i := fun i hi => by
      have h1 := h i hi
      unfold fvB at h1
      by_cases hs : hasS l (i : Int)
      · rw [if_pos hs] at h1
        have h2 : ig F i = -1 := by simpa using h1
        exact ⟨⟨by omega, by omega⟩, fun _ => h2⟩
      · rw [if_neg hs] at h1
        obtain ⟨n, hn⟩ : ∃ n, F.length = n + 1 := ⟨F.length - 1, by omega⟩
        rw [hn] at h1
        by_cases he : ig F i = -1
        · exact ⟨⟨by omega, by omega⟩, fun _ => he⟩
        · by_cases h2 : slotP F.length (ig F ((i : Int)).toNat)
          · exact ⟨⟨by have := h2.1; simp at this; omega, by have := h2.2; simpa using this⟩, fun h3 => absurd h3 hs⟩
          · rw [pvD_no (by simpa using he) h2] at h1; cases h1
    refine ⟨hb, fun i hi => ?_⟩
    have h1 := h i hi
    unfold fvB at h1
    by_cases hs : hasS l (i : Int)
    · obtain ⟨n, hn⟩ : ∃ n, F.length = n + 1 := ⟨F.length - 1, by omega⟩
      have h2 := (hb i hi).2 hs
      rw [hn, fwD_pos _ (by omega)]
      rw [show ((i : Int)).toNat = i from rfl, h2, fwD_neg _ (by omega)]
      omega
    · rw [if_neg hs] at h1
      exact (pv_fw (fun j hj => (hb j hj).1) _ _ ⟨by omega, by omega⟩).1 h1
  · rintro ⟨hb, hf⟩ i hi
    unfold fvB
    by_cases hs : hasS l (i : Int)
    · rw [if_pos hs]
      have h2 := (hb i hi).2 hs
      simpa using h2
    · rw [if_neg hs]
      exact (pv_fw (fun j hj => (hb j hj).1) _ _ ⟨by omega, by omega⟩).2 (hf i hi)
theorem fv_no {l : List Sp} {F : List Int} {i : Nat} (hi : i < F.length) (h : fvB l F (i : Int) = false) : foB l F = false := foB_no fun hf => by
  have := fv_fo.2 hf i hi
  rw [h] at this; cases this
theorem fv_yes {l : List Sp} {F : List Int} (h : ∀ i : Nat, i < F.length → fvB l F (i : Int) = true) : foB l F = true := foB_yes (fv_fo.1 h)

/-- A directory. -/
structure Dd where
  vn : Int
  l : List Sp
  F : List Int
def zD10 : Dd := ⟨0, [], []⟩
def rgD (d : Dd) : Prop := (1 ≤ d.vn ∧ d.vn ≤ 1099511627776) ∧ 1 ≤ d.F.length ∧ d.F.length ≤ 6
instance (d : Dd) : Decidable (rgD d) := by unfold rgD; exact inferInstance
/-- Validate's answer. -/
noncomputable def vaD (d : Dd) : Int := if ¬ rgD d then 1 else if cvD 0 d.l = false then 7 else if msD d.F.length d.l = false then 4 else if duB d.l = true then 10 else if foB d.l d.F = false then 7 else 0
section
variable {d : Dd}
theorem vaD_1 (h : ¬ rgD d) : vaD d = 1 := if_pos h
theorem vaD_cv (h : rgD d) (h1 : cvD 0 d.l = false) : vaD d = 7 := by unfold vaD; rw [if_neg (not_not_intro h), if_pos h1]
theorem vaD_ms (h : rgD d) (h1 : cvD 0 d.l = true) (h2 : msD d.F.length d.l = false) : vaD d = 4 := by unfold vaD; rw [if_neg (not_not_intro h), if_neg (by simp [h1]), if_pos h2]
theorem vaD_du (h : rgD d) (h1 : cvD 0 d.l = true) (h2 : msD d.F.length d.l = true) (h3 : duB d.l = true) : vaD d = 10 := by unfold vaD; rw [if_neg (not_not_intro h), if_neg (by simp [h1]), if_neg (by simp [h2]), if_pos h3]
theorem vaD_fo (h : rgD d) (h1 : cvD 0 d.l = true) (h2 : msD d.F.length d.l = true) (h3 : duB d.l = false) (h4 : foB d.l d.F = false) : vaD d = 7 := by unfold vaD; rw [if_neg (not_not_intro h), if_neg (by simp [h1]), if_neg (by simp [h2]), if_neg (by simp [h3]), if_pos h4]
theorem vaD_ok (h : rgD d) (h1 : cvD 0 d.l = true) (h2 : msD d.F.length d.l = true) (h3 : duB d.l = false) (h4 : foB d.l d.F = true) : vaD d = 0 := by unfold vaD; rw [if_neg (not_not_intro h), if_neg (by simp [h1]), if_neg (by simp [h2]), if_neg (by simp [h3]), if_neg (by simp [h4])]
/-- A valid directory. -/
structure OkD (d : Dd) : Prop where
  rg : rgD d
  sp : ∀ k, k < d.l.length → spK d.l k
  en : nxD d.l d.l.length = 65536
  ms : ∀ k, k < d.l.length → slotP d.F.length (sg d.l k).sh
  du : ¬ duD d.l
  f1 : ∀ i, i < d.F.length → f1D d.l d.F i
  f2 : ∀ i : Nat, i < d.F.length → fwD d.F d.F.length (i : Int) < 0
theorem OkD.va (h : OkD d) : vaD d = 0 := vaD_ok h.rg ((cvD_iff _).2 ⟨h.sp, h.en⟩) (msD_iff.2 h.ms) (duB_no h.du) (foB_yes ⟨h.f1, h.f2⟩)
theorem ok_va (h : vaD d = 0) : OkD d := by
  by_cases h0 : rgD d
  · cases h1 : cvD 0 d.l with
    | false => rw [vaD_cv h0 h1] at h; exact absurd h (by decide)
    | true =>
      cases h2 : msD d.F.length d.l with
      | false => rw [vaD_ms h0 h1 h2] at h; exact absurd h (by decide)
      | true =>
        by_cases h3 : duD d.l
        · rw [vaD_du h0 h1 h2 (duB_yes h3)] at h; exact absurd h (by decide)
        · by_cases h4 : foD d.l d.F
          · exact ⟨h0, ((cvD_iff _).1 h1).1, ((cvD_iff _).1 h1).2, msD_iff.1 h2, h3, h4.1, h4.2⟩
          · rw [vaD_fo h0 h1 h2 (duB_no h3) (foB_no h4)] at h; exact absurd h (by decide)
  · rw [vaD_1 h0] at h; exact absurd h (by decide)
end

/-- Span's answer. -/
noncomputable def spnD (d : Dd) (s : Int) : Sp := if vaD d = 0 ∧ 0 ≤ ixS d.l s then sg d.l (ixS d.l s).toNat else zSp
noncomputable def spnB (d : Dd) (s : Int) : Bool := decide (vaD d = 0 ∧ 0 ≤ ixS d.l s)
/-- Where the way from a slot leads within k steps. -/
def hmD (l : List Sp) (F : List Int) : Nat → Int → Int
  | 0, _ => -1
  | k + 1, s => if s < 0 then -1 else if hasS l s then s else hmD l F k (ig F s.toNat)
theorem hmD_neg {l : List Sp} {F : List Int} {k : Nat} {s : Int} (h : s < 0) : hmD l F k s = -1 := by
  cases k with
  | zero => rfl
  | succ k => rw [hmD, if_pos h]
theorem hmD_has {l : List Sp} {F : List Int} {k : Nat} {s : Int} (h0 : 0 ≤ s) (h : hasS l s) : hmD l F (k + 1) s = s := by rw [hmD, if_neg (by omega), if_pos h]
theorem hmD_next {l : List Sp} {F : List Int} {k : Nat} {s : Int} (h0 : 0 ≤ s) (h : ¬ hasS l s) : hmD l F (k + 1) s = hmD l F k (ig F s.toNat) := by rw [hmD, if_neg (by omega), if_neg h]
/-- Home's answer. -/
noncomputable def homD (d : Dd) (s : Int) : Int := if vaD d = 0 ∧ slotP d.F.length s then hmD d.l d.F (d.F.length + 1) s else -1
/-- The way of a slot in a valid directory: k steps are enough. -/
def HmI (d : Dd) (k : Nat) (s H : Int) : Prop := (-1 ≤ s ∧ s < d.F.length) ∧ fwD d.F k s < 0 ∧ hmD d.l d.F (k + 1) s = H
theorem HmI.start {d : Dd} (h : vaD d = 0) {s : Int} (hs : slotP d.F.length s) : HmI d d.F.length s (homD d s) := by
  have ho := ok_va h
  refine ⟨⟨by have := hs.1; omega, hs.2⟩, ?_, by unfold homD; rw [if_pos ⟨h, hs⟩]⟩
  have := ho.f2 s.toNat (by have := hs; omega)
  rwa [Int.toNat_of_nonneg hs.1] at this
theorem HmI.last {d : Dd} {k : Nat} {s H : Int} (h : HmI d k s H) (hs : s < 0) : s = -1 ∧ H = -1 := ⟨by have := h.1.1; omega, by rw [← h.2.2, hmD_neg hs]⟩
theorem HmI.hit {d : Dd} {k : Nat} {s H : Int} (h : HmI d k s H) (hs : 0 ≤ s) (hh : hasS d.l s) : H = s := by rw [← h.2.2, hmD_has hs hh]
theorem HmI.next {d : Dd} (ho : OkD d) {k : Nat} {s H : Int} (h : HmI d k s H) (hs : 0 ≤ s) (hh : ¬ hasS d.l s) : ∃ k', k = k' + 1 ∧ HmI d k' (ig d.F s.toNat) H := by
  cases k with
  | zero => have := h.2.1; simp only [fwD] at this; omega
  | succ k =>
    have h1 := ho.f1 s.toNat (by have := h.1.2; omega)
    refine ⟨k, rfl, h1.1, ?_, ?_⟩
    · have := h.2.1; rwa [fwD_pos k hs] at this
    · have := h.2.2; rwa [hmD_next hs hh] at this

/-- A change. -/
structure Ed where
  kd : Int
  fr : Int
  to : Int
  md : Int
section
variable {d : Dd} {e : Ed}
end
end Go.Proofs.Ytfkpkmcpepeaeaa
namespace Go.Proofs.Ytfkpkmcpepeaeaa
open Go.RowKit
set_option linter.unusedVariables false

/-- A number of 64 bits as a cell. -/
def i64v (z : Int) : Value := .int .i64 z

/-- Block g, from B on, is a source: a list that lies below B, and a position in it. -/
def SrcAt (W : World) (B g : Nat) : Prop := B ≤ g ∧ g < W.heap.size ∧ ∃ (A : Option Addr) (n c k : Nat) (zs : List Int),
  k ≤ n ∧ n ≤ 4000 ∧ n ≤ c ∧ c ≤ maxLen ∧ W.cell? ⟨g, 0, none⟩ = some (.slice A n c) ∧ W.cell? ⟨g, 1, none⟩ = some (.int .i64 k) ∧ W.frozen? ⟨g, 1, none⟩ = false ∧ Rd W B 1 A n (zs.map i64v) ∧ ∀ z ∈ zs, -9223372036854775808 ≤ z ∧ z ≤ 9223372036854775807

section
variable {W W' : World} {B g h : Nat}
theorem SrcAt.keep (s : SrcAt W B g) (hs : W.heap.size ≤ W'.heap.size) (h0 : ∀ o, W'.cell? ⟨g, o, none⟩ = W.cell? ⟨g, o, none⟩) (h1 : ∀ o, W'.frozen? ⟨g, o, none⟩ = W.frozen? ⟨g, o, none⟩) (hk : ∀ p : Addr, p.block < B → W'.cell? p = W.cell? p) : SrcAt W' B g := by
  obtain ⟨hB, hg, A, n, c, k, zs, a1, a2, a3, a4, a5, a6, a7, a8, a9⟩ := s
  exact ⟨hB, by omega, A, n, c, k, zs, a1, a2, a3, a4, (h0 0).trans a5, (h0 1).trans a6, (h1 1).trans a7, a8.keep hk, a9⟩
theorem SrcAt.grown (s : SrcAt W B g) (hg : W.grownBy W' (some h)) (hne : h ≠ g) (hB : B ≤ h) : SrcAt W' B g :=
  s.keep hg.size (fun o => hg.cell_far _ s.2.1 (fun e => hne (by injection e with e; exact e.symm))) (fun o => hg.frozen_far _ s.2.1 (fun e => hne (by injection e with e; exact e.symm)))
    (fun p hp => hg.cell_far p (by have := s.1; have := s.2.1; omega) (fun e => by injection e with e; omega))
theorem SrcAt.below (s : SrcAt W B g) (hb : Below W.heap.size W W') : SrcAt W' B g :=
  s.keep hb.size (fun o => hb.cell s.2.1) (fun o => hb.frozen s.2.1) (fun p hp => hb.cell (by have := s.1; have := s.2.1; omega))
theorem SrcAt.alloc (s : SrcAt W B g) (o : Obj) : SrcAt (W.alloc o) B g := s.below ((Below.refl _ _).alloc (Nat.le_refl _) o)
theorem SrcAt.drew (s : SrcAt W B g) : SrcAt W.drew B g := s
theorem SrcAt.drewN (s : SrcAt W B g) (n : Nat) : SrcAt (W.drewN n) B g := s
theorem SrcAt.other (s : SrcAt W B g) {p : Addr} (hp : p.block ≠ g) (hB : B ≤ p.block) (v : Value) : SrcAt (W.setCell p v) B g :=
  s.keep (by simp) (fun o => World.cell?_setCell_other W p _ v (fun e => hp (by rw [e]))) (fun o => by rw [World.frozen?_setCell]) (fun q hq => World.cell?_setCell_other W p q v (fun e => by rw [e] at hB; omega))

theorem SrcAt.next (s : SrcAt W B g) {A : Option Addr} {n c k : Nat} (h0 : W.cell? ⟨g, 0, none⟩ = some (.slice A n c)) (h1 : W.cell? ⟨g, 1, none⟩ = some (.int .i64 k)) (hk : k < n) : SrcAt (W.setCell ⟨g, 1, none⟩ (.int .i64 ((k : Int) + 1))) B g := by
  obtain ⟨hB, hg, A', n', c', k', zs, a1, a2, a3, a4, a5, a6, a7, a8, a9⟩ := s
  rw [h0] at a5
  injection a5 with a5
  injection a5 with e1 e2 e3
  subst e1; subst e2; subst e3
  refine ⟨hB, by simpa using hg, A, n, c, k + 1, zs, by omega, a2, a3, a4, (World.cell?_setCell_other W _ _ _ (fun e => by injection e; omega)).trans h0, ?_, by rw [World.frozen?_setCell]; exact a7, a8.setCell hB _, a9⟩
  simp [go_sem, h1]

theorem only_drewN {a w : World} {row : Option Nat} (h : a.grownBy w row) (n : Nat) : a.grownBy (w.drewN n) row := ⟨h.os, h.tape, h.output, h.size, h.block⟩
theorem only_drew {a w : World} {row : Option Nat} (h : a.grownBy w row) : a.grownBy w.drew row := ⟨h.os, h.tape, h.output, h.size, h.block⟩
theorem only_alloc {a w : World} {row : Option Nat} (h : a.grownBy w row) (o : Obj) : a.grownBy (w.alloc o) row :=
  ⟨h.os, h.tape, h.output, Nat.le_trans h.size (by simp), fun i hi hne => (Below.heap_alloc w o i (Nat.lt_of_lt_of_le hi h.size)).trans (h.block i hi hne)⟩
theorem only_set {a w : World} {g : Nat} (h : a.grownBy w (some g)) {p : Addr} (hp : p.block = g ∨ a.heap.size ≤ p.block) (u : Value) : a.grownBy (w.setCell p u) (some g) :=
  ⟨h.os, h.tape, h.output, by simpa [World.setCell] using h.size, fun i hi hne => (Below.heap_setCell w p u i (by
    rintro rfl
    rcases hp with hp | hp
    · exact hne (by rw [hp])
    · omega)).trans (h.block i hi hne)⟩
theorem only_below {a w w' : World} {g : Nat} (h : a.grownBy w (some g)) (hb : Below w.heap.size w w') : a.grownBy w' (some g) :=
  ⟨hb.os.trans h.os, hb.tape.trans h.tape, hb.output.trans h.output, Nat.le_trans h.size hb.size, fun i hi hne => (hb.block i (Nat.lt_of_lt_of_le hi h.size)).trans (h.block i hi hne)⟩
/-- A source lies behind B: what is below stays. -/
theorem below_only {B g : Nat} {a w w' : World} (h : Below B a w) (hg : w.grownBy w' (some g)) (hB : B ≤ g) (hz : B ≤ a.heap.size) : Below B a w' :=
  h.grown hg (Nat.le_trans hz h.size) (fun k hk => by injection hk with hk; omega)
end

/-- A call that reads a number of a source. -/
def SrInt (B g : Nat) (lo hi : Int) (w : World) (e : Ending) (w' : World) : Prop := ∃ x, e = .returned (.int .i64 x) ∧ lo ≤ x ∧ x ≤ hi ∧ SrcAt w' B g ∧ w.grownBy w' (some g)
end Go.Proofs.Ytfkpkmcpepeaeaa
