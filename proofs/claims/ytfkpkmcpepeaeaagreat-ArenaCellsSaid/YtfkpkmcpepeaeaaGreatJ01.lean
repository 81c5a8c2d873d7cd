/- What is proved here: (plain functions) directories: spans, owners, homes, validity, splits and merges; (plain functions) forwards of a directory, homes, owners, Validate's answer, Apply's answer; lemmas on slices in memory that no particular program enters: a slice that reads as a list, an append of such a slice onto a row of the call's own, and its conversion to a string. Conditions: those that each lemma names; message.Validate and its reference return the first error of a message, both by one plain function; the same for checked, New. -/
import Derived.Below
import Derived.WalkKit
import Derived.Laws.OwnMore
import Derived.Deep.Draws
import Derived.Maps.AppendAt
import Derived.Lib.SlBytesRow
import Derived.Lib.AppendStr
import Derived.Lib.Hide
import Derived.OwnWalk
import Derived.Test.YtfkpkmcpepeaeaaGreatRows
import Derived.Outline
import Derived.IntWalk
namespace Go.Proofs.YtfkpkmcpepeaeaaGreat
open Go.RowKit
set_option linter.unusedVariables false

/-- A span of routes. -/
structure Sp where
  lo : Int
  hi : Int
  sh : Int
deriving DecidableEq
abbrev zSp : Sp := ⟨0, 0, 0⟩
/-- The element at a place. -/
def sg (l : List Sp) (k : Nat) : Sp := l.getD k zSp
theorem sg_get {l : List Sp} {k : Nat} (h : k < l.length) : sg l k = l[k] := by simp [sg, List.getD, h]
theorem sg_mem {l : List Sp} {k : Nat} (h : k < l.length) : sg l k ∈ l := by rw [sg_get h]; exact List.getElem_mem h
theorem sg_take {l : List Sp} {j k : Nat} (h : k < j) : sg (l.take j) k = sg l k := by simp [sg, List.getD, h]
/-- The number at a place. -/
def ig (F : List Int) (k : Nat) : Int := F.getD k 0
theorem ig_get {F : List Int} {k : Nat} (h : k < F.length) : ig F k = F[k] := by simp [ig, List.getD, h]
/-- The index of the span of a slot, from k on. -/
def ixN10 : List Sp → Int → Nat → Int
  | [], _, _ => -1
  | x :: l, s, k => if x.sh = s then (k : Int) else ixN10 l s (k + 1)
/-- The index of the span of a slot, or -1. -/
def ixS (l : List Sp) (s : Int) : Int := ixN10 l s 0
theorem ixN_none {l : List Sp} {s : Int} (k : Nat) (h : ∀ x ∈ l, x.sh ≠ s) : ixN10 l s k = -1 := by
  induction l generalizing k with
  | nil => rfl
  | cons x l ih => rw [ixN10, if_neg (h x (by simp))]; exact ih _ fun y hy => h y (by simp [hy])
theorem ixN_hit {l : List Sp} {s : Int} (k : Nat) {i : Nat} (hi : i < l.length) (he : l[i].sh = s) (hn : ∀ j (hj : j < i), l[j].sh ≠ s) : ixN10 l s k = (k + i : Nat) := by
  induction l generalizing k i with
  | nil => simp at hi
  | cons x l ih =>
    cases i with
    | zero => rw [ixN10, if_pos (by simpa using he)]; rfl
    | succ i =>
      rw [ixN10, if_neg (by simpa using hn 0 (by omega)), ih (k + 1) (by simpa using hi) (by simpa using he) (fun j hj => by simpa using hn (j + 1) (by omega))]
      congr 1; omega
theorem ixS_none {l : List Sp} {s : Int} (h : ∀ j, j < l.length → (sg l j).sh ≠ s) : ixS l s = -1 := ixN_none 0 fun x hx => by
  obtain ⟨j, hj, rfl⟩ := List.getElem_of_mem hx
  have := h j hj
  rwa [sg_get hj] at this
theorem ixS_hit {l : List Sp} {s : Int} {i : Nat} (hi : i < l.length) (he : (sg l i).sh = s) (hn : ∀ j, j < i → (sg l j).sh ≠ s) : ixS l s = (i : Int) := by
  have := ixN_hit (l := l) (s := s) 0 hi (by rwa [sg_get hi] at he) (fun j hj => by have := hn j hj; rwa [sg_get (by omega)] at this)
  rwa [Nat.zero_add] at this
/-- Either there is no span of the slot, or the index is the first one. -/
theorem ixS_cases (l : List Sp) (s : Int) : (ixS l s = -1 ∧ ∀ j, j < l.length → (sg l j).sh ≠ s) ∨ ∃ i : Nat, ixS l s = (i : Int) ∧ i < l.length ∧ (sg l i).sh = s ∧ ∀ j, j < i → (sg l j).sh ≠ s := by
  by_cases h : ∀ j, j < l.length → (sg l j).sh ≠ s
  · exact .inl ⟨ixS_none h, h⟩
  · have h' : ∃ j, j < l.length ∧ (sg l j).sh = s := by
      apply Classical.byContradiction
      intro hn
      exact h fun j hj e => hn ⟨j, hj, e⟩
    have h2 : ∃ i, (i < l.length ∧ (sg l i).sh = s) ∧ ∀ j, j < i → ¬ (j < l.length ∧ (sg l j).sh = s) := by
      obtain ⟨j, hj⟩ := h'
      induction j using Nat.strongRecOn with
      | _ j ih =>
        by_cases hm : ∃ m, m < j ∧ (m < l.length ∧ (sg l m).sh = s)
        · obtain ⟨m, hm1, hm2⟩ := hm
          exact ih m hm1 hm2
        · exact ⟨j, hj, fun m hm1 hm2 => hm ⟨m, hm1, hm2⟩⟩
    obtain ⟨i, ⟨hi, he⟩, hn⟩ := h2
    exact .inr ⟨i, ixS_hit hi he (fun j hj e => hn j hj ⟨by omega, e⟩), hi, he, fun j hj e => hn j hj ⟨by omega, e⟩⟩
theorem ixS_neg {l : List Sp} {s : Int} (h : ¬ 0 ≤ ixS l s) : ixS l s = -1 ∧ ∀ j, j < l.length → (sg l j).sh ≠ s := by
  rcases ixS_cases l s with h1 | ⟨i, h1, _⟩
  · exact h1
  · omega
theorem ixS_pos {l : List Sp} {s : Int} (h : 0 ≤ ixS l s) : ∃ i : Nat, ixS l s = (i : Int) ∧ i < l.length ∧ (sg l i).sh = s ∧ ∀ j, j < i → (sg l j).sh ≠ s := by
  rcases ixS_cases l s with h1 | h1
  · omega
  · exact h1
/-- There is a span of the slot. -/
abbrev hasS (l : List Sp) (s : Int) : Prop := 0 ≤ ixS l s
theorem hasS_iff {l : List Sp} {s : Int} : hasS l s ↔ ∃ x ∈ l, x.sh = s := by
  constructor
  · intro h
    obtain ⟨i, _, hi, he, _⟩ := ixS_pos h
    exact ⟨_, sg_mem hi, he⟩
  · rintro ⟨x, hx, e⟩
    apply Classical.byContradiction
    intro h
    obtain ⟨j, hj, rfl⟩ := List.getElem_of_mem hx
    have := (ixS_neg h).2 j hj
    rw [sg_get hj] at this
    exact this e

/-- The spans follow each other from n on, to the last route. -/
def cvD : Int → List Sp → Bool
  | n, [] => decide (n = 65536)
  | n, x :: l => decide (x.lo = n) && (decide (x.lo ≤ x.hi) && (decide (x.hi ≤ 65535) && cvD (x.hi + 1) l))
/-- Where the next span must begin behind k spans. -/
def nxD (l : List Sp) (k : Nat) : Int := if k = 0 then 0 else (sg l (k - 1)).hi + 1
theorem nxD_zero (l : List Sp) : nxD l 0 = 0 := if_pos rfl
theorem nxD_succ (l : List Sp) (k : Nat) : nxD l (k + 1) = (sg l k).hi + 1 := by unfold nxD; rw [if_neg (by omega), Nat.add_sub_cancel]
/-- The span at k is as it must be. -/
def spK (l : List Sp) (k : Nat) : Prop := (sg l k).lo = nxD l k ∧ (sg l k).lo ≤ (sg l k).hi ∧ (sg l k).hi ≤ 65535
theorem cvD_gen (n : Int) (l : List Sp) : cvD n l = true ↔ (∀ k, k < l.length → (sg l k).lo = (if k = 0 then n else (sg l (k - 1)).hi + 1) ∧ (sg l k).lo ≤ (sg l k).hi ∧ (sg l k).hi ≤ 65535) ∧ (if l.length = 0 then n else (sg l (l.length - 1)).hi + 1) = 65536 := by
  induction l generalizing n with
  | nil => simp [cvD]
  | cons x l ih =>
    simp only [cvD, Bool.and_eq_true, decide_eq_true_eq, ih]
    constructor
    · rintro ⟨h1, h2, h3, h4, h5⟩
      refine ⟨fun k hk => ?_, ?_⟩
      · cases k with
        | zero => simpa [sg] using ⟨h1, h2, h3⟩
        | succ k =>
          have := h4 k (by simpa using hk)
          cases k with
          | zero => simpa [sg] using this
          | succ k => simpa [sg] using this
      · cases l with
        | nil => simpa [sg] using h5
        | cons y l => simpa [sg] using h5
    · rintro ⟨h1, h2⟩
      have h0 := h1 0 (by simp)
      simp [sg] at h0
      refine ⟨h0.1, h0.2.1, h0.2.2, fun k hk => ?_, ?_⟩
      · have := h1 (k + 1) (by simpa using hk)
        cases k with
        | zero => simpa [sg] using this
        | succ k => simpa [sg] using this
      · cases l with
        | nil => simpa [sg] using h2
        | cons y l => simpa [sg] using h2
theorem cvD_iff (l : List Sp) : cvD 0 l = true ↔ (∀ k, k < l.length → spK l k) ∧ nxD l l.length = 65536 := by
  rw [cvD_gen]
  rfl
theorem cvD_no {l : List Sp} {k : Nat} (hk : k < l.length) (h : ¬ spK l k) : cvD 0 l = false := by
  cases e : cvD 0 l with
  | false => rfl
  | true => exact absurd (((cvD_iff l).1 e).1 k hk) h
theorem cvD_end {l : List Sp} (h : ∀ k, k < l.length → spK l k) : cvD 0 l = decide (nxD l l.length = 65536) := by
  cases e : cvD 0 l with
  | true => exact (decide_eq_true ((cvD_iff l).1 e).2).symm
  | false =>
    symm
    apply decide_eq_false
    intro h2
    rw [(cvD_iff l).2 ⟨h, h2⟩] at e
    cases e

/-- A number is a slot. -/
abbrev slotP (n : Nat) (s : Int) : Prop := 0 ≤ s ∧ s < n
/-- All shards are slots. -/
def msD (n : Nat) (l : List Sp) : Bool := l.all fun x => decide (slotP n x.sh)
theorem msD_iff {n : Nat} {l : List Sp} : msD n l = true ↔ ∀ k, k < l.length → slotP n (sg l k).sh := by
  simp only [msD, List.all_eq_true, decide_eq_true_eq]
  constructor
  · intro h k hk; exact h _ (sg_mem hk)
  · intro h x hx
    obtain ⟨k, hk, rfl⟩ := List.getElem_of_mem hx
    have := h k hk
    rwa [sg_get hk] at this
theorem msD_no {n : Nat} {l : List Sp} {k : Nat} (hk : k < l.length) (h : ¬ slotP n (sg l k).sh) : msD n l = false := by
  cases e : msD n l with
  | false => rfl
  | true => exact absurd (msD_iff.1 e k hk) h
/-- Two spans have the same shard. -/
def duD (l : List Sp) : Prop := ∃ i j, i < j ∧ j < l.length ∧ (sg l i).sh = (sg l j).sh
open Classical in
noncomputable def duB (l : List Sp) : Bool := decide (duD l)
open Classical in
theorem duB_yes {l : List Sp} (h : duD l) : duB l = true := decide_eq_true h
open Classical in
theorem duB_no {l : List Sp} (h : ¬ duD l) : duB l = false := decide_eq_false h
theorem ixS_take {l : List Sp} {k : Nat} {s : Int} (hk : k ≤ l.length) : 0 ≤ ixS (l.take k) s ↔ ∃ i, i < k ∧ (sg l i).sh = s := by
  constructor
  · intro h
    obtain ⟨i, _, hi, he, _⟩ := ixS_pos h
    have hik : i < k := by simp at hi; omega
    exact ⟨i, hik, by rwa [sg_take hik] at he⟩
  · rintro ⟨i, hi, he⟩
    exact hasS_iff.2 ⟨sg (l.take k) i, sg_mem (by simp; omega), by rwa [sg_take hi]⟩
theorem du_take {l : List Sp} {k : Nat} (hk : k < l.length) (h : 0 ≤ ixS (l.take k) (sg l k).sh) : duD l := by
  obtain ⟨i, hi, he⟩ := (ixS_take (by omega)).1 h
  exact ⟨i, k, hi, hk, he⟩
theorem du_not {l : List Sp} (h : ∀ k, k < l.length → ¬ 0 ≤ ixS (l.take k) (sg l k).sh) : ¬ duD l := by
  rintro ⟨i, j, hij, hj, e⟩
  exact h j hj ((ixS_take (by omega)).2 ⟨i, hij, e⟩)
end Go.Proofs.YtfkpkmcpepeaeaaGreat
namespace Go.Proofs.YtfkpkmcpepeaeaaGreat
open Go.RowKit
set_option linter.unusedVariables false

/-- Where k steps lead. -/
def fwD (F : List Int) : Nat → Int → Int
  | 0, a => a
  | k + 1, a => if a < 0 then a else fwD F k (ig F a.toNat)
theorem fwD_neg {F : List Int} {a : Int} (k : Nat) (h : a < 0) : fwD F k a = a := by
  cases k with
  | zero => rfl
  | succ k => rw [fwD, if_pos h]
theorem fwD_pos {F : List Int} {a : Int} (k : Nat) (h : 0 ≤ a) : fwD F (k + 1) a = fwD F k (ig F a.toNat) := by rw [fwD, if_neg (by omega)]
/-- What the program asks of a slot without a span. -/
def pvD (F : List Int) : Nat → Int → Bool
  | 0, _ => false
  | k + 1, s => if ig F s.toNat = -1 then true else if slotP F.length (ig F s.toNat) then pvD F k (ig F s.toNat) else false
theorem pvD_one {F : List Int} {k : Nat} {s : Int} (h : ig F s.toNat = -1) : pvD F (k + 1) s = true := by rw [pvD, if_pos h]
theorem pvD_no {F : List Int} {k : Nat} {s : Int} (h : ig F s.toNat ≠ -1) (h2 : ¬ slotP F.length (ig F s.toNat)) : pvD F (k + 1) s = false := by rw [pvD, if_neg h, if_neg h2]
theorem pvD_next {F : List Int} {k : Nat} {s : Int} (h : ig F s.toNat ≠ -1) (h2 : slotP F.length (ig F s.toNat)) : pvD F (k + 1) s = pvD F k (ig F s.toNat) := by rw [pvD, if_neg h, if_pos h2]
/-- Forward of a slot is as it must be, as the program asks. -/
def fvB (l : List Sp) (F : List Int) (s : Int) : Bool := if hasS l s then decide (ig F s.toNat = -1) else pvD F F.length s
/-- Forward of a slot is a slot or -1, and -1 if the slot has a span. -/
def f1D (l : List Sp) (F : List Int) (i : Nat) : Prop := (-1 ≤ ig F i ∧ ig F i < F.length) ∧ (hasS l (i : Int) → ig F i = -1)
/-- All forwards are as they must be, as the reference asks. -/
def foD (l : List Sp) (F : List Int) : Prop := (∀ i, i < F.length → f1D l F i) ∧ ∀ i : Nat, i < F.length → fwD F F.length (i : Int) < 0
open Classical in
noncomputable def foB (l : List Sp) (F : List Int) : Bool := decide (foD l F)
open Classical in
theorem foB_yes {l : List Sp} {F : List Int} (h : foD l F) : foB l F = true := decide_eq_true h
open Classical in
theorem foB_no {l : List Sp} {F : List Int} (h : ¬ foD l F) : foB l F = false := decide_eq_false h
theorem pv_fw {F : List Int} (hb : ∀ i, i < F.length → -1 ≤ ig F i ∧ ig F i < F.length) (k : Nat) (s : Int) (hs : slotP F.length s) : pvD F k s = true ↔ fwD F k s < 0 := by
  induction k generalizing s with
  | zero => simp only [pvD, fwD]; constructor <;> intro h <;> first | cases h | (have := hs.1; omega)
  | succ k ih =>
    rw [fwD_pos k hs.1]
    have h1 := hb s.toNat (by have := hs; omega)
    by_cases he : ig F s.toNat = -1
    · rw [pvD_one he, fwD_neg k (by omega)]
      exact ⟨fun _ => by omega, fun _ => rfl⟩
    · have h2 : slotP F.length (ig F s.toNat) := ⟨by omega, h1.2⟩
      rw [pvD_next he h2]
      exact ih _ h2
theorem fv_fo {l : List Sp} {F : List Int} : (∀ i : Nat, i < F.length → fvB l F (i : Int) = true) ↔ foD l F := by
  constructor
  · intro h
    have hb : ∀ i, i < F.length → f1D l F i := fun i hi => by
      have h1 := h i hi
      unfold fvB at h1
      by_cases hs : hasS l (i : Int)
      · rw [if_pos hs] at h1
        have h2 : ig F i = -1 := by simpa using h1
        exact ⟨⟨by omega, by omega⟩, fun _ => h2⟩
      · rw [if_neg hs] at h1
        obtain ⟨n, hn⟩ : ∃ n, F.length = n + 1 := ⟨F.length - 1, by omega⟩
        rw [hn] at h1
        by_cases he : ig F i = -1
        · exact ⟨⟨by omega, by omega⟩, fun _ => he⟩
        · by_cases h2 : slotP F.length (ig F ((i : Int)).toNat)
          · exact ⟨⟨by have := h2.1; simp at this; omega, by have := h2.2; simpa using this⟩, fun h3 => absurd h3 hs⟩
          · rw [pvD_no (by simpa using he) h2] at h1; cases h1
    refine ⟨hb, fun i hi => ?_⟩
    have h1 := h i hi
    unfold fvB at h1
    by_cases hs : hasS l (i : Int)
    · obtain ⟨n, hn⟩ : ∃ n, F.length = n + 1 := ⟨F.length - 1, by omega⟩
      have h2 := (hb i hi).2 hs
      rw [hn, fwD_pos _ (by omega)]
      rw [show ((i : Int)).toNat = i from rfl, h2, fwD_neg _ (by omega)]
      omega
    · rw [if_neg hs] at h1
      exact (pv_fw (fun j hj => (hb j hj).1) _ _ ⟨by omega, by omega⟩).1 h1
  · rintro ⟨hb, hf⟩ i hi
    unfold fvB
    by_cases hs : hasS l (i : Int)
    · rw [if_pos hs]
      have h2 := (hb i hi).2 hs
      simpa using h2
    · rw [if_neg hs]
      exact (pv_fw (fun j hj => (hb j hj).1) _ _ ⟨by omega, by omega⟩).2 (hf i hi)
theorem fv_no {l : List Sp} {F : List Int} {i : Nat} (hi : i < F.length) (h : fvB l F (i : Int) = false) : foB l F = false := foB_no fun hf => by
  have := fv_fo.2 hf i hi
  rw [h] at this; cases this
theorem fv_yes {l : List Sp} {F : List Int} (h : ∀ i : Nat, i < F.length → fvB l F (i : Int) = true) : foB l F = true := foB_yes (fv_fo.1 h)

/-- A directory. -/
structure Dd where
  vn : Int
  l : List Sp
  F : List Int
def zD10 : Dd := ⟨0, [], []⟩
def rgD (d : Dd) : Prop := (1 ≤ d.vn ∧ d.vn ≤ 1099511627776) ∧ 1 ≤ d.F.length ∧ d.F.length ≤ 6
instance (d : Dd) : Decidable (rgD d) := by unfold rgD; exact inferInstance
/-- Validate's answer. -/
noncomputable def vaD (d : Dd) : Int := if ¬ rgD d then 1 else if cvD 0 d.l = false then 7 else if msD d.F.length d.l = false then 4 else if duB d.l = true then 10 else if foB d.l d.F = false then 7 else 0
section
variable {d : Dd}
theorem vaD_1 (h : ¬ rgD d) : vaD d = 1 := if_pos h
theorem vaD_cv (h : rgD d) (h1 : cvD 0 d.l = false) : vaD d = 7 := by unfold vaD; rw [if_neg (not_not_intro h), if_pos h1]
theorem vaD_ms (h : rgD d) (h1 : cvD 0 d.l = true) (h2 : msD d.F.length d.l = false) : vaD d = 4 := by unfold vaD; rw [if_neg (not_not_intro h), if_neg (by simp [h1]), if_pos h2]
theorem vaD_du (h : rgD d) (h1 : cvD 0 d.l = true) (h2 : msD d.F.length d.l = true) (h3 : duB d.l = true) : vaD d = 10 := by unfold vaD; rw [if_neg (not_not_intro h), if_neg (by simp [h1]), if_neg (by simp [h2]), if_pos h3]
theorem vaD_fo (h : rgD d) (h1 : cvD 0 d.l = true) (h2 : msD d.F.length d.l = true) (h3 : duB d.l = false) (h4 : foB d.l d.F = false) : vaD d = 7 := by unfold vaD; rw [if_neg (not_not_intro h), if_neg (by simp [h1]), if_neg (by simp [h2]), if_neg (by simp [h3]), if_pos h4]
theorem vaD_ok (h : rgD d) (h1 : cvD 0 d.l = true) (h2 : msD d.F.length d.l = true) (h3 : duB d.l = false) (h4 : foB d.l d.F = true) : vaD d = 0 := by unfold vaD; rw [if_neg (not_not_intro h), if_neg (by simp [h1]), if_neg (by simp [h2]), if_neg (by simp [h3]), if_neg (by simp [h4])]
/-- A valid directory. -/
structure OkD (d : Dd) : Prop where
  rg : rgD d
  sp : ∀ k, k < d.l.length → spK d.l k
  en : nxD d.l d.l.length = 65536
  ms : ∀ k, k < d.l.length → slotP d.F.length (sg d.l k).sh
  du : ¬ duD d.l
  f1 : ∀ i, i < d.F.length → f1D d.l d.F i
  f2 : ∀ i : Nat, i < d.F.length → fwD d.F d.F.length (i : Int) < 0
theorem OkD.va (h : OkD d) : vaD d = 0 := vaD_ok h.rg ((cvD_iff _).2 ⟨h.sp, h.en⟩) (msD_iff.2 h.ms) (duB_no h.du) (foB_yes ⟨h.f1, h.f2⟩)
theorem ok_va (h : vaD d = 0) : OkD d := by
  by_cases h0 : rgD d
  · cases h1 : cvD 0 d.l with
    | false => rw [vaD_cv h0 h1] at h; exact absurd h (by decide)
    | true =>
      cases h2 : msD d.F.length d.l with
      | false => rw [vaD_ms h0 h1 h2] at h; exact absurd h (by decide)
      | true =>
        by_cases h3 : duD d.l
        · rw [vaD_du h0 h1 h2 (duB_yes h3)] at h; exact absurd h (by decide)
        · by_cases h4 : foD d.l d.F
          · exact ⟨h0, ((cvD_iff _).1 h1).1, ((cvD_iff _).1 h1).2, msD_iff.1 h2, h3, h4.1, h4.2⟩
          · rw [vaD_fo h0 h1 h2 (duB_no h3) (foB_no h4)] at h; exact absurd h (by decide)
  · rw [vaD_1 h0] at h; exact absurd h (by decide)
end

/-- Span's answer. -/
noncomputable def spnD (d : Dd) (s : Int) : Sp := if vaD d = 0 ∧ 0 ≤ ixS d.l s then sg d.l (ixS d.l s).toNat else zSp
noncomputable def spnB (d : Dd) (s : Int) : Bool := decide (vaD d = 0 ∧ 0 ≤ ixS d.l s)
/-- Where the way from a slot leads within k steps. -/
def hmD (l : List Sp) (F : List Int) : Nat → Int → Int
  | 0, _ => -1
  | k + 1, s => if s < 0 then -1 else if hasS l s then s else hmD l F k (ig F s.toNat)
theorem hmD_neg {l : List Sp} {F : List Int} {k : Nat} {s : Int} (h : s < 0) : hmD l F k s = -1 := by
  cases k with
  | zero => rfl
  | succ k => rw [hmD, if_pos h]
theorem hmD_has {l : List Sp} {F : List Int} {k : Nat} {s : Int} (h0 : 0 ≤ s) (h : hasS l s) : hmD l F (k + 1) s = s := by rw [hmD, if_neg (by omega), if_pos h]
theorem hmD_next {l : List Sp} {F : List Int} {k : Nat} {s : Int} (h0 : 0 ≤ s) (h : ¬ hasS l s) : hmD l F (k + 1) s = hmD l F k (ig F s.toNat) := by rw [hmD, if_neg (by omega), if_neg h]
/-- Home's answer. -/
noncomputable def homD (d : Dd) (s : Int) : Int := if vaD d = 0 ∧ slotP d.F.length s then hmD d.l d.F (d.F.length + 1) s else -1
/-- The way of a slot in a valid directory: k steps are enough. -/
def HmI (d : Dd) (k : Nat) (s H : Int) : Prop := (-1 ≤ s ∧ s < d.F.length) ∧ fwD d.F k s < 0 ∧ hmD d.l d.F (k + 1) s = H
theorem HmI.start {d : Dd} (h : vaD d = 0) {s : Int} (hs : slotP d.F.length s) : HmI d d.F.length s (homD d s) := by
  have ho := ok_va h
  refine ⟨⟨by have := hs.1; omega, hs.2⟩, ?_, by unfold homD; rw [if_pos ⟨h, hs⟩]⟩
  have := ho.f2 s.toNat (by have := hs; omega)
  rwa [Int.toNat_of_nonneg hs.1] at this
theorem HmI.last {d : Dd} {k : Nat} {s H : Int} (h : HmI d k s H) (hs : s < 0) : s = -1 ∧ H = -1 := ⟨by have := h.1.1; omega, by rw [← h.2.2, hmD_neg hs]⟩
theorem HmI.hit {d : Dd} {k : Nat} {s H : Int} (h : HmI d k s H) (hs : 0 ≤ s) (hh : hasS d.l s) : H = s := by rw [← h.2.2, hmD_has hs hh]
theorem HmI.next {d : Dd} (ho : OkD d) {k : Nat} {s H : Int} (h : HmI d k s H) (hs : 0 ≤ s) (hh : ¬ hasS d.l s) : ∃ k', k = k' + 1 ∧ HmI d k' (ig d.F s.toNat) H := by
  cases k with
  | zero => have := h.2.1; simp only [fwD] at this; omega
  | succ k =>
    have h1 := ho.f1 s.toNat (by have := h.1.2; omega)
    refine ⟨k, rfl, h1.1, ?_, ?_⟩
    · have := h.2.1; rwa [fwD_pos k hs] at this
    · have := h.2.2; rwa [hmD_next hs hh] at this

/-- A change. -/
structure Ed where
  kd : Int
  fr : Int
  to : Int
  md : Int
section
variable {d : Dd} {e : Ed}
end
end Go.Proofs.YtfkpkmcpepeaeaaGreat
namespace Go.Proofs.YtfkpkmcpepeaeaaGreat
open Go.RowKit

/-- A byte as the cell that holds it. -/
def oct (x : UInt8) : Value := .int .u8 (x.toNat : Int)

theorem add_mk (b o j : Nat) : (⟨b, o, none⟩ : Addr).add j = ⟨b, o + j, none⟩ := by unfold Addr.add; split <;> simp_all

/-- The slice '.slice A n _' of elements of 'size' cells reads as the cells xs, and lies below block B. -/
def Rd (w : World) (B size : Nat) (A : Option Addr) (n : Nat) (xs : List Value) : Prop :=
  xs.length = n * size ∧ (0 < n → ∃ b o, A = some ⟨b, o, none⟩ ∧ b < B ∧ ∀ j u, xs[j]? = some u → w.cell? ⟨b, o + j, none⟩ = some u)

section
variable {w w' : World} {B B' size n : Nat} {A : Option Addr} {xs : List Value}
theorem Rd.nil (A : Option Addr) : Rd w B size A 0 [] := ⟨by simp, fun h => absurd h (by omega)⟩
theorem Rd.keep (h : Rd w B size A n xs) (hk : ∀ p : Addr, p.block < B → w'.cell? p = w.cell? p) : Rd w' B size A n xs :=
  ⟨h.1, fun hn => by
    obtain ⟨b, o, e, hb, hc⟩ := h.2 hn
    exact ⟨b, o, e, hb, fun j u hu => (hk _ hb).trans (hc j u hu)⟩⟩
theorem Rd.more (h : Rd w B size A n xs) (hB : B ≤ B') : Rd w B' size A n xs :=
  ⟨h.1, fun hn => by
    obtain ⟨b, o, e, hb, hc⟩ := h.2 hn
    exact ⟨b, o, e, by omega, hc⟩⟩
theorem Rd.below (h : Rd w B size A n xs) (hb : Below B w w') : Rd w' B size A n xs := h.keep fun _ hp => hb.cell hp
theorem Rd.drew (h : Rd w B size A n xs) : Rd w.drew B size A n xs := h
theorem Rd.drewN (h : Rd w B size A n xs) (k : Nat) : Rd (w.drewN k) B size A n xs := h
theorem Rd.alloc (h : Rd w B size A n xs) (hB : B ≤ w.heap.size) (o : Obj) : Rd (w.alloc o) B size A n xs := h.keep fun p hp => World.cell?_alloc_lt w o p (by omega)
theorem Rd.setCell (h : Rd w B size A n xs) {p : Addr} (hB : B ≤ p.block) (u : Value) : Rd (w.setCell p u) B size A n xs :=
  h.keep fun q hq => World.cell?_setCell_other w p q u (fun e => by subst e; omega)
theorem Rd.of_own {base : Nat} {e : TypeId} {c : Nat} (h : w.ownsRow base e size (.slice A n c) n xs) : Rd w w.heap.size size A n xs := by
  refine ⟨h.1, fun hn => ?_⟩
  rcases h.2 with ⟨hv, h0⟩ | ⟨g, cap, cur, hv, _, hh, _⟩
  · omega
  · injection hv with hA _ _
    subst hA
    exact ⟨g, 0, rfl, (Array.getElem?_eq_some_iff.1 hh).1, fun j u hu => by have := h.cells (g := g) rfl j u hu; rwa [add_mk] at this⟩
/-- A new row of cells. -/
theorem Rd.fresh (w : World) (cs : Array Value) (t : TypeId) : Rd (w.alloc (.cells cs t)) (w.heap.size + 1) 1 (some ⟨w.heap.size, 0, none⟩) cs.size cs.toList :=
  ⟨by simp, fun _ => ⟨_, _, rfl, by omega, fun j u hu => by
    rw [Nat.zero_add, World.cell?_alloc_new]
    simpa using hu⟩⟩
/-- What is owned from a block on is owned from every earlier one on. -/
theorem own_low {base base' : Nat} {e : TypeId} {v : Value} (h : w.ownsRow base e size v n xs) (hb : base' ≤ base) : w.ownsRow base' e size v n xs :=
  ⟨h.1, h.2.imp_right fun ⟨g, cap, cur, hv, hg, r⟩ => ⟨g, cap, cur, hv, Nat.le_trans hb hg, r⟩⟩
/-- What the call owns is a slice. -/
theorem own_form {base : Nat} {e : TypeId} {v : Value} (h : w.ownsRow base e size v n xs) : ∃ A c, v = .slice A n c := by
  rcases h.2 with ⟨rfl, rfl⟩ | ⟨g, cap, _, rfl, _⟩
  · exact ⟨none, 0, rfl⟩
  · exact ⟨_, cap, rfl⟩
end

/-- A value that is a slice, reads as the bytes bs and lies below B. -/
def Bs (w : World) (B : Nat) (v : Value) (bs : List UInt8) : Prop := ∃ A c, v = .slice A bs.length c ∧ bs.length ≤ c ∧ c ≤ maxLen ∧ Rd w B 1 A bs.length (bs.map oct)

section
variable {w w' : World} {B B' : Nat} {v : Value} {bs : List UInt8}
theorem Bs.nil : Bs w B (.slice none 0 0) [] := ⟨none, 0, rfl, Nat.le_refl _, Nat.zero_le _, Rd.nil none⟩
theorem Bs.keep (h : Bs w B v bs) (hk : ∀ p : Addr, p.block < B → w'.cell? p = w.cell? p) : Bs w' B v bs := by
  obtain ⟨A, c, e, hl, hm, h⟩ := h; exact ⟨A, c, e, hl, hm, h.keep hk⟩
theorem Bs.more (h : Bs w B v bs) (hB : B ≤ B') : Bs w B' v bs := by
  obtain ⟨A, c, e, hl, hm, h⟩ := h; exact ⟨A, c, e, hl, hm, h.more hB⟩
theorem Bs.below (h : Bs w B v bs) (hb : Below B w w') : Bs w' B v bs := h.keep fun _ hp => hb.cell hp
theorem Bs.alloc (h : Bs w B v bs) (hB : B ≤ w.heap.size) (o : Obj) : Bs (w.alloc o) B v bs := h.keep fun p hp => World.cell?_alloc_lt w o p (by omega)
theorem Bs.setCell (h : Bs w B v bs) {p : Addr} (hB : B ≤ p.block) (u : Value) : Bs (w.setCell p u) B v bs :=
  h.keep fun q hq => World.cell?_setCell_other w p q u (fun e => by subst e; omega)
theorem Bs.fresh (w : World) (bs : List UInt8) (t : TypeId) (hm : bs.length ≤ maxLen) : Bs (w.alloc (.cells (bs.map oct).toArray t)) (w.heap.size + 1) (.slice (some ⟨w.heap.size, 0, none⟩) bs.length bs.length) bs :=
  ⟨_, _, rfl, Nat.le_refl _, hm, by have := Rd.fresh w (bs.map oct).toArray t; simpa using this⟩
/-- From the way in which the guide opens a slice of bytes that came in. -/
theorem Bs.of_cells {a : Addr} {l c : Nat} {zs : List Int} (hl : l ≤ c) (hm : c ≤ maxLen) (hz : zs.length = c) (hc : ∀ i, i < zs.length → w.cell? (a.add i) = some (.int .u8 (zs.getD i 0))) (hw : ∀ n ∈ zs, (Lit.int .u8 n).wf = true) :
    ∃ bs, Bs w w.heap.size (.slice (some a) l c) bs := by
  have hlen : ((zs.take l).map fun n => UInt8.ofNat n.toNat).length = l := by simp; omega
  refine ⟨(zs.take l).map fun n => UInt8.ofNat n.toNat, some a, c, by rw [hlen], by omega, hm, by simp, fun hn => ?_⟩
  rw [hlen] at hn
  obtain ⟨b, o, spot⟩ := a
  have h0 := hc 0 (by omega)
  have hspot : spot = none := by simpa [Addr.add] using World.cell?_spot h0
  subst hspot
  refine ⟨b, o, rfl, World.block_lt_of_cell? w ⟨b, o, none⟩ (by simpa [Addr.add] using h0), fun j u hu => ?_⟩
  simp only [List.getElem?_map, Option.map_eq_some_iff] at hu
  obtain ⟨x, ⟨n, hn', rfl⟩, rfl⟩ := hu
  obtain ⟨hj, rfl⟩ := List.getElem?_eq_some_iff.1 hn'
  have hj' : j < zs.length := by simp at hj; omega
  have h := hc j hj'
  rw [add_mk] at h
  rw [h]
  have hm : zs[j] ∈ zs := List.getElem_mem hj'
  have hb := hw _ hm
  have hb2 : 0 ≤ zs[j] ∧ zs[j] ≤ 255 := by
    simp only [Lit.wf, Bool.and_eq_true, decide_eq_true_eq] at hb
    exact hb
  have e : (zs.take l)[j] = zs[j] := by simp
  rw [e]
  simp [oct, List.getD, hj']
  omega
theorem Bs.of_own {base : Nat} {e : TypeId} {n : Nat} (h : w.ownsRow base e 1 v n (bs.map oct)) : Bs w w.heap.size v bs := by
  have hl : n = bs.length := by have := h.1; simp at this; omega
  subst hl
  rcases h.2 with ⟨hv, h0⟩ | ⟨g, cap, cur, hv, _, _, hl, hm, _⟩
  · subst hv; exact ⟨none, 0, by rw [h0], by omega, Nat.zero_le _, by rw [show bs = [] from List.length_eq_zero_iff.1 h0]; exact Rd.nil _⟩
  · subst hv; exact ⟨_, cap, rfl, hl, hm, Rd.of_own h⟩
/-- The byte at place k, and where it lies. -/
theorem Bs.at_ {A : Option Addr} {n c k : Nat} (h : Bs w B (.slice A n c) bs) (hk : k < n) : ∃ b o, A = some ⟨b, o, none⟩ ∧ b < B ∧ ∃ hb : k < bs.length, w.cell? ⟨b, o + k, none⟩ = some (.int .u8 (bs[k].toNat : Int)) := by
  obtain ⟨A', c', e, _, _, h⟩ := h
  injection e with e1 e2 e3
  subst e1; subst e2
  obtain ⟨b, o, e, hb, hc⟩ := h.2 (by omega)
  exact ⟨b, o, e, hb, hk, hc k _ (by simp [hk, oct])⟩
theorem Bs.len {A : Option Addr} {n c : Nat} (h : Bs w B (.slice A n c) bs) : n = bs.length ∧ n ≤ c ∧ c ≤ maxLen := by
  obtain ⟨A', c', e, hl, hm, h⟩ := h
  injection e with e1 e2 e3
  subst e2; subst e3
  exact ⟨rfl, hl, hm⟩
theorem Bs.rd {A : Option Addr} {n c : Nat} (h : Bs w B (.slice A n c) bs) : Rd w B 1 A n (bs.map oct) := by
  obtain ⟨A', c', e, hl, hm, h⟩ := h
  injection e with e1 e2 e3
  subst e1; subst e2
  exact h
/-- A cut 's[k:]', as the model has its address. -/
theorem Bs.cut {A : Option Addr} {n c k : Nat} (h : Bs w B (.slice A n c) bs) (hk : k ≤ n) : Bs w B (.slice (if c = k then A else A.map (·.add k)) (n - k) (c - k)) (bs.drop k) := by
  obtain ⟨hn, hl, hm⟩ := h.len
  have hr := h.rd
  refine ⟨_, c - k, by rw [List.length_drop, hn], by simp; omega, by omega, by simp, fun h0 => ?_⟩
  rw [List.length_drop] at h0
  obtain ⟨b, o, rfl, hb, hc⟩ := hr.2 (by omega)
  rw [if_neg (by omega)]
  refine ⟨b, o + k, by rw [Option.map_some, add_mk], hb, fun j u hu => ?_⟩
  rw [Nat.add_assoc]
  exact hc _ u (by rw [← hu]; simp)
end

section
variable {P : Program} (w : World)

theorem run_append_empty (base : Nat) (t ty e : TypeId) (i : TypeInfo) (size : Nat) (ht : P.underlying t = some (.slice e)) (hi : P.info? e = some i)
    (v : Value) (n : Nat) (xs : List Value) (hown : w.ownsRow base e size v n xs) (c : Nat) : (Builtin.append_ #[t, t] ty #[v, .slice none 0 c]).run P w = .ok v w := by
  rcases hown.2 with ⟨rfl, rfl⟩ | ⟨g, cap, cur, rfl, _, _, hnc, _⟩
  · simp [Builtin.append_, run_underlying ht, sizeOf, typeInfo, hi, Builtin.lenOf, Builtin.firstCells]
  · simp [Builtin.append_, run_underlying ht, sizeOf, typeInfo, hi, Builtin.lenOf, Builtin.firstCells, hnc, storeCells]

theorem run_append_rd (base : Nat) (t ty e : TypeId) (i : TypeInfo) (z : Value) (size bytes : Nat) (ht : P.underlying t = some (.slice e)) (hi : P.info? e = some i) (hz : i.zero = some z)
    (hsize : i.size = size) (hby : i.bytes = bytes) (hzs : z.cells.size = size) (hsz : 0 < size)
    (v : Value) (n : Nat) (xs : List Value) (hown : w.ownsRow base e size v n xs)
    (B : Nat) (A : Option Addr) (m c : Nat) (news : List Value) (hr : Rd w B size A m news) (h1 : ∀ u ∈ news, u.oneCell' = true)
    (h63 : n + m ≤ maxLen) (hbytes : (n + m) * bytes ≤ 140737488355328) (hbase : base ≤ w.heap.size) :
    ∃ v' w', (Builtin.append_ #[t, t] ty #[v, .slice A m c]).run P w = .ok v' w' ∧ w'.ownsRow base e size v' (n + m) (xs ++ news) ∧ w.grownBy w' v.ownBlock ∧
      (v'.ownBlock = v.ownBlock ∨ v'.ownBlock = some w.heap.size) := by
  rcases A with _ | ad
  · have hm : m = 0 := by
      rcases Nat.eq_zero_or_pos m with h0 | h0
      · exact h0
      · obtain ⟨b, o, h, _⟩ := hr.2 h0
        cases h
    subst hm
    have hn : news = [] := List.eq_nil_of_length_eq_zero (by simpa using hr.1)
    subst hn
    exact ⟨v, w, run_append_empty w base t ty e i size ht hi v n xs hown c, by simpa using hown, World.grownBy.refl w _, .inl rfl⟩
  · have hcells : ∀ j u, news[j]? = some u → w.cell? (ad.add j) = some u := by
      intro j u hu
      rcases Nat.eq_zero_or_pos m with h0 | h0
      · subst h0
        have hn : news = [] := List.eq_nil_of_length_eq_zero (by simpa using hr.1)
        subst hn
        simp at hu
      · obtain ⟨b, o, h, _, hc⟩ := hr.2 h0
        injection h with h
        subst h
        rw [add_mk]
        exact hc j u hu
    obtain ⟨v', w', hrun, h2, h3, _, h5⟩ := run_append_own_at (P := P) w base t ty e i z size bytes ht hi hz hsize hby hzs hsz v n xs hown ad m c news hr.1 hcells h1 h63 hbytes hbase
    exact ⟨v', w', hrun, h2, h3, h5⟩

theorem wp_append_rd {o : Oper} {a : Act} {K : Act → World → Prop} {Q : Exit → Act → World → Prop} (s x : Operand) (t : TypeId)
    (ho : o.op = .call { callee := .builtin .append, args := #[s, x], argTypes := #[t, t] })
    (base : Nat) (e : TypeId) (i : TypeInfo) (z : Value) (size bytes : Nat) (ht : P.underlying t = some (.slice e)) (hi : P.info? e = some i) (hz : i.zero = some z)
    (hsize : i.size = size) (hby : i.bytes = bytes) (hzs : z.cells.size = size) (hsz : 0 < size)
    (v : Value) (n : Nat) (xs : List Value) (hs : a.eval s = v) (hown : w.ownsRow base e size v n xs)
    (B : Nat) (A : Option Addr) (m c : Nat) (news : List Value) (hx : a.eval x = .slice A m c) (hr : Rd w B size A m news) (h1 : ∀ u ∈ news, u.oneCell' = true)
    (h63 : n + m ≤ maxLen) (hbytes : (n + m) * bytes ≤ 140737488355328) (hbase : base ≤ w.heap.size)
    (h : ∀ v' w', w'.ownsRow base e size v' (n + m) (xs ++ news) → w.grownBy w' v.ownBlock → (v'.ownBlock = v.ownBlock ∨ v'.ownBlock = some w.heap.size) → K (a.put o.dst v') w') : o.wp P a w K Q := by
  obtain ⟨v', w', hrun, h2, h3, h4⟩ := run_append_rd (P := P) w base t o.type e i z size bytes ht hi hz hsize hby hzs hsz v n xs hown B A m c news hr h1 h63 hbytes hbase
  unfold Oper.wp execOp
  simp only [ho, resolve, invoke, builtin, Sem.run_bind, Sem.run_pure, Result.andThen_ok, List.map_toArray, List.map_cons, List.map_nil, hs, hx, hrun]
  exact h v' w' h2 h3 h4

/-- 'append(own, read...)': one way whether the source is nil, empty or neither. -/
theorem wpList_append_rd {ops : Array Oper} {rest : List Oper} {o : Oper} {a : Act} {Q : Exit → Act → World → Prop} (hgd : o.guard = none) (s x : Operand) (t : TypeId)
    (ho : o.op = .call { callee := .builtin .append, args := #[s, x], argTypes := #[t, t] })
    (base : Nat) (e : TypeId) (i : TypeInfo) (z : Value) (size bytes : Nat) (ht : P.underlying t = some (.slice e)) (hi : P.info? e = some i) (hz : i.zero = some z)
    (hsize : i.size = size) (hby : i.bytes = bytes) (hzs : z.cells.size = size) (hsz : 0 < size)
    (v : Value) (n : Nat) (xs : List Value) (hs : a.eval s = v) (hown : w.ownsRow base e size v n xs)
    (B : Nat) (A : Option Addr) (m c : Nat) (news : List Value) (hx : a.eval x = .slice A m c) (hr : Rd w B size A m news) (h1 : ∀ u ∈ news, u.oneCell' = true)
    (h63 : n + m ≤ maxLen) (hbytes : (n + m) * bytes ≤ 140737488355328) (hbase : base ≤ w.heap.size)
    (h : ∀ v' w', w'.ownsRow base e size v' (n + m) (xs ++ news) → w.grownBy w' v.ownBlock → (v'.ownBlock = v.ownBlock ∨ v'.ownBlock = some w.heap.size) → wpList P ops Q rest (a.put o.dst v') w') : wpList P ops Q (o :: rest) a w :=
  wpList_plain hgd fun _ hK => wp_append_rd w s x t ho base e i z size bytes ht hi hz hsize hby hzs hsz v n xs hs hown B A m c news hx hr h1 h63 hbytes hbase fun v' w' h2 h3 h4 => hK _ _ (h v' w' h2 h3 h4)
end

end Go.Proofs.YtfkpkmcpepeaeaaGreat
namespace Go.Proofs.YtfkpkmcpepeaeaaGreat
open Go.RowKit
set_option linter.unusedVariables false

/-- A message: the numbers and the body. -/
structure Msg where
  id : Int
  rt : Int
  ep : Int
  ct : Int
  gn : Int
  st : Int
  bd : ByteArray

/-- The message as a value. -/
abbrev Msg.v (M : Msg) : Value := .agg #[.int .i64 M.id, .int .i64 M.rt, .int .i64 M.ep, .int .i64 M.ct, .int .i64 M.gn, .int .i64 M.st, .string M.bd]
abbrev Msg.cs (M : Msg) : Array Value := #[.int .i64 M.id, .int .i64 M.rt, .int .i64 M.ep, .int .i64 M.ct, .int .i64 M.gn, .int .i64 M.st, .string M.bd]

/-- A number is from lo to hi. -/
def wi (n lo hi : Int) : Bool := decide (lo ≤ n ∧ n ≤ hi)
theorem wi_true {n lo hi : Int} (h1 : lo ≤ n) (h2 : n ≤ hi) : wi n lo hi = true := decide_eq_true ⟨h1, h2⟩
theorem wi_low {n lo hi : Int} (h1 : n < lo) : wi n lo hi = false := decide_eq_false (by omega)
theorem wi_high {n lo hi : Int} (h1 : hi < n) : wi n lo hi = false := decide_eq_false (by omega)
theorem wi_of {n lo hi : Int} (h : wi n lo hi = true) : lo ≤ n ∧ n ≤ hi := of_decide_eq_true h

/-- The numbers of a message are in their ranges. -/
def hv (M : Msg) : Bool := wi M.id 1 1073741824 && (wi M.rt 0 65535 && (wi M.ep 0 65536 && (wi M.ct 0 8 && (wi M.gn M.ct 65536 && wi M.st 0 1073741824))))

/-- The first error of a message. -/
def vf (M : Msg) : Int := if hv M = true then (if (16 : Int) < (M.bd.size : Int) then 2 else 0) else 1

end Go.Proofs.YtfkpkmcpepeaeaaGreat
