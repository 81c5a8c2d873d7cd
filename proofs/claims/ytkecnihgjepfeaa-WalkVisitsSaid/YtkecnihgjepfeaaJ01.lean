/- What is proved here: (plain functions) directories: spans, owners, homes, validity, splits and merges; (plain functions) forwards of a directory, homes, owners, Validate's answer, Apply's answer. -/
import Derived.Below
import Derived.WalkKit
namespace Go.Proofs.Ytkecnihgjepfeaa
open Go.RowKit
set_option linter.unusedVariables false

/-- A span of routes. -/
structure Sp where
  lo : Int
  hi : Int
  sh : Int
deriving DecidableEq
abbrev zSp : Sp := ⟨0, 0, 0⟩
/-- The element at a place. -/
def sg (l : List Sp) (k : Nat) : Sp := l.getD k zSp
theorem sg_get {l : List Sp} {k : Nat} (h : k < l.length) : sg l k = l[k] := by simp [sg, List.getD, h]
theorem sg_mem {l : List Sp} {k : Nat} (h : k < l.length) : sg l k ∈ l := by rw [sg_get h]; exact List.getElem_mem h
/-- The number at a place. -/
def ig (F : List Int) (k : Nat) : Int := F.getD k 0
theorem ig_get {F : List Int} {k : Nat} (h : k < F.length) : ig F k = F[k] := by simp [ig, List.getD, h]
theorem ig_set {F : List Int} {k j : Nat} {x : Int} (h : k < F.length) : ig (F.set k x) j = if j = k then x else ig F j := by
  simp only [ig, List.getD, List.getElem?_set]
  by_cases e : k = j
  · subst e; simp [h]
  · rw [if_neg e, if_neg (fun e' => e e'.symm)]
/-- The index of the span of a slot, from k on. -/
def ixN10 : List Sp → Int → Nat → Int
  | [], _, _ => -1
  | x :: l, s, k => if x.sh = s then (k : Int) else ixN10 l s (k + 1)
/-- The index of the span of a slot, or -1. -/
def ixS (l : List Sp) (s : Int) : Int := ixN10 l s 0
theorem ixN_none {l : List Sp} {s : Int} (k : Nat) (h : ∀ x ∈ l, x.sh ≠ s) : ixN10 l s k = -1 := by
  induction l generalizing k with
  | nil => rfl
  | cons x l ih => rw [ixN10, if_neg (h x (by simp))]; exact ih _ fun y hy => h y (by simp [hy])
theorem ixN_hit {l : List Sp} {s : Int} (k : Nat) {i : Nat} (hi : i < l.length) (he : l[i].sh = s) (hn : ∀ j (hj : j < i), l[j].sh ≠ s) : ixN10 l s k = (k + i : Nat) := by
  induction l generalizing k i with
  | nil => simp at hi
  | cons x l ih =>
    cases i with
    | zero => rw [ixN10, if_pos (by simpa using he)]; rfl
    | succ i =>
      rw [ixN10, if_neg (by simpa using hn 0 (by omega)), ih (k + 1) (by simpa using hi) (by simpa using he) (fun j hj => by simpa using hn (j + 1) (by omega))]
      congr 1; omega
theorem ixS_none {l : List Sp} {s : Int} (h : ∀ j, j < l.length → (sg l j).sh ≠ s) : ixS l s = -1 := ixN_none 0 fun x hx => by
  obtain ⟨j, hj, rfl⟩ := List.getElem_of_mem hx
  have := h j hj
  rwa [sg_get hj] at this
theorem ixS_hit {l : List Sp} {s : Int} {i : Nat} (hi : i < l.length) (he : (sg l i).sh = s) (hn : ∀ j, j < i → (sg l j).sh ≠ s) : ixS l s = (i : Int) := by
  have := ixN_hit (l := l) (s := s) 0 hi (by rwa [sg_get hi] at he) (fun j hj => by have := hn j hj; rwa [sg_get (by omega)] at this)
  rwa [Nat.zero_add] at this
/-- Either there is no span of the slot, or the index is the first one. -/
theorem ixS_cases (l : List Sp) (s : Int) : (ixS l s = -1 ∧ ∀ j, j < l.length → (sg l j).sh ≠ s) ∨ ∃ i : Nat, ixS l s = (i : Int) ∧ i < l.length ∧ (sg l i).sh = s ∧ ∀ j, j < i → (sg l j).sh ≠ s := by
  by_cases h : ∀ j, j < l.length → (sg l j).sh ≠ s
  · exact .inl ⟨ixS_none h, h⟩
  · have h' : ∃ j, j < l.length ∧ (sg l j).sh = s := by
      apply Classical.byContradiction
      intro hn
      exact h fun j hj e => hn ⟨j, hj, e⟩
    have h2 : ∃ i, (i < l.length ∧ (sg l i).sh = s) ∧ ∀ j, j < i → ¬ (j < l.length ∧ (sg l j).sh = s) := by
      obtain ⟨j, hj⟩ := h'
      induction j using Nat.strongRecOn with
      | _ j ih =>
        by_cases hm : ∃ m, m < j ∧ (m < l.length ∧ (sg l m).sh = s)
        · obtain ⟨m, hm1, hm2⟩ := hm
          exact ih m hm1 hm2
        · exact ⟨j, hj, fun m hm1 hm2 => hm ⟨m, hm1, hm2⟩⟩
    obtain ⟨i, ⟨hi, he⟩, hn⟩ := h2
    exact .inr ⟨i, ixS_hit hi he (fun j hj e => hn j hj ⟨by omega, e⟩), hi, he, fun j hj e => hn j hj ⟨by omega, e⟩⟩
theorem ixS_neg {l : List Sp} {s : Int} (h : ¬ 0 ≤ ixS l s) : ixS l s = -1 ∧ ∀ j, j < l.length → (sg l j).sh ≠ s := by
  rcases ixS_cases l s with h1 | ⟨i, h1, _⟩
  · exact h1
  · omega
theorem ixS_pos {l : List Sp} {s : Int} (h : 0 ≤ ixS l s) : ∃ i : Nat, ixS l s = (i : Int) ∧ i < l.length ∧ (sg l i).sh = s ∧ ∀ j, j < i → (sg l j).sh ≠ s := by
  rcases ixS_cases l s with h1 | h1
  · omega
  · exact h1
theorem ixS_ge (l : List Sp) (s : Int) : -1 ≤ ixS l s ∧ ixS l s < l.length := by
  rcases ixS_cases l s with h1 | ⟨i, h1, h2, _⟩ <;> omega
/-- There is a span of the slot. -/
abbrev hasS (l : List Sp) (s : Int) : Prop := 0 ≤ ixS l s
theorem hasS_iff {l : List Sp} {s : Int} : hasS l s ↔ ∃ x ∈ l, x.sh = s := by
  constructor
  · intro h
    obtain ⟨i, _, hi, he, _⟩ := ixS_pos h
    exact ⟨_, sg_mem hi, he⟩
  · rintro ⟨x, hx, e⟩
    apply Classical.byContradiction
    intro h
    obtain ⟨j, hj, rfl⟩ := List.getElem_of_mem hx
    have := (ixS_neg h).2 j hj
    rw [sg_get hj] at this
    exact this e

/-- The spans follow each other from n on, to the last route. -/
def cvD : Int → List Sp → Bool
  | n, [] => decide (n = 65536)
  | n, x :: l => decide (x.lo = n) && (decide (x.lo ≤ x.hi) && (decide (x.hi ≤ 65535) && cvD (x.hi + 1) l))
/-- Where the next span must begin behind k spans. -/
def nxD (l : List Sp) (k : Nat) : Int := if k = 0 then 0 else (sg l (k - 1)).hi + 1
theorem nxD_zero (l : List Sp) : nxD l 0 = 0 := if_pos rfl
theorem nxD_succ (l : List Sp) (k : Nat) : nxD l (k + 1) = (sg l k).hi + 1 := by unfold nxD; rw [if_neg (by omega), Nat.add_sub_cancel]
/-- The span at k is as it must be. -/
def spK (l : List Sp) (k : Nat) : Prop := (sg l k).lo = nxD l k ∧ (sg l k).lo ≤ (sg l k).hi ∧ (sg l k).hi ≤ 65535
theorem cvD_gen (n : Int) (l : List Sp) : cvD n l = true ↔ (∀ k, k < l.length → (sg l k).lo = (if k = 0 then n else (sg l (k - 1)).hi + 1) ∧ (sg l k).lo ≤ (sg l k).hi ∧ (sg l k).hi ≤ 65535) ∧ (if l.length = 0 then n else (sg l (l.length - 1)).hi + 1) = 65536 := by
  induction l generalizing n with
  | nil => simp [cvD]
  | cons x l ih =>
    simp only [cvD, Bool.and_eq_true, decide_eq_true_eq, ih]
    constructor
    · rintro ⟨h1, h2, h3, h4, h5⟩
      refine ⟨fun k hk => ?_, ?_⟩
      · cases k with
        | zero => simpa [sg] using ⟨h1, h2, h3⟩
        | succ k =>
          have := h4 k (by simpa using hk)
          cases k with
          | zero => simpa [sg] using this
          | succ k => simpa [sg] using this
      · cases l with
        | nil => simpa [sg] using h5
        | cons y l => simpa [sg] using h5
    · rintro ⟨h1, h2⟩
      have h0 := h1 0 (by simp)
      simp [sg] at h0
      refine ⟨h0.1, h0.2.1, h0.2.2, fun k hk => ?_, ?_⟩
      · have := h1 (k + 1) (by simpa using hk)
        cases k with
        | zero => simpa [sg] using this
        | succ k => simpa [sg] using this
      · cases l with
        | nil => simpa [sg] using h2
        | cons y l => simpa [sg] using h2
theorem cvD_iff (l : List Sp) : cvD 0 l = true ↔ (∀ k, k < l.length → spK l k) ∧ nxD l l.length = 65536 := by
  rw [cvD_gen]
  rfl
theorem cvD_no {l : List Sp} {k : Nat} (hk : k < l.length) (h : ¬ spK l k) : cvD 0 l = false := by
  cases e : cvD 0 l with
  | false => rfl
  | true => exact absurd (((cvD_iff l).1 e).1 k hk) h
theorem cvD_end {l : List Sp} (h : ∀ k, k < l.length → spK l k) : cvD 0 l = decide (nxD l l.length = 65536) := by
  cases e : cvD 0 l with
  | true => exact (decide_eq_true ((cvD_iff l).1 e).2).symm
  | false =>
    symm
    apply decide_eq_false
    intro h2
    rw [(cvD_iff l).2 ⟨h, h2⟩] at e
    cases e

/-- A number is a slot. -/
abbrev slotP (n : Nat) (s : Int) : Prop := 0 ≤ s ∧ s < n
/-- All shards are slots. -/
def msD (n : Nat) (l : List Sp) : Bool := l.all fun x => decide (slotP n x.sh)
theorem msD_iff {n : Nat} {l : List Sp} : msD n l = true ↔ ∀ k, k < l.length → slotP n (sg l k).sh := by
  simp only [msD, List.all_eq_true, decide_eq_true_eq]
  constructor
  · intro h k hk; exact h _ (sg_mem hk)
  · intro h x hx
    obtain ⟨k, hk, rfl⟩ := List.getElem_of_mem hx
    have := h k hk
    rwa [sg_get hk] at this
theorem msD_no {n : Nat} {l : List Sp} {k : Nat} (hk : k < l.length) (h : ¬ slotP n (sg l k).sh) : msD n l = false := by
  cases e : msD n l with
  | false => rfl
  | true => exact absurd (msD_iff.1 e k hk) h
/-- Two spans have the same shard. -/
def duD (l : List Sp) : Prop := ∃ i j, i < j ∧ j < l.length ∧ (sg l i).sh = (sg l j).sh
open Classical in
noncomputable def duB (l : List Sp) : Bool := decide (duD l)
open Classical in
theorem duB_yes {l : List Sp} (h : duD l) : duB l = true := decide_eq_true h
open Classical in
theorem duB_no {l : List Sp} (h : ¬ duD l) : duB l = false := decide_eq_false h
/-- What the reference asks. -/
theorem du_ix {l : List Sp} {k : Nat} (hk : k < l.length) (h : ixS l (sg l k).sh ≠ (k : Int)) : duD l := by
  rcases ixS_cases l (sg l k).sh with ⟨_, h1⟩ | ⟨i, h1, h2, h3, h4⟩
  · exact absurd rfl (h1 k hk)
  · rcases Nat.lt_trichotomy i k with hlt | e | hgt
    · exact ⟨i, k, hlt, hk, h3⟩
    · subst e; exact absurd h1 h
    · exact absurd rfl (h4 k hgt)
theorem du_ixn {l : List Sp} (h : ∀ k, k < l.length → ixS l (sg l k).sh = (k : Int)) : ¬ duD l := by
  rintro ⟨i, j, hij, hj, e⟩
  have h1 := h i (by omega)
  have h2 := h j hj
  rw [e] at h1
  omega
end Go.Proofs.Ytkecnihgjepfeaa
namespace Go.Proofs.Ytkecnihgjepfeaa
open Go.RowKit
set_option linter.unusedVariables false

/-- Where k steps lead. -/
def fwD (F : List Int) : Nat → Int → Int
  | 0, a => a
  | k + 1, a => if a < 0 then a else fwD F k (ig F a.toNat)
theorem fwD_neg {F : List Int} {a : Int} (k : Nat) (h : a < 0) : fwD F k a = a := by
  cases k with
  | zero => rfl
  | succ k => rw [fwD, if_pos h]
theorem fwD_pos {F : List Int} {a : Int} (k : Nat) (h : 0 ≤ a) : fwD F (k + 1) a = fwD F k (ig F a.toNat) := by rw [fwD, if_neg (by omega)]
/-- Forward of a slot is a slot or -1, and -1 if the slot has a span. -/
def f1D (l : List Sp) (F : List Int) (i : Nat) : Prop := (-1 ≤ ig F i ∧ ig F i < F.length) ∧ (hasS l (i : Int) → ig F i = -1)
/-- All forwards are as they must be, as the reference asks. -/
def foD (l : List Sp) (F : List Int) : Prop := (∀ i, i < F.length → f1D l F i) ∧ ∀ i : Nat, i < F.length → fwD F F.length (i : Int) < 0
open Classical in
noncomputable def foB (l : List Sp) (F : List Int) : Bool := decide (foD l F)
open Classical in
theorem foB_yes {l : List Sp} {F : List Int} (h : foD l F) : foB l F = true := decide_eq_true h
open Classical in
theorem foB_no {l : List Sp} {F : List Int} (h : ¬ foD l F) : foB l F = false := decide_eq_false h
/-- A directory. -/
structure Dd where
  vn : Int
  l : List Sp
  F : List Int
def zD10 : Dd := ⟨0, [], []⟩
def rgD (d : Dd) : Prop := (1 ≤ d.vn ∧ d.vn ≤ 1099511627776) ∧ 1 ≤ d.F.length ∧ d.F.length ≤ 6
instance (d : Dd) : Decidable (rgD d) := by unfold rgD; exact inferInstance
/-- Validate's answer. -/
noncomputable def vaD (d : Dd) : Int := if ¬ rgD d then 1 else if cvD 0 d.l = false then 7 else if msD d.F.length d.l = false then 4 else if duB d.l = true then 10 else if foB d.l d.F = false then 7 else 0
section
variable {d : Dd}
theorem vaD_1 (h : ¬ rgD d) : vaD d = 1 := if_pos h
theorem vaD_cv (h : rgD d) (h1 : cvD 0 d.l = false) : vaD d = 7 := by unfold vaD; rw [if_neg (not_not_intro h), if_pos h1]
theorem vaD_ms (h : rgD d) (h1 : cvD 0 d.l = true) (h2 : msD d.F.length d.l = false) : vaD d = 4 := by unfold vaD; rw [if_neg (not_not_intro h), if_neg (by simp [h1]), if_pos h2]
theorem vaD_du (h : rgD d) (h1 : cvD 0 d.l = true) (h2 : msD d.F.length d.l = true) (h3 : duB d.l = true) : vaD d = 10 := by unfold vaD; rw [if_neg (not_not_intro h), if_neg (by simp [h1]), if_neg (by simp [h2]), if_pos h3]
theorem vaD_fo (h : rgD d) (h1 : cvD 0 d.l = true) (h2 : msD d.F.length d.l = true) (h3 : duB d.l = false) (h4 : foB d.l d.F = false) : vaD d = 7 := by unfold vaD; rw [if_neg (not_not_intro h), if_neg (by simp [h1]), if_neg (by simp [h2]), if_neg (by simp [h3]), if_pos h4]
theorem vaD_ok (h : rgD d) (h1 : cvD 0 d.l = true) (h2 : msD d.F.length d.l = true) (h3 : duB d.l = false) (h4 : foB d.l d.F = true) : vaD d = 0 := by unfold vaD; rw [if_neg (not_not_intro h), if_neg (by simp [h1]), if_neg (by simp [h2]), if_neg (by simp [h3]), if_neg (by simp [h4])]
/-- A valid directory. -/
structure OkD (d : Dd) : Prop where
  rg : rgD d
  sp : ∀ k, k < d.l.length → spK d.l k
  en : nxD d.l d.l.length = 65536
  ms : ∀ k, k < d.l.length → slotP d.F.length (sg d.l k).sh
  du : ¬ duD d.l
  f1 : ∀ i, i < d.F.length → f1D d.l d.F i
  f2 : ∀ i : Nat, i < d.F.length → fwD d.F d.F.length (i : Int) < 0
theorem OkD.va (h : OkD d) : vaD d = 0 := vaD_ok h.rg ((cvD_iff _).2 ⟨h.sp, h.en⟩) (msD_iff.2 h.ms) (duB_no h.du) (foB_yes ⟨h.f1, h.f2⟩)
theorem ok_va (h : vaD d = 0) : OkD d := by
  by_cases h0 : rgD d
  · cases h1 : cvD 0 d.l with
    | false => rw [vaD_cv h0 h1] at h; exact absurd h (by decide)
    | true =>
      cases h2 : msD d.F.length d.l with
      | false => rw [vaD_ms h0 h1 h2] at h; exact absurd h (by decide)
      | true =>
        by_cases h3 : duD d.l
        · rw [vaD_du h0 h1 h2 (duB_yes h3)] at h; exact absurd h (by decide)
        · by_cases h4 : foD d.l d.F
          · exact ⟨h0, ((cvD_iff _).1 h1).1, ((cvD_iff _).1 h1).2, msD_iff.1 h2, h3, h4.1, h4.2⟩
          · rw [vaD_fo h0 h1 h2 (duB_no h3) (foB_no h4)] at h; exact absurd h (by decide)
  · rw [vaD_1 h0] at h; exact absurd h (by decide)
end

/-- Where the way from a slot leads within k steps. -/
def hmD (l : List Sp) (F : List Int) : Nat → Int → Int
  | 0, _ => -1
  | k + 1, s => if s < 0 then -1 else if hasS l s then s else hmD l F k (ig F s.toNat)
theorem hmD_neg {l : List Sp} {F : List Int} {k : Nat} {s : Int} (h : s < 0) : hmD l F k s = -1 := by
  cases k with
  | zero => rfl
  | succ k => rw [hmD, if_pos h]
theorem hmD_next {l : List Sp} {F : List Int} {k : Nat} {s : Int} (h0 : 0 ≤ s) (h : ¬ hasS l s) : hmD l F (k + 1) s = hmD l F k (ig F s.toNat) := by rw [hmD, if_neg (by omega), if_neg h]
/-- Home's answer. -/
noncomputable def homD (d : Dd) (s : Int) : Int := if vaD d = 0 ∧ slotP d.F.length s then hmD d.l d.F (d.F.length + 1) s else -1
/-- The way of a slot in a valid directory: k steps are enough. -/
def HmI (d : Dd) (k : Nat) (s H : Int) : Prop := (-1 ≤ s ∧ s < d.F.length) ∧ fwD d.F k s < 0 ∧ hmD d.l d.F (k + 1) s = H
theorem HmI.start {d : Dd} (h : vaD d = 0) {s : Int} (hs : slotP d.F.length s) : HmI d d.F.length s (homD d s) := by
  have ho := ok_va h
  refine ⟨⟨by have := hs.1; omega, hs.2⟩, ?_, by unfold homD; rw [if_pos ⟨h, hs⟩]⟩
  have := ho.f2 s.toNat (by have := hs; omega)
  rwa [Int.toNat_of_nonneg hs.1] at this
theorem HmI.last {d : Dd} {k : Nat} {s H : Int} (h : HmI d k s H) (hs : s < 0) : s = -1 ∧ H = -1 := ⟨by have := h.1.1; omega, by rw [← h.2.2, hmD_neg hs]⟩
theorem HmI.next {d : Dd} (ho : OkD d) {k : Nat} {s H : Int} (h : HmI d k s H) (hs : 0 ≤ s) (hh : ¬ hasS d.l s) : ∃ k', k = k' + 1 ∧ HmI d k' (ig d.F s.toNat) H := by
  cases k with
  | zero => have := h.2.1; simp only [fwD] at this; omega
  | succ k =>
    have h1 := ho.f1 s.toNat (by have := h.1.2; omega)
    refine ⟨k, rfl, h1.1, ?_, ?_⟩
    · have := h.2.1; rwa [fwD_pos k hs] at this
    · have := h.2.2; rwa [hmD_next hs hh] at this

/-- A change. -/
structure Ed where
  kd : Int
  fr : Int
  to : Int
  md : Int
/-- The error of a split, of a merge. -/
def spE (d : Dd) (e : Ed) : Int := if ixS d.l e.fr < 0 ∨ 0 ≤ ixS d.l e.to then 7 else if (sg d.l (ixS d.l e.fr).toNat).lo ≤ e.md ∧ e.md < (sg d.l (ixS d.l e.fr).toNat).hi then 0 else 1
def meE (d : Dd) (e : Ed) : Int := if (ixS d.l e.fr < 0 ∨ ixS d.l e.to < 0) ∨ (ixS d.l e.fr - ixS d.l e.to ≠ 1 ∧ ixS d.l e.to - ixS d.l e.fr ≠ 1) then 7 else 0
/-- The error before the lists are made. -/
noncomputable def apN (d : Dd) (e : Ed) : Int := if vaD d ≠ 0 then vaD d else if d.vn = 1099511627776 then 6 else if e.kd ≠ 1 ∧ e.kd ≠ 2 then 9 else if ¬ slotP d.F.length e.fr ∨ ¬ slotP d.F.length e.to then 4 else 0
/-- Apply's error. -/
noncomputable def apE (d : Dd) (e : Ed) : Int := if apN d e ≠ 0 then apN d e else if e.kd = 1 then spE d e else meE d e
/-- The spans behind a split at i, behind a merge of f and the next one. -/
def spL (l : List Sp) (i : Nat) (e : Ed) : List Sp := l.take i ++ ⟨(sg l i).lo, e.md, e.fr⟩ :: ⟨e.md + 1, (sg l i).hi, e.to⟩ :: l.drop (i + 1)
def meL (l : List Sp) (f : Nat) (e : Ed) : List Sp := l.take f ++ ⟨(sg l f).lo, (sg l (f + 1)).hi, e.to⟩ :: l.drop (f + 2)
def spD (d : Dd) (e : Ed) : Dd := ⟨d.vn + 1, spL d.l (ixS d.l e.fr).toNat e, d.F.set e.to.toNat (-1)⟩
def meD (d : Dd) (e : Ed) : Dd := ⟨d.vn + 1, meL d.l (min (ixS d.l e.fr) (ixS d.l e.to)).toNat e, d.F.set e.fr.toNat e.to⟩
/-- Apply's directory. -/
noncomputable def apD (d : Dd) (e : Ed) : Dd := if apE d e ≠ 0 then zD10 else if e.kd = 1 then spD d e else meD d e
section
variable {d : Dd} {e : Ed}
theorem apN_va (h : vaD d ≠ 0) : apN d e = vaD d := if_pos h
theorem apN_6 (h : vaD d = 0) (h1 : d.vn = 1099511627776) : apN d e = 6 := by unfold apN; rw [if_neg (by simpa using h), if_pos h1]
theorem apN_9 (h : vaD d = 0) (h1 : d.vn ≠ 1099511627776) (h2 : e.kd ≠ 1 ∧ e.kd ≠ 2) : apN d e = 9 := by unfold apN; rw [if_neg (by simpa using h), if_neg h1, if_pos h2]
theorem apN_4 (h : vaD d = 0) (h1 : d.vn ≠ 1099511627776) (h2 : e.kd = 1 ∨ e.kd = 2) (h3 : ¬ slotP d.F.length e.fr ∨ ¬ slotP d.F.length e.to) : apN d e = 4 := by unfold apN; rw [if_neg (by simpa using h), if_neg h1, if_neg (by omega), if_pos h3]
theorem apN_0 (h : vaD d = 0) (h1 : d.vn ≠ 1099511627776) (h2 : e.kd = 1 ∨ e.kd = 2) (h3 : slotP d.F.length e.fr) (h4 : slotP d.F.length e.to) : apN d e = 0 := by unfold apN; rw [if_neg (by simpa using h), if_neg h1, if_neg (by omega), if_neg (by rintro (h | h); exact h h3; exact h h4)]
theorem apN_ok (h : apN d e = 0) : vaD d = 0 ∧ d.vn ≠ 1099511627776 ∧ (e.kd = 1 ∨ e.kd = 2) ∧ slotP d.F.length e.fr ∧ slotP d.F.length e.to := by
  by_cases h0 : vaD d = 0
  · by_cases h1 : d.vn = 1099511627776
    · rw [apN_6 h0 h1] at h; exact absurd h (by decide)
    · by_cases h2 : e.kd = 1 ∨ e.kd = 2
      · by_cases h3 : ¬ slotP d.F.length e.fr ∨ ¬ slotP d.F.length e.to
        · rw [apN_4 h0 h1 h2 h3] at h; exact absurd h (by decide)
        · refine ⟨h0, h1, h2, ?_, ?_⟩
          · apply Classical.byContradiction; intro hc; exact h3 (.inl hc)
          · apply Classical.byContradiction; intro hc; exact h3 (.inr hc)
      · rw [apN_9 h0 h1 (by omega)] at h; exact absurd h (by decide)
  · rw [apN_va h0] at h; exact absurd h h0
theorem apE_N (h : apN d e ≠ 0) : apE d e = apN d e := if_pos h
theorem apE_1 (h : apN d e = 0) (h1 : e.kd = 1) : apE d e = spE d e := by unfold apE; rw [if_neg (by simpa using h), if_pos h1]
theorem apE_2 (h : apN d e = 0) (h1 : e.kd = 2) : apE d e = meE d e := by unfold apE; rw [if_neg (by simpa using h), if_neg (by omega)]
theorem apD_no (h : apE d e ≠ 0) : apD d e = zD10 := if_pos h
theorem apD_1 (h : apE d e = 0) (h1 : e.kd = 1) : apD d e = spD d e := by unfold apD; rw [if_neg (by simpa using h), if_pos h1]
theorem apD_2 (h : apE d e = 0) (h1 : e.kd = 2) : apD d e = meD d e := by unfold apD; rw [if_neg (by simpa using h), if_neg (by omega)]
theorem spE_7 (h : ixS d.l e.fr < 0 ∨ 0 ≤ ixS d.l e.to) : spE d e = 7 := if_pos h
theorem spE_1 (h : 0 ≤ ixS d.l e.fr) (h1 : ixS d.l e.to < 0) (h2 : ¬ ((sg d.l (ixS d.l e.fr).toNat).lo ≤ e.md ∧ e.md < (sg d.l (ixS d.l e.fr).toNat).hi)) : spE d e = 1 := by unfold spE; rw [if_neg (by omega), if_neg h2]
theorem spE_0 (h : 0 ≤ ixS d.l e.fr) (h1 : ixS d.l e.to < 0) (h2 : (sg d.l (ixS d.l e.fr).toNat).lo ≤ e.md ∧ e.md < (sg d.l (ixS d.l e.fr).toNat).hi) : spE d e = 0 := by unfold spE; rw [if_neg (by omega), if_pos h2]
theorem meE_7 (h : (ixS d.l e.fr < 0 ∨ ixS d.l e.to < 0) ∨ (ixS d.l e.fr - ixS d.l e.to ≠ 1 ∧ ixS d.l e.to - ixS d.l e.fr ≠ 1)) : meE d e = 7 := if_pos h
theorem meE_0 (h : 0 ≤ ixS d.l e.fr) (h1 : 0 ≤ ixS d.l e.to) (h2 : ixS d.l e.fr - ixS d.l e.to = 1 ∨ ixS d.l e.to - ixS d.l e.fr = 1) : meE d e = 0 := by unfold meE; rw [if_neg (by omega)]
end
end Go.Proofs.Ytkecnihgjepfeaa
