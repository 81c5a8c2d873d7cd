/- What is proved here: (plain functions) forwards of a directory, homes, owners, Validate's answer, Apply's answer; (plain) a slice that reads as a list of numbers; (plain) addresses and slices that lie from a block on. -/
import Derived.Test.YtdilgeabcacbdaaJ02
import Derived.Test.YtdilgeabcacbdaaJ01
import Derived.Below
namespace Go.Proofs.Ytdilgeabcacbdaa
open Go.RowKit
set_option linter.unusedVariables false

/-- Where k steps lead. -/
def fwD (F : List Int) : Nat → Int → Int
  | 0, a => a
  | k + 1, a => if a < 0 then a else fwD F k (ig F a.toNat)
theorem fwD_neg {F : List Int} {a : Int} (k : Nat) (h : a < 0) : fwD F k a = a := by
  cases k with
  | zero => rfl
  | succ k => rw [fwD, if_pos h]
theorem fwD_pos {F : List Int} {a : Int} (k : Nat) (h : 0 ≤ a) : fwD F (k + 1) a = fwD F k (ig F a.toNat) := by rw [fwD, if_neg (by omega)]
/-- What the program asks of a slot without a span. -/
def pvD (F : List Int) : Nat → Int → Bool
  | 0, _ => false
  | k + 1, s => if ig F s.toNat = -1 then true else if slotP F.length (ig F s.toNat) then pvD F k (ig F s.toNat) else false
theorem pvD_one {F : List Int} {k : Nat} {s : Int} (h : ig F s.toNat = -1) : pvD F (k + 1) s = true := by rw [pvD, if_pos h]
theorem pvD_no {F : List Int} {k : Nat} {s : Int} (h : ig F s.toNat ≠ -1) (h2 : ¬ slotP F.length (ig F s.toNat)) : pvD F (k + 1) s = false := by rw [pvD, if_neg h, if_neg h2]
theorem pvD_next {F : List Int} {k : Nat} {s : Int} (h : ig F s.toNat ≠ -1) (h2 : slotP F.length (ig F s.toNat)) : pvD F (k + 1) s = pvD F k (ig F s.toNat) := by rw [pvD, if_neg h, if_pos h2]
/-- Forward of a slot is as it must be, as the program asks. -/
def fvB (l : List Sp) (F : List Int) (s : Int) : Bool := if hasS l s then decide (ig F s.toNat = -1) else pvD F F.length s
/-- Forward of a slot is a slot or -1, and -1 if the slot has a span. -/
def f1D (l : List Sp) (F : List Int) (i : Nat) : Prop := (-1 ≤ ig F i ∧ ig F i < F.length) ∧ (hasS l (i : Int) → ig F i = -1)
/-- All forwards are as they must be, as the reference asks. -/
def foD (l : List Sp) (F : List Int) : Prop := (∀ i, i < F.length → f1D l F i) ∧ ∀ i : Nat, i < F.length → fwD F F.length (i : Int) < 0
open Classical in
noncomputable def foB (l : List Sp) (F : List Int) : Bool := decide (foD l F)
open Classical in
theorem foB_yes {l : List Sp} {F : List Int} (h : foD l F) : foB l F = true := decide_eq_true h
open Classical in
theorem foB_no {l : List Sp} {F : List Int} (h : ¬ foD l F) : foB l F = false := decide_eq_false h
theorem pv_fw {F : List Int} (hb : ∀ i, i < F.length → -1 ≤ ig F i ∧ ig F i < F.length) (k : Nat) (s : Int) (hs : slotP F.length s) : pvD F k s = true ↔ fwD F k s < 0 := by
  induction k generalizing s with
  | zero => simp only [pvD, fwD]; constructor <;> intro h <;> first | cases h | (have := hs.1; omega)
  | succ k ih =>
    rw [fwD_pos k hs.1]
    have h1 := hb s.toNat (by have := hs; omega)
    by_cases he : ig F s.toNat = -1
    · rw [pvD_one he, fwD_neg k (by omega)]
      exact ⟨fun _ => by omega, fun _ => rfl⟩
    · have h2 : slotP F.length (ig F s.toNat) := ⟨by omega, h1.2⟩
      rw [pvD_next he h2]
      exact ih _ h2
theorem fv_fo {l : List Sp} {F : List Int} : (∀ i : Nat, i < F.length → fvB l F (i : Int) = true) ↔ foD l F := by
  constructor
  · intro h
    have hb : ∀ i, i < F.length → f1D l F i := fun i hi => by
      have h1 := h i hi
      unfold fvB at h1
      by_cases hs : hasS l (i : Int)
      · rw [if_pos hs] at h1
        have h2 : ig F i = -1 := by simpa using h1
        exact ⟨⟨by omega, by omega⟩, fun _ => h2⟩
      · rw [if_neg hs] at h1
        obtain ⟨n, hn⟩ : ∃ n, F.length = n + 1 := ⟨F.length - 1, by omega⟩
        rw [hn] at h1
        by_cases he : ig F i = -1
        · exact ⟨⟨by omega, by omega⟩, fun _ => he⟩
        · by_cases h2 : slotP F.length (ig F ((i : Int)).toNat)
          · exact ⟨⟨by have := h2.1; simp at this; omega, by have := h2.2; simpa using this⟩, fun h3 => absurd h3 hs⟩
          · rw [pvD_no (by simpa using he) h2] at h1; cases h1
    refine ⟨hb, fun i hi => ?_⟩
    have h1 := h i hi
    unfold fvB at h1
    by_cases hs : hasS l (i : Int)
    · obtain ⟨n, hn⟩ : ∃ n, F.length = n + 1 := ⟨F.length - 1, by omega⟩
      have h2 := (hb i hi).2 hs
      rw [hn, fwD_pos _ (by omega)]
      rw [show ((i : Int)).toNat = i from rfl, h2, fwD_neg _ (by omega)]
      omega
    · rw [if_neg hs] at h1
      exact (pv_fw (fun j hj => (hb j hj).1) _ _ ⟨by omega, by omega⟩).1 h1
  · rintro ⟨hb, hf⟩ i hi
    unfold fvB
    by_cases hs : hasS l (i : Int)
    · rw [if_pos hs]
      have h2 := (hb i hi).2 hs
      simpa using h2
    · rw [if_neg hs]
      exact (pv_fw (fun j hj => (hb j hj).1) _ _ ⟨by omega, by omega⟩).2 (hf i hi)
theorem fv_no {l : List Sp} {F : List Int} {i : Nat} (hi : i < F.length) (h : fvB l F (i : Int) = false) : foB l F = false := foB_no fun hf => by
  have := fv_fo.2 hf i hi
  rw [h] at this; cases this
theorem fv_yes {l : List Sp} {F : List Int} (h : ∀ i : Nat, i < F.length → fvB l F (i : Int) = true) : foB l F = true := foB_yes (fv_fo.1 h)

/-- A directory. -/
structure Dd where
  vn : Int
  l : List Sp
  F : List Int
def zD : Dd := ⟨0, [], []⟩
def rgD (d : Dd) : Prop := (1 ≤ d.vn ∧ d.vn ≤ 1099511627776) ∧ 1 ≤ d.F.length ∧ d.F.length ≤ 6
instance (d : Dd) : Decidable (rgD d) := by unfold rgD; exact inferInstance
/-- Validate's answer. -/
noncomputable def vaD (d : Dd) : Int := if ¬ rgD d then 1 else if cvD 0 d.l = false then 7 else if msD d.F.length d.l = false then 4 else if duB d.l = true then 10 else if foB d.l d.F = false then 7 else 0
section
variable {d : Dd}
theorem vaD_1 (h : ¬ rgD d) : vaD d = 1 := if_pos h
theorem vaD_cv (h : rgD d) (h1 : cvD 0 d.l = false) : vaD d = 7 := by unfold vaD; rw [if_neg (not_not_intro h), if_pos h1]
theorem vaD_ms (h : rgD d) (h1 : cvD 0 d.l = true) (h2 : msD d.F.length d.l = false) : vaD d = 4 := by unfold vaD; rw [if_neg (not_not_intro h), if_neg (by simp [h1]), if_pos h2]
theorem vaD_du (h : rgD d) (h1 : cvD 0 d.l = true) (h2 : msD d.F.length d.l = true) (h3 : duB d.l = true) : vaD d = 10 := by unfold vaD; rw [if_neg (not_not_intro h), if_neg (by simp [h1]), if_neg (by simp [h2]), if_pos h3]
theorem vaD_fo (h : rgD d) (h1 : cvD 0 d.l = true) (h2 : msD d.F.length d.l = true) (h3 : duB d.l = false) (h4 : foB d.l d.F = false) : vaD d = 7 := by unfold vaD; rw [if_neg (not_not_intro h), if_neg (by simp [h1]), if_neg (by simp [h2]), if_neg (by simp [h3]), if_pos h4]
theorem vaD_ok (h : rgD d) (h1 : cvD 0 d.l = true) (h2 : msD d.F.length d.l = true) (h3 : duB d.l = false) (h4 : foB d.l d.F = true) : vaD d = 0 := by unfold vaD; rw [if_neg (not_not_intro h), if_neg (by simp [h1]), if_neg (by simp [h2]), if_neg (by simp [h3]), if_neg (by simp [h4])]
/-- A valid directory. -/
structure OkD (d : Dd) : Prop where
  rg : rgD d
  sp : ∀ k, k < d.l.length → spK d.l k
  en : nxD d.l d.l.length = 65536
  ms : ∀ k, k < d.l.length → slotP d.F.length (sg d.l k).sh
  du : ¬ duD d.l
  f1 : ∀ i, i < d.F.length → f1D d.l d.F i
  f2 : ∀ i : Nat, i < d.F.length → fwD d.F d.F.length (i : Int) < 0
theorem OkD.va (h : OkD d) : vaD d = 0 := vaD_ok h.rg ((cvD_iff _).2 ⟨h.sp, h.en⟩) (msD_iff.2 h.ms) (duB_no h.du) (foB_yes ⟨h.f1, h.f2⟩)
theorem ok_va (h : vaD d = 0) : OkD d := by
  by_cases h0 : rgD d
  · cases h1 : cvD 0 d.l with
    | false => rw [vaD_cv h0 h1] at h; exact absurd h (by decide)
    | true =>
      cases h2 : msD d.F.length d.l with
      | false => rw [vaD_ms h0 h1 h2] at h; exact absurd h (by decide)
      | true =>
        by_cases h3 : duD d.l
        · rw [vaD_du h0 h1 h2 (duB_yes h3)] at h; exact absurd h (by decide)
        · by_cases h4 : foD d.l d.F
          · exact ⟨h0, ((cvD_iff _).1 h1).1, ((cvD_iff _).1 h1).2, msD_iff.1 h2, h3, h4.1, h4.2⟩
          · rw [vaD_fo h0 h1 h2 (duB_no h3) (foB_no h4)] at h; exact absurd h (by decide)
  · rw [vaD_1 h0] at h; exact absurd h (by decide)
end

/-- The shard of the first span with a route, or -1. -/
def owN : List Sp → Int → Int
  | [], _ => -1
  | x :: l, r => if x.lo ≤ r ∧ r ≤ x.hi then x.sh else owN l r
theorem owN_none {l : List Sp} {r : Int} (h : ∀ j, j < l.length → ¬ ((sg l j).lo ≤ r ∧ r ≤ (sg l j).hi)) : owN l r = -1 := by
  induction l with
  | nil => rfl
  | cons x l ih =>
    rw [owN, if_neg (by have := h 0 (by simp); simpa [sg] using this)]
    exact ih fun j hj => by have := h (j + 1) (by simpa using hj); simpa [sg] using this
theorem owN_hit {l : List Sp} {r : Int} {i : Nat} (hi : i < l.length) (he : (sg l i).lo ≤ r ∧ r ≤ (sg l i).hi) (hn : ∀ j, j < i → ¬ ((sg l j).lo ≤ r ∧ r ≤ (sg l j).hi)) : owN l r = (sg l i).sh := by
  induction l generalizing i with
  | nil => simp at hi
  | cons x l ih =>
    cases i with
    | zero => rw [owN, if_pos (by simpa [sg] using he)]; simp [sg]
    | succ i =>
      rw [owN, if_neg (by have := hn 0 (by omega); simpa [sg] using this)]
      have := ih (i := i) (by simpa using hi) (by simpa [sg] using he) (fun j hj => by have := hn (j + 1) (by omega); simpa [sg] using this)
      simpa [sg] using this
/-- Owner's answer. -/
noncomputable def ownD (d : Dd) (r : Int) : Int := if vaD d = 0 then owN d.l r else -1
theorem ownD_ok {d : Dd} (h : vaD d = 0) (r : Int) : ownD d r = owN d.l r := if_pos h
theorem ownD_no {d : Dd} (h : vaD d ≠ 0) (r : Int) : ownD d r = -1 := if_neg h
/-- Span's answer. -/
noncomputable def spnD (d : Dd) (s : Int) : Sp := if vaD d = 0 ∧ 0 ≤ ixS d.l s then sg d.l (ixS d.l s).toNat else zSp
noncomputable def spnB (d : Dd) (s : Int) : Bool := decide (vaD d = 0 ∧ 0 ≤ ixS d.l s)
/-- Where the way from a slot leads within k steps. -/
def hmD (l : List Sp) (F : List Int) : Nat → Int → Int
  | 0, _ => -1
  | k + 1, s => if s < 0 then -1 else if hasS l s then s else hmD l F k (ig F s.toNat)
theorem hmD_neg {l : List Sp} {F : List Int} {k : Nat} {s : Int} (h : s < 0) : hmD l F k s = -1 := by
  cases k with
  | zero => rfl
  | succ k => rw [hmD, if_pos h]
theorem hmD_has {l : List Sp} {F : List Int} {k : Nat} {s : Int} (h0 : 0 ≤ s) (h : hasS l s) : hmD l F (k + 1) s = s := by rw [hmD, if_neg (by omega), if_pos h]
theorem hmD_next {l : List Sp} {F : List Int} {k : Nat} {s : Int} (h0 : 0 ≤ s) (h : ¬ hasS l s) : hmD l F (k + 1) s = hmD l F k (ig F s.toNat) := by rw [hmD, if_neg (by omega), if_neg h]
/-- Home's answer. -/
noncomputable def homD (d : Dd) (s : Int) : Int := if vaD d = 0 ∧ slotP d.F.length s then hmD d.l d.F (d.F.length + 1) s else -1
/-- The way of a slot in a valid directory: k steps are enough. -/
def HmI (d : Dd) (k : Nat) (s H : Int) : Prop := (-1 ≤ s ∧ s < d.F.length) ∧ fwD d.F k s < 0 ∧ hmD d.l d.F (k + 1) s = H
theorem HmI.start {d : Dd} (h : vaD d = 0) {s : Int} (hs : slotP d.F.length s) : HmI d d.F.length s (homD d s) := by
  have ho := ok_va h
  refine ⟨⟨by have := hs.1; omega, hs.2⟩, ?_, by unfold homD; rw [if_pos ⟨h, hs⟩]⟩
  have := ho.f2 s.toNat (by have := hs; omega)
  rwa [Int.toNat_of_nonneg hs.1] at this
theorem HmI.last {d : Dd} {k : Nat} {s H : Int} (h : HmI d k s H) (hs : s < 0) : s = -1 ∧ H = -1 := ⟨by have := h.1.1; omega, by rw [← h.2.2, hmD_neg hs]⟩
theorem HmI.hit {d : Dd} {k : Nat} {s H : Int} (h : HmI d k s H) (hs : 0 ≤ s) (hh : hasS d.l s) : H = s := by rw [← h.2.2, hmD_has hs hh]
theorem HmI.next {d : Dd} (ho : OkD d) {k : Nat} {s H : Int} (h : HmI d k s H) (hs : 0 ≤ s) (hh : ¬ hasS d.l s) : ∃ k', k = k' + 1 ∧ HmI d k' (ig d.F s.toNat) H := by
  cases k with
  | zero => have := h.2.1; simp only [fwD] at this; omega
  | succ k =>
    have h1 := ho.f1 s.toNat (by have := h.1.2; omega)
    refine ⟨k, rfl, h1.1, ?_, ?_⟩
    · have := h.2.1; rwa [fwD_pos k hs] at this
    · have := h.2.2; rwa [hmD_next hs hh] at this

/-- The steps of a way. -/
def stD (F : List Int) : Nat → Int → Nat
  | 0, _ => 0
  | k + 1, a => if a < 0 then 0 else stD F k (ig F a.toNat) + 1
theorem stD_neg {F : List Int} {k : Nat} {a : Int} (h : a < 0) : stD F k a = 0 := by
  cases k with
  | zero => rfl
  | succ k => rw [stD, if_pos h]
theorem stD_st {F : List Int} {k m : Nat} {a : Int} (h : fwD F k a < 0) (hm : k ≤ m) : stD F m a = stD F k a := by
  induction k generalizing m a with
  | zero =>
    have h' : a < 0 := h
    rw [stD_neg h', stD_neg h']
  | succ k ih =>
    by_cases ha : a < 0
    · rw [stD_neg ha, stD_neg ha]
    · obtain ⟨j, rfl⟩ : ∃ j, m = j + 1 := ⟨m - 1, by omega⟩
      rw [stD, stD, if_neg ha, if_neg ha, ih (by rwa [fwD_pos k (by omega)] at h) (by omega)]
theorem stD_next {F : List Int} {k n : Nat} {a : Int} (h0 : 0 ≤ a) (h : fwD F (k + 1) a < 0) (hn : k + 1 ≤ n) : stD F n (ig F a.toNat) < stD F n a := by
  obtain ⟨j, rfl⟩ : ∃ j, n = j + 1 := ⟨n - 1, by omega⟩
  have h1 : fwD F k (ig F a.toNat) < 0 := by rwa [fwD_pos k h0] at h
  rw [stD_st h1 (by omega : k ≤ j + 1)]
  show _ < stD F (j + 1) a
  rw [stD, if_neg (by omega), stD_st h1 (by omega : k ≤ j)]
  omega

/-- A change. -/
structure Ed where
  kd : Int
  fr : Int
  to : Int
  md : Int
/-- The error of a split, of a merge. -/
def spE (d : Dd) (e : Ed) : Int := if ixS d.l e.fr < 0 ∨ 0 ≤ ixS d.l e.to then 7 else if (sg d.l (ixS d.l e.fr).toNat).lo ≤ e.md ∧ e.md < (sg d.l (ixS d.l e.fr).toNat).hi then 0 else 1
def meE (d : Dd) (e : Ed) : Int := if (ixS d.l e.fr < 0 ∨ ixS d.l e.to < 0) ∨ (ixS d.l e.fr - ixS d.l e.to ≠ 1 ∧ ixS d.l e.to - ixS d.l e.fr ≠ 1) then 7 else 0
/-- The error before the lists are made. -/
noncomputable def apN (d : Dd) (e : Ed) : Int := if vaD d ≠ 0 then vaD d else if d.vn = 1099511627776 then 6 else if e.kd ≠ 1 ∧ e.kd ≠ 2 then 9 else if ¬ slotP d.F.length e.fr ∨ ¬ slotP d.F.length e.to then 4 else 0
/-- Apply's error. -/
noncomputable def apE (d : Dd) (e : Ed) : Int := if apN d e ≠ 0 then apN d e else if e.kd = 1 then spE d e else meE d e
/-- The spans behind a split at i, behind a merge of f and the next one. -/
def spL (l : List Sp) (i : Nat) (e : Ed) : List Sp := l.take i ++ ⟨(sg l i).lo, e.md, e.fr⟩ :: ⟨e.md + 1, (sg l i).hi, e.to⟩ :: l.drop (i + 1)
def meL (l : List Sp) (f : Nat) (e : Ed) : List Sp := l.take f ++ ⟨(sg l f).lo, (sg l (f + 1)).hi, e.to⟩ :: l.drop (f + 2)
def spD (d : Dd) (e : Ed) : Dd := ⟨d.vn + 1, spL d.l (ixS d.l e.fr).toNat e, d.F.set e.to.toNat (-1)⟩
def meD (d : Dd) (e : Ed) : Dd := ⟨d.vn + 1, meL d.l (min (ixS d.l e.fr) (ixS d.l e.to)).toNat e, d.F.set e.fr.toNat e.to⟩
/-- Apply's directory. -/
noncomputable def apD (d : Dd) (e : Ed) : Dd := if apE d e ≠ 0 then zD else if e.kd = 1 then spD d e else meD d e
section
variable {d : Dd} {e : Ed}
theorem apN_va (h : vaD d ≠ 0) : apN d e = vaD d := if_pos h
theorem apN_6 (h : vaD d = 0) (h1 : d.vn = 1099511627776) : apN d e = 6 := by unfold apN; rw [if_neg (by simpa using h), if_pos h1]
theorem apN_9 (h : vaD d = 0) (h1 : d.vn ≠ 1099511627776) (h2 : e.kd ≠ 1 ∧ e.kd ≠ 2) : apN d e = 9 := by unfold apN; rw [if_neg (by simpa using h), if_neg h1, if_pos h2]
theorem apN_4 (h : vaD d = 0) (h1 : d.vn ≠ 1099511627776) (h2 : e.kd = 1 ∨ e.kd = 2) (h3 : ¬ slotP d.F.length e.fr ∨ ¬ slotP d.F.length e.to) : apN d e = 4 := by unfold apN; rw [if_neg (by simpa using h), if_neg h1, if_neg (by omega), if_pos h3]
theorem apN_0 (h : vaD d = 0) (h1 : d.vn ≠ 1099511627776) (h2 : e.kd = 1 ∨ e.kd = 2) (h3 : slotP d.F.length e.fr) (h4 : slotP d.F.length e.to) : apN d e = 0 := by unfold apN; rw [if_neg (by simpa using h), if_neg h1, if_neg (by omega), if_neg (by rintro (h | h); exact h h3; exact h h4)]
theorem apN_ok (h : apN d e = 0) : vaD d = 0 ∧ d.vn ≠ 1099511627776 ∧ (e.kd = 1 ∨ e.kd = 2) ∧ slotP d.F.length e.fr ∧ slotP d.F.length e.to := by
  by_cases h0 : vaD d = 0
  · by_cases h1 : d.vn = 1099511627776
    · rw [apN_6 h0 h1] at h; exact absurd h (by decide)
    · by_cases h2 : e.kd = 1 ∨ e.kd = 2
      · by_cases h3 : ¬ slotP d.F.length e.fr ∨ ¬ slotP d.F.length e.to
        · rw [apN_4 h0 h1 h2 h3] at h; exact absurd h (by decide)
        · refine ⟨h0, h1, h2, ?_, ?_⟩
          · apply Classical.byContradiction; intro hc; exact h3 (.inl hc)
          · apply Classical.byContradiction; intro hc; exact h3 (.inr hc)
      · rw [apN_9 h0 h1 (by omega)] at h; exact absurd h (by decide)
  · rw [apN_va h0] at h; exact absurd h h0
theorem apE_N (h : apN d e ≠ 0) : apE d e = apN d e := if_pos h
theorem apE_1 (h : apN d e = 0) (h1 : e.kd = 1) : apE d e = spE d e := by unfold apE; rw [if_neg (by simpa using h), if_pos h1]
theorem apE_2 (h : apN d e = 0) (h1 : e.kd = 2) : apE d e = meE d e := by unfold apE; rw [if_neg (by simpa using h), if_neg (by omega)]
theorem apD_no (h : apE d e ≠ 0) : apD d e = zD := if_pos h
theorem apD_1 (h : apE d e = 0) (h1 : e.kd = 1) : apD d e = spD d e := by unfold apD; rw [if_neg (by simpa using h), if_pos h1]
theorem apD_2 (h : apE d e = 0) (h1 : e.kd = 2) : apD d e = meD d e := by unfold apD; rw [if_neg (by simpa using h), if_neg (by omega)]
theorem spE_7 (h : ixS d.l e.fr < 0 ∨ 0 ≤ ixS d.l e.to) : spE d e = 7 := if_pos h
theorem spE_1 (h : 0 ≤ ixS d.l e.fr) (h1 : ixS d.l e.to < 0) (h2 : ¬ ((sg d.l (ixS d.l e.fr).toNat).lo ≤ e.md ∧ e.md < (sg d.l (ixS d.l e.fr).toNat).hi)) : spE d e = 1 := by unfold spE; rw [if_neg (by omega), if_neg h2]
theorem spE_0 (h : 0 ≤ ixS d.l e.fr) (h1 : ixS d.l e.to < 0) (h2 : (sg d.l (ixS d.l e.fr).toNat).lo ≤ e.md ∧ e.md < (sg d.l (ixS d.l e.fr).toNat).hi) : spE d e = 0 := by unfold spE; rw [if_neg (by omega), if_pos h2]
theorem meE_7 (h : (ixS d.l e.fr < 0 ∨ ixS d.l e.to < 0) ∨ (ixS d.l e.fr - ixS d.l e.to ≠ 1 ∧ ixS d.l e.to - ixS d.l e.fr ≠ 1)) : meE d e = 7 := if_pos h
theorem meE_0 (h : 0 ≤ ixS d.l e.fr) (h1 : 0 ≤ ixS d.l e.to) (h2 : ixS d.l e.fr - ixS d.l e.to = 1 ∨ ixS d.l e.to - ixS d.l e.fr = 1) : meE d e = 0 := by unfold meE; rw [if_neg (by omega)]
end
end Go.Proofs.Ytdilgeabcacbdaa
namespace Go.Proofs.Ytdilgeabcacbdaa
open Go.RowKit
set_option linter.unusedVariables false

/-- A value that is a slice, reads as the numbers zs and lies below B. -/
def Ns (w : World) (B : Nat) (v : Value) (zs : List Int) : Prop := ∃ A c, v = .slice A zs.length c ∧ zs.length ≤ c ∧ c ≤ maxLen ∧ Rd w B 1 A zs.length (zs.map i64v) ∧ ∀ z ∈ zs, -9223372036854775808 ≤ z ∧ z ≤ 9223372036854775807

section
variable {w w' : World} {B B' : Nat} {v : Value} {zs : List Int}
theorem Ns.nil : Ns w B (.slice none 0 0) [] := ⟨none, 0, rfl, Nat.le_refl _, Nat.zero_le _, Rd.nil none, by simp⟩
theorem Ns.below (h : Ns w B v zs) (hb : Below B w w') : Ns w' B v zs := by
  obtain ⟨A, c, e, hl, hm, h, hz⟩ := h; exact ⟨A, c, e, hl, hm, h.below hb, hz⟩
theorem Ns.parts {A : Option Addr} {n c : Nat} (h : Ns w B (.slice A n c) zs) : n = zs.length ∧ n ≤ c ∧ c ≤ maxLen ∧ Rd w B 1 A n (zs.map i64v) ∧ ∀ z ∈ zs, -9223372036854775808 ≤ z ∧ z ≤ 9223372036854775807 := by
  obtain ⟨A', c', e, hl, hm, h, hz⟩ := h
  injection e with e1 e2 e3
  subst e1; subst e2; subst e3
  exact ⟨rfl, hl, hm, h, hz⟩
/-- From the way in which the guide opens a slice of numbers that came in. -/
theorem Ns.of_cells {a : Addr} {l c : Nat} {zs : List Int} (hl : l ≤ c) (hm : c ≤ maxLen) (hz : zs.length = c) (hc : ∀ i, i < zs.length → w.cell? (a.add i) = some (.int .i64 (zs.getD i 0))) (hw : ∀ n ∈ zs, (Lit.int .i64 n).wf = true) :
    ∃ ys, Ns w w.heap.size (.slice (some a) l c) ys := by
  have hlen : (zs.take l).length = l := by simp; omega
  refine ⟨zs.take l, some a, c, by rw [hlen], by omega, hm, ⟨by simp, fun hn => ?_⟩, fun z hz' => ?_⟩
  · rw [hlen] at hn
    obtain ⟨b, o, spot⟩ := a
    have h0 := hc 0 (by omega)
    have hspot : spot = none := by simpa [Addr.add] using World.cell?_spot h0
    subst hspot
    refine ⟨b, o, rfl, World.block_lt_of_cell? w ⟨b, o, none⟩ (by simpa [Addr.add] using h0), fun j u hu => ?_⟩
    simp only [List.getElem?_map, Option.map_eq_some_iff] at hu
    obtain ⟨x, hx, rfl⟩ := hu
    obtain ⟨hj, rfl⟩ := List.getElem?_eq_some_iff.1 hx
    have hj' : j < zs.length := by simp at hj; omega
    have h := hc j hj'
    rw [add_mk] at h
    rw [h]
    simp [i64v, List.getD, hj']
  · have := hw z (List.mem_of_mem_take hz')
    simp only [Lit.wf, Bool.and_eq_true, decide_eq_true_eq] at this
    exact this
end
end Go.Proofs.Ytdilgeabcacbdaa
namespace Go.Proofs.Ytdilgeabcacbdaa
open Go.RowKit
set_option linter.unusedVariables false

/-- An address lies from a block on. -/
def Nw (lo : Nat) (A : Option Addr) : Prop := ∀ a, A = some a → lo ≤ a.block
theorem nw_none {lo : Nat} : Nw lo none := fun a h => by cases h
theorem nw_some {lo b o : Nat} (h : lo ≤ b) : Nw lo (some ⟨b, o, none⟩) := fun a e => by injection e with e; subst e; exact h
theorem nw_low {lo lo' : Nat} {A : Option Addr} (h : Nw lo A) (hl : lo' ≤ lo) : Nw lo' A := fun a e => Nat.le_trans hl (h a e)
/-- A slice lies from a block on. -/
def NwV (lo : Nat) (v : Value) : Prop := ∀ A n c, v = .slice A n c → Nw lo A
theorem nwv_mk {lo n c : Nat} {A : Option Addr} (h : Nw lo A) : NwV lo (.slice A n c) := fun A' n' c' e => by injection e with e1 _ _; subst e1; exact h
theorem nwv_of {lo n c : Nat} {A : Option Addr} (h : NwV lo (.slice A n c)) : Nw lo A := h _ _ _ rfl
theorem nwv_low {lo lo' : Nat} {v : Value} (h : NwV lo v) (hl : lo' ≤ lo) : NwV lo' v := fun A n c e => nw_low (h A n c e) hl
theorem nwv_own {W : World} {base lo n size : Nat} {e : TypeId} {v : Value} {xs : List Value} (h : W.ownsRow base e size v n xs) (hl : lo ≤ base) : NwV lo v := by
  rcases h.2 with ⟨hv, _⟩ | ⟨g, cap, cur, hv, hg, _⟩
  · subst hv; exact nwv_mk nw_none
  · subst hv; exact nwv_mk (nw_some (by omega))
end Go.Proofs.Ytdilgeabcacbdaa
