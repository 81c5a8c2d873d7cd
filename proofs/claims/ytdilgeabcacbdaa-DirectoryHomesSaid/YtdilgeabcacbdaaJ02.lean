/- What is proved here: Raw, N, Range of the statements' base: what they return and what they turn; Pick of the statements' base picks one of the numbers; (plain functions) directories: spans, owners, homes, validity, splits and merges. -/
import Derived.Test.YtdilgeabcacbdaaJ01
import Derived.Deep.QuietTactic
import Derived.BigQuiet
import Derived.IntWalk
import Derived.Below
import Derived.WalkKit
namespace Go.Proofs.Ytdilgeabcacbdaa
open Go.RowKit
set_option linter.unusedVariables false

set_option maxHeartbeats 2000000 in
set_option maxRecDepth 20000 in
theorem raw_any (B g : Nat) (w : World) (h : SrcAt w B g) : Calls Try.prog 52 #[.pointer (some ⟨g, 0, none⟩)] w (SrInt B g (-9223372036854775808) 9223372036854775807 w) := by
  have H := Lib.hid h
  obtain ⟨hB, hg, A, n, c, k, zs, a1, a2, a3, a4, a5, a6, a7, a8, a9⟩ := h
  have HA := Lib.hid a8
  have HZ := Lib.hid a9
  have a2' : (n : Int) ≤ 4000 := by omega
  clear hB hg a2 a3 a4 a8 a9
  by_cases hk : k < n
  · have hk' : ¬ ((n : Int) ≤ (k : Int)) := by omega
    have hd : decide ((n : Int) ≤ (k : Int)) = false := decide_eq_false hk'
    obtain ⟨b, o, rfl, hb, hcell⟩ := HA.out.2 (by omega)
    have hzl : k < zs.length := by have := HA.out.1; simp at this; omega
    have hz := HZ.out zs[k] (List.getElem_mem hzl)
    have hcz := hcell k (i64v zs[k]) (by simp [hzl])
    unfold i64v at hcz
    generalize zs[k] = z at *
    have HZ2 := Lib.hid hz
    have hne1 : b ≠ g := by have := H.out.1; omega
    have hne2 : g ≠ b := fun e => hne1 e.symm
    have hk63 : (k : Int) < (n : Int) := by omega
    have hk0 : (0 : Int) ≤ (k : Int) := Int.natCast_nonneg _
    have hs : IntKind.i64.wrap ((k : Int) + 1 - 1) = k := by rw [IntWalk.i64_in _ (by omega)]; omega
    clear hcell hzl hz
    go_enter Try.func52, Try.ntmps52
    go_wp2
    go_quiet (fail)
    go_wp2
    go_quiet (fail)
    go_wp2
    go_ret
    exact ⟨z, rfl, HZ2.out.1, HZ2.out.2, ((H.out.drewN _).next a5 a6 (by omega)).drewN _, only_drewN (only_set (only_drewN (World.grownBy.refl _ _) _) (.inl rfl) _) _⟩
  · have hk' : (n : Int) ≤ (k : Int) := by omega
    have hd : decide ((n : Int) ≤ (k : Int)) = true := decide_eq_true hk'
    go_enter Try.func52, Try.ntmps52
    go_wp2
    go_quiet (fail)
    go_wp2
    go_ret
    exact ⟨0, rfl, by omega, by omega, H.out.drewN _, only_drewN (World.grownBy.refl _ _) _⟩

theorem tmod_gt (x n : Int) (h : 0 < n) : -n < x.tmod n := by
  have h1 := Int.tmod_lt_of_pos (-x) h
  rw [Int.neg_tmod] at h1
  omega

set_option maxHeartbeats 2000000 in
theorem n_any (B g : Nat) (w : World) (h : SrcAt w B g) (n : Int) (h1 : 1 ≤ n) (h2 : n ≤ 1073741824) : Calls Try.prog 27 #[.pointer (some ⟨g, 0, none⟩), .int .i64 n] w (SrInt B g 0 (n - 1) w) := by
  have HC := Lib.hid (raw_any B g w h)
  clear h
  go_enter Try.func27, Try.ntmps27
  go_wp2_with fail
  refine HC.out.mono ?_
  rintro e w1 ⟨x, rfl, hx1, hx2, hs, hg⟩
  have HS := Lib.hid hs
  have HG := Lib.hid hg
  have hr1 : x.tmod n < n := Int.tmod_lt_of_pos x (by omega)
  have hr2 : -n < x.tmod n := tmod_gt x n (by omega)
  clear hs hg
  by_cases hr : x.tmod n < 0
  · go_wp2
    go_ret
    exact ⟨x.tmod n + n, rfl, by omega, by omega, HS.out, HG.out⟩
  · go_wp2
    go_ret
    exact ⟨x.tmod n, rfl, by omega, by omega, HS.out, HG.out⟩

set_option maxHeartbeats 2000000 in
theorem range_any (B g : Nat) (w : World) (h : SrcAt w B g) (lo hi : Int) (h0 : 0 ≤ lo) (h1 : lo ≤ hi) (h2 : hi ≤ 1073741823) : Calls Try.prog 28 #[.pointer (some ⟨g, 0, none⟩), .int .i64 lo, .int .i64 hi] w (SrInt B g lo hi w) := by
  have HC := Lib.hid (n_any B g w h (hi - lo + 1) (by omega) (by omega))
  clear h
  go_enter Try.func28, Try.ntmps28
  go_wp2_with fail
  refine HC.out.mono ?_
  rintro e w1 ⟨x, rfl, hx1, hx2, hs, hg⟩
  have HS := Lib.hid hs
  have HG := Lib.hid hg
  clear hs hg
  go_wp2
  go_ret
  exact ⟨lo + x, rfl, by omega, by omega, HS.out, HG.out⟩
end Go.Proofs.Ytdilgeabcacbdaa
namespace Go.Proofs.Ytdilgeabcacbdaa
open Go.RowKit
set_option linter.unusedVariables false

/-- A number of a row, taken by a source. -/
def SrPick (B g : Nat) (zs : List Int) (w : World) (e : Ending) (w' : World) : Prop := ∃ x, e = .returned (.int .i64 x) ∧ x ∈ zs ∧ SrcAt w' B g ∧ w.grownBy w' (some g)

set_option maxHeartbeats 2000000 in
theorem pick_any (B g : Nat) (w : World) (h : SrcAt w B g) (b n : Nat) (zs : List Int) (hn : n = zs.length) (hb : b < w.heap.size) (hne : b ≠ g) (h1 : 1 ≤ n) (h2 : n ≤ 1000) (hc : ∀ j (hj : j < zs.length), w.cell? ⟨b, j, none⟩ = some (.int .i64 zs[j])) :
    Calls Try.prog 29 #[.pointer (some ⟨g, 0, none⟩), .slice (some ⟨b, 0, none⟩) n n] w (SrPick B g zs w) := by
  have HC := Lib.hid (n_any B g w h n (by omega) (by omega))
  have HR := Lib.hid hc
  have HN := Lib.hid hn
  have h2' : (n : Int) ≤ 1000 := by omega
  have HB := Lib.hid hb
  have HE := Lib.hid hne
  clear h hc hn h2 hb hne
  go_enter Try.func29, Try.ntmps29
  go_wp2_with fail
  refine HC.out.mono ?_
  rintro e w1 ⟨x, rfl, hx1, hx2, hs, hg⟩
  obtain ⟨k, rfl⟩ := Int.eq_ofNat_of_zero_le hx1
  have hkl : k < zs.length := by have := HN.out; omega
  have hcell := (hg.cell_far ⟨b, k, none⟩ HB.out (fun e => HE.out (by injection e))).trans (HR.out k hkl)
  have HM := Lib.hid (List.getElem_mem hkl)
  generalize zs[k] = z at *
  have hkn : k < n := by have := HN.out; omega
  have HS := Lib.hid hs
  have HG := Lib.hid hg
  clear hs hg hkl
  go_wp2
  go_ret
  exact ⟨z, rfl, HM.out, HS.out, HG.out⟩
end Go.Proofs.Ytdilgeabcacbdaa
namespace Go.Proofs.Ytdilgeabcacbdaa
open Go.RowKit
set_option linter.unusedVariables false

/-- A span of routes. -/
structure Sp where
  lo : Int
  hi : Int
  sh : Int
deriving DecidableEq
abbrev zSp : Sp := ⟨0, 0, 0⟩
/-- The element at a place. -/
def sg (l : List Sp) (k : Nat) : Sp := l.getD k zSp
theorem sg_get {l : List Sp} {k : Nat} (h : k < l.length) : sg l k = l[k] := by simp [sg, List.getD, h]
theorem sg_mem {l : List Sp} {k : Nat} (h : k < l.length) : sg l k ∈ l := by rw [sg_get h]; exact List.getElem_mem h
theorem sg_take {l : List Sp} {j k : Nat} (h : k < j) : sg (l.take j) k = sg l k := by simp [sg, List.getD, h]
/-- The number at a place. -/
def ig (F : List Int) (k : Nat) : Int := F.getD k 0
theorem ig_get {F : List Int} {k : Nat} (h : k < F.length) : ig F k = F[k] := by simp [ig, List.getD, h]
theorem ig_set {F : List Int} {k j : Nat} {x : Int} (h : k < F.length) : ig (F.set k x) j = if j = k then x else ig F j := by
  simp only [ig, List.getD, List.getElem?_set]
  by_cases e : k = j
  · subst e; simp [h]
  · rw [if_neg e, if_neg (fun e' => e e'.symm)]
/-- The index of the span of a slot, from k on. -/
def ixN : List Sp → Int → Nat → Int
  | [], _, _ => -1
  | x :: l, s, k => if x.sh = s then (k : Int) else ixN l s (k + 1)
/-- The index of the span of a slot, or -1. -/
def ixS (l : List Sp) (s : Int) : Int := ixN l s 0
theorem ixN_none {l : List Sp} {s : Int} (k : Nat) (h : ∀ x ∈ l, x.sh ≠ s) : ixN l s k = -1 := by
  induction l generalizing k with
  | nil => rfl
  | cons x l ih => rw [ixN, if_neg (h x (by simp))]; exact ih _ fun y hy => h y (by simp [hy])
theorem ixN_hit {l : List Sp} {s : Int} (k : Nat) {i : Nat} (hi : i < l.length) (he : l[i].sh = s) (hn : ∀ j (hj : j < i), l[j].sh ≠ s) : ixN l s k = (k + i : Nat) := by
  induction l generalizing k i with
  | nil => simp at hi
  | cons x l ih =>
    cases i with
    | zero => rw [ixN, if_pos (by simpa using he)]; rfl
    | succ i =>
      rw [ixN, if_neg (by simpa using hn 0 (by omega)), ih (k + 1) (by simpa using hi) (by simpa using he) (fun j hj => by simpa using hn (j + 1) (by omega))]
      congr 1; omega
theorem ixS_none {l : List Sp} {s : Int} (h : ∀ j, j < l.length → (sg l j).sh ≠ s) : ixS l s = -1 := ixN_none 0 fun x hx => by
  obtain ⟨j, hj, rfl⟩ := List.getElem_of_mem hx
  have := h j hj
  rwa [sg_get hj] at this
theorem ixS_hit {l : List Sp} {s : Int} {i : Nat} (hi : i < l.length) (he : (sg l i).sh = s) (hn : ∀ j, j < i → (sg l j).sh ≠ s) : ixS l s = (i : Int) := by
  have := ixN_hit (l := l) (s := s) 0 hi (by rwa [sg_get hi] at he) (fun j hj => by have := hn j hj; rwa [sg_get (by omega)] at this)
  rwa [Nat.zero_add] at this
/-- Either there is no span of the slot, or the index is the first one. -/
theorem ixS_cases (l : List Sp) (s : Int) : (ixS l s = -1 ∧ ∀ j, j < l.length → (sg l j).sh ≠ s) ∨ ∃ i : Nat, ixS l s = (i : Int) ∧ i < l.length ∧ (sg l i).sh = s ∧ ∀ j, j < i → (sg l j).sh ≠ s := by
  by_cases h : ∀ j, j < l.length → (sg l j).sh ≠ s
  · exact .inl ⟨ixS_none h, h⟩
  · have h' : ∃ j, j < l.length ∧ (sg l j).sh = s := by
      apply Classical.byContradiction
      intro hn
      exact h fun j hj e => hn ⟨j, hj, e⟩
    have h2 : ∃ i, (i < l.length ∧ (sg l i).sh = s) ∧ ∀ j, j < i → ¬ (j < l.length ∧ (sg l j).sh = s) := by
      obtain ⟨j, hj⟩ := h'
      induction j using Nat.strongRecOn with
      | _ j ih =>
        by_cases hm : ∃ m, m < j ∧ (m < l.length ∧ (sg l m).sh = s)
        · obtain ⟨m, hm1, hm2⟩ := hm
          exact ih m hm1 hm2
        · exact ⟨j, hj, fun m hm1 hm2 => hm ⟨m, hm1, hm2⟩⟩
    obtain ⟨i, ⟨hi, he⟩, hn⟩ := h2
    exact .inr ⟨i, ixS_hit hi he (fun j hj e => hn j hj ⟨by omega, e⟩), hi, he, fun j hj e => hn j hj ⟨by omega, e⟩⟩
theorem ixS_neg {l : List Sp} {s : Int} (h : ¬ 0 ≤ ixS l s) : ixS l s = -1 ∧ ∀ j, j < l.length → (sg l j).sh ≠ s := by
  rcases ixS_cases l s with h1 | ⟨i, h1, _⟩
  · exact h1
  · omega
theorem ixS_pos {l : List Sp} {s : Int} (h : 0 ≤ ixS l s) : ∃ i : Nat, ixS l s = (i : Int) ∧ i < l.length ∧ (sg l i).sh = s ∧ ∀ j, j < i → (sg l j).sh ≠ s := by
  rcases ixS_cases l s with h1 | h1
  · omega
  · exact h1
theorem ixS_ge (l : List Sp) (s : Int) : -1 ≤ ixS l s ∧ ixS l s < l.length := by
  rcases ixS_cases l s with h1 | ⟨i, h1, h2, _⟩ <;> omega
/-- There is a span of the slot. -/
abbrev hasS (l : List Sp) (s : Int) : Prop := 0 ≤ ixS l s
theorem hasS_iff {l : List Sp} {s : Int} : hasS l s ↔ ∃ x ∈ l, x.sh = s := by
  constructor
  · intro h
    obtain ⟨i, _, hi, he, _⟩ := ixS_pos h
    exact ⟨_, sg_mem hi, he⟩
  · rintro ⟨x, hx, e⟩
    apply Classical.byContradiction
    intro h
    obtain ⟨j, hj, rfl⟩ := List.getElem_of_mem hx
    have := (ixS_neg h).2 j hj
    rw [sg_get hj] at this
    exact this e

/-- The spans follow each other from n on, to the last route. -/
def cvD : Int → List Sp → Bool
  | n, [] => decide (n = 65536)
  | n, x :: l => decide (x.lo = n) && (decide (x.lo ≤ x.hi) && (decide (x.hi ≤ 65535) && cvD (x.hi + 1) l))
/-- Where the next span must begin behind k spans. -/
def nxD (l : List Sp) (k : Nat) : Int := if k = 0 then 0 else (sg l (k - 1)).hi + 1
theorem nxD_zero (l : List Sp) : nxD l 0 = 0 := if_pos rfl
theorem nxD_succ (l : List Sp) (k : Nat) : nxD l (k + 1) = (sg l k).hi + 1 := by unfold nxD; rw [if_neg (by omega), Nat.add_sub_cancel]
/-- The span at k is as it must be. -/
def spK (l : List Sp) (k : Nat) : Prop := (sg l k).lo = nxD l k ∧ (sg l k).lo ≤ (sg l k).hi ∧ (sg l k).hi ≤ 65535
theorem cvD_gen (n : Int) (l : List Sp) : cvD n l = true ↔ (∀ k, k < l.length → (sg l k).lo = (if k = 0 then n else (sg l (k - 1)).hi + 1) ∧ (sg l k).lo ≤ (sg l k).hi ∧ (sg l k).hi ≤ 65535) ∧ (if l.length = 0 then n else (sg l (l.length - 1)).hi + 1) = 65536 := by
  induction l generalizing n with
  | nil => simp [cvD]
  | cons x l ih =>
    simp only [cvD, Bool.and_eq_true, decide_eq_true_eq, ih]
    constructor
    · rintro ⟨h1, h2, h3, h4, h5⟩
      refine ⟨fun k hk => ?_, ?_⟩
      · cases k with
        | zero => simpa [sg] using ⟨h1, h2, h3⟩
        | succ k =>
          have := h4 k (by simpa using hk)
          cases k with
          | zero => simpa [sg] using this
          | succ k => simpa [sg] using this
      · cases l with
        | nil => simpa [sg] using h5
        | cons y l => simpa [sg] using h5
    · rintro ⟨h1, h2⟩
      have h0 := h1 0 (by simp)
      simp [sg] at h0
      refine ⟨h0.1, h0.2.1, h0.2.2, fun k hk => ?_, ?_⟩
      · have := h1 (k + 1) (by simpa using hk)
        cases k with
        | zero => simpa [sg] using this
        | succ k => simpa [sg] using this
      · cases l with
        | nil => simpa [sg] using h2
        | cons y l => simpa [sg] using h2
theorem cvD_iff (l : List Sp) : cvD 0 l = true ↔ (∀ k, k < l.length → spK l k) ∧ nxD l l.length = 65536 := by
  rw [cvD_gen]
  rfl
theorem cvD_no {l : List Sp} {k : Nat} (hk : k < l.length) (h : ¬ spK l k) : cvD 0 l = false := by
  cases e : cvD 0 l with
  | false => rfl
  | true => exact absurd (((cvD_iff l).1 e).1 k hk) h
theorem cvD_end {l : List Sp} (h : ∀ k, k < l.length → spK l k) : cvD 0 l = decide (nxD l l.length = 65536) := by
  cases e : cvD 0 l with
  | true => exact (decide_eq_true ((cvD_iff l).1 e).2).symm
  | false =>
    symm
    apply decide_eq_false
    intro h2
    rw [(cvD_iff l).2 ⟨h, h2⟩] at e
    cases e

/-- A number is a slot. -/
abbrev slotP (n : Nat) (s : Int) : Prop := 0 ≤ s ∧ s < n
/-- All shards are slots. -/
def msD (n : Nat) (l : List Sp) : Bool := l.all fun x => decide (slotP n x.sh)
theorem msD_iff {n : Nat} {l : List Sp} : msD n l = true ↔ ∀ k, k < l.length → slotP n (sg l k).sh := by
  simp only [msD, List.all_eq_true, decide_eq_true_eq]
  constructor
  · intro h k hk; exact h _ (sg_mem hk)
  · intro h x hx
    obtain ⟨k, hk, rfl⟩ := List.getElem_of_mem hx
    have := h k hk
    rwa [sg_get hk] at this
theorem msD_no {n : Nat} {l : List Sp} {k : Nat} (hk : k < l.length) (h : ¬ slotP n (sg l k).sh) : msD n l = false := by
  cases e : msD n l with
  | false => rfl
  | true => exact absurd (msD_iff.1 e k hk) h
/-- Two spans have the same shard. -/
def duD (l : List Sp) : Prop := ∃ i j, i < j ∧ j < l.length ∧ (sg l i).sh = (sg l j).sh
open Classical in
noncomputable def duB (l : List Sp) : Bool := decide (duD l)
open Classical in
theorem duB_yes {l : List Sp} (h : duD l) : duB l = true := decide_eq_true h
open Classical in
theorem duB_no {l : List Sp} (h : ¬ duD l) : duB l = false := decide_eq_false h
theorem ixS_take {l : List Sp} {k : Nat} {s : Int} (hk : k ≤ l.length) : 0 ≤ ixS (l.take k) s ↔ ∃ i, i < k ∧ (sg l i).sh = s := by
  constructor
  · intro h
    obtain ⟨i, _, hi, he, _⟩ := ixS_pos h
    have hik : i < k := by simp at hi; omega
    exact ⟨i, hik, by rwa [sg_take hik] at he⟩
  · rintro ⟨i, hi, he⟩
    exact hasS_iff.2 ⟨sg (l.take k) i, sg_mem (by simp; omega), by rwa [sg_take hi]⟩
theorem du_take {l : List Sp} {k : Nat} (hk : k < l.length) (h : 0 ≤ ixS (l.take k) (sg l k).sh) : duD l := by
  obtain ⟨i, hi, he⟩ := (ixS_take (by omega)).1 h
  exact ⟨i, k, hi, hk, he⟩
theorem du_not {l : List Sp} (h : ∀ k, k < l.length → ¬ 0 ≤ ixS (l.take k) (sg l k).sh) : ¬ duD l := by
  rintro ⟨i, j, hij, hj, e⟩
  exact h j hj ((ixS_take (by omega)).2 ⟨i, hij, e⟩)
end Go.Proofs.Ytdilgeabcacbdaa
