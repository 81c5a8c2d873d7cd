/- What is proved here: (plain) rings of messages: their order, their first error, and what changes of them give; Kd; Kb. -/
import Derived.Test.YtbeafcjbldnkhaaJ04
namespace Go.Proofs.Ytbeafcjbldnkhaa
open Go.RowKit
set_option linter.unusedVariables false

/-- A ring. -/
structure Rg where
  cs : List Msg
  hd : Int
  sz : Int

/-- The numbers of a ring are in their ranges. -/
def nmB (n : Nat) (hd sz : Int) : Bool := wi n 1 12 && (wi hd 0 ((n : Int) - 1) && wi sz 0 n)
theorem nm_of {n : Nat} {hd sz : Int} (h : nmB n hd sz = true) : (1 ≤ n ∧ n ≤ 12) ∧ (0 ≤ hd ∧ hd < n) ∧ (0 ≤ sz ∧ sz ≤ n) := by
  unfold nmB at h
  simp only [Bool.and_eq_true] at h
  have h0 := wi_of h.1
  have h1 := wi_of h.2.1
  have h2 := wi_of h.2.2
  omega
theorem nm_mk {n : Nat} {hd sz : Int} (h : (1 ≤ n ∧ n ≤ 12) ∧ (0 ≤ hd ∧ hd < n) ∧ (0 ≤ sz ∧ sz ≤ n)) : nmB n hd sz = true := by
  unfold nmB
  rw [wi_true (by omega) (by omega), wi_true (by omega) (by omega), wi_true (by omega) (by omega)]
  rfl

/-- The k-th cell from the head on. -/
def cel (cs : List Msg) (hd : Nat) (k : Nat) : Msg := cs.getD ((hd + k) % cs.length) zM
/-- The messages in order. -/
def ord (cs : List Msg) (hd sz : Nat) : List Msg := (List.range sz).map (cel cs hd)
theorem ord_len (cs : List Msg) (hd sz : Nat) : (ord cs hd sz).length = sz := by simp [ord]
theorem ord_at (cs : List Msg) (hd sz k : Nat) (h : k < (ord cs hd sz).length) : (ord cs hd sz)[k] = cel cs hd k := by simp [ord]

/-- The first error of messages. -/
def fe : List Msg → Int
  | [] => 0
  | M :: l => if vf M = 0 then fe l else vf M
theorem fe_all {l : List Msg} (h : ∀ M ∈ l, vf M = 0) : fe l = 0 := by
  induction l with
  | nil => rfl
  | cons M l ih => rw [fe, if_pos (h M (by simp)), ih (fun N hN => h N (by simp [hN]))]
theorem fe_hit {l : List Msg} {k : Nat} (hk : k < l.length) (hn : ∀ j (hj : j < l.length), j < k → vf l[j] = 0) (h : vf l[k] ≠ 0) : fe l = vf l[k] := by
  induction l generalizing k with
  | nil => simp at hk
  | cons M l ih =>
    cases k with
    | zero => rw [fe, if_neg (by simpa using h)]; rfl
    | succ k =>
      rw [fe, if_pos (show vf M = 0 from hn 0 (by simp) (by omega))]
      exact ih (by simpa using hk) (fun j hj hlt => hn (j + 1) (by simpa using hj) (by omega)) (by simpa using h)
theorem fe_zero {l : List Msg} (h : fe l = 0) : ∀ M ∈ l, vf M = 0 := by
  induction l with
  | nil => simp
  | cons M l ih =>
    rw [fe] at h
    by_cases e : vf M = 0
    · rw [if_pos e] at h
      intro N hN
      rcases List.mem_cons.1 hN with rfl | hN
      · exact e
      · exact ih h N hN
    · rw [if_neg e] at h; exact absurd h e

/-- Two messages have the same ID. -/
def dupP (l : List Msg) : Prop := ∃ (i j : Nat) (hi : i < l.length) (hj : j < l.length), i < j ∧ l[i].id = l[j].id

open Classical in
/-- The first error of a ring. -/
noncomputable def rgV (cs : List Msg) (hd sz : Int) : Int :=
  if nmB cs.length hd sz = false then 1
  else if ¬ (∀ k, sz.toNat ≤ k → k < cs.length → cel cs hd.toNat k = zM) then 7
  else if fe (ord cs hd.toNat sz.toNat) ≠ 0 then fe (ord cs hd.toNat sz.toNat)
  else if dupP (ord cs hd.toNat sz.toNat) then 10 else 0

section
variable {cs : List Msg} {hd sz : Int}
theorem rgV_num (h : nmB cs.length hd sz = false) : rgV cs hd sz = 1 := if_pos h
theorem rgV_free (h : nmB cs.length hd sz = true) (h1 : ¬ (∀ k, sz.toNat ≤ k → k < cs.length → cel cs hd.toNat k = zM)) : rgV cs hd sz = 7 := by
  unfold rgV; rw [if_neg (by simp [h]), if_pos h1]
theorem rgV_msg (h : nmB cs.length hd sz = true) (h1 : ∀ k, sz.toNat ≤ k → k < cs.length → cel cs hd.toNat k = zM) (h2 : fe (ord cs hd.toNat sz.toNat) ≠ 0) : rgV cs hd sz = fe (ord cs hd.toNat sz.toNat) := by
  unfold rgV; rw [if_neg (by simp [h]), if_neg (by simpa using h1), if_pos h2]
theorem rgV_dup (h : nmB cs.length hd sz = true) (h1 : ∀ k, sz.toNat ≤ k → k < cs.length → cel cs hd.toNat k = zM) (h2 : fe (ord cs hd.toNat sz.toNat) = 0) (h3 : dupP (ord cs hd.toNat sz.toNat)) : rgV cs hd sz = 10 := by
  unfold rgV; rw [if_neg (by simp [h]), if_neg (by simpa using h1), if_neg (by simp [h2]), if_pos h3]
theorem rgV_ok (h : nmB cs.length hd sz = true) (h1 : ∀ k, sz.toNat ≤ k → k < cs.length → cel cs hd.toNat k = zM) (h2 : fe (ord cs hd.toNat sz.toNat) = 0) (h3 : ¬ dupP (ord cs hd.toNat sz.toNat)) : rgV cs hd sz = 0 := by
  unfold rgV; rw [if_neg (by simp [h]), if_neg (by simpa using h1), if_neg (by simp [h2]), if_neg h3]
theorem fe_012 (l : List Msg) : fe l = 0 ∨ fe l = 1 ∨ fe l = 2 := by
  induction l with
  | nil => exact .inl rfl
  | cons M l ih =>
    rw [fe]
    split
    · exact ih
    · exact vf_012 M
theorem rgV_zero (h : rgV cs hd sz = 0) : nmB cs.length hd sz = true ∧ (∀ k, sz.toNat ≤ k → k < cs.length → cel cs hd.toNat k = zM) ∧ fe (ord cs hd.toNat sz.toNat) = 0 ∧ ¬ dupP (ord cs hd.toNat sz.toNat) := by
  cases h0 : nmB cs.length hd sz with
  | false => rw [rgV_num h0] at h; exact absurd h (by decide)
  | true =>
    by_cases h1 : ∀ k, sz.toNat ≤ k → k < cs.length → cel cs hd.toNat k = zM
    · by_cases h2 : fe (ord cs hd.toNat sz.toNat) = 0
      · by_cases h3 : dupP (ord cs hd.toNat sz.toNat)
        · rw [rgV_dup h0 h1 h2 h3] at h; exact absurd h (by decide)
        · exact ⟨rfl, h1, h2, h3⟩
      · rw [rgV_msg h0 h1 h2] at h; exact absurd h h2
    · rw [rgV_free h0 h1] at h; exact absurd h (by decide)
end

/-- The cells of a ring with a head and messages. -/
def fil (n hd : Nat) (l : List Msg) : List Msg := (List.range n).map fun j => l.getD ((j + n - hd) % n) zM
theorem fil_len (n hd : Nat) (l : List Msg) : (fil n hd l).length = n := by simp [fil]
theorem cel_fil {n hd k : Nat} (l : List Msg) (hh : hd < n) (hk : k < n) : cel (fil n hd l) hd k = l.getD k zM := by
  unfold cel
  rw [fil_len]
  have hm : (hd + k) % n < n := Nat.mod_lt _ (by omega)
  have e : ((hd + k) % n + n - hd) % n = k := by
    rcases Nat.lt_or_ge (hd + k) n with h | h
    · rw [Nat.mod_eq_of_lt h, show hd + k + n - hd = k + n by omega, Nat.add_mod_right, Nat.mod_eq_of_lt hk]
    · rw [Nat.mod_eq_sub_mod h, Nat.mod_eq_of_lt (show hd + k - n < n by omega), show hd + k - n + n - hd = k by omega, Nat.mod_eq_of_lt hk]
  simp [fil, List.getD, hm, e]
theorem ord_fil {n hd : Nat} (l : List Msg) (hh : hd < n) (hl : l.length ≤ n) : ord (fil n hd l) hd l.length = l := by
  apply List.ext_getElem
  · rw [ord_len]
  · intro k h1 h2
    rw [ord_at, cel_fil l hh (by omega)]
    simp [List.getD, h2]
/-- Two lists of cells are alike if they are alike from a head on. -/
theorem cel_ext {cs ds : List Msg} {hd : Nat} (hl : cs.length = ds.length) (hh : hd < cs.length) (h : ∀ k, k < cs.length → cel cs hd k = cel ds hd k) : cs = ds := by
  apply List.ext_getElem hl
  intro j h1 h2
  have g := h ((j + cs.length - hd) % cs.length) (Nat.mod_lt _ (by omega))
  have e : (hd + (j + cs.length - hd) % cs.length) % cs.length = j := by
    rcases Nat.lt_or_ge j hd with hj | hj
    · rw [Nat.mod_eq_of_lt (show j + cs.length - hd < cs.length by omega), show hd + (j + cs.length - hd) = j + cs.length by omega, Nat.add_mod_right, Nat.mod_eq_of_lt h1]
    · rw [show j + cs.length - hd = (j - hd) + cs.length by omega, Nat.add_mod_right, Nat.mod_eq_of_lt (show j - hd < cs.length by omega), show hd + (j - hd) = j by omega, Nat.mod_eq_of_lt h1]
  unfold cel at g
  rw [← hl, e] at g
  simpa [List.getD, h1, h2] using g
/-- A ring whose free cells are zero is filled with its order. -/
theorem fil_ord {cs : List Msg} {hd sz : Nat} (hh : hd < cs.length) (hz : ∀ k, sz ≤ k → k < cs.length → cel cs hd k = zM) : fil cs.length hd (ord cs hd sz) = cs := by
  refine cel_ext (hd := hd) (fil_len _ _ _) (by rw [fil_len]; exact hh) fun k hk => ?_
  rw [fil_len] at hk
  rw [cel_fil _ hh hk]
  by_cases h : k < sz
  · simp [List.getD, ord, h]
  · rw [hz k (by omega) hk]
    simp [List.getD, ord, h]
end Go.Proofs.Ytbeafcjbldnkhaa
/- Plain: dead-letter stores: their first errors, and what Put, Take and Clean give. -/
namespace Go.Proofs.Ytbeafcjbldnkhaa
open Go.RowKit
set_option linter.unusedVariables false

open Classical in
/-- Two messages have the same ID. -/
noncomputable def dp8 (l : List Msg) : Bool := decide (dupP l)
open Classical in
theorem dp8_yes {l : List Msg} (h : dupP l) : dp8 l = true := decide_eq_true h
open Classical in
theorem dp8_no {l : List Msg} (h : ¬ dupP l) : dp8 l = false := decide_eq_false h
open Classical in
theorem dp8_of {l : List Msg} (h : dp8 l = true) : dupP l := of_decide_eq_true h
open Classical in
theorem dp8_not {l : List Msg} (h : dp8 l = false) : ¬ dupP l := of_decide_eq_false h
/-- The first error of messages: each one's own, then that of an ID that occurs twice. -/
noncomputable def so8 (l : List Msg) : Int := if fe l ≠ 0 then fe l else if dp8 l = true then 10 else 0
theorem so8_fe {l : List Msg} (h : fe l ≠ 0) : so8 l = fe l := if_pos h
theorem so8_dup {l : List Msg} (h : fe l = 0) (h1 : dupP l) : so8 l = 10 := by unfold so8; rw [if_neg (fun g => g h), if_pos (dp8_yes h1)]
theorem so8_ok {l : List Msg} (h : fe l = 0) (h1 : ¬ dupP l) : so8 l = 0 := by unfold so8; rw [if_neg (fun g => g h), if_neg (by rw [dp8_no h1]; decide)]
theorem so8_zero {l : List Msg} (h : so8 l = 0) : fe l = 0 ∧ ¬ dupP l := by
  unfold so8 at h
  by_cases h0 : fe l = 0
  · rw [if_neg (fun g => g h0)] at h
    refine ⟨h0, fun h1 => ?_⟩
    rw [if_pos (dp8_yes h1)] at h
    cases h
  · rw [if_pos h0] at h; exact absurd h h0
/-- The first error of a store. -/
noncomputable def va8 (cap : Int) (l : List Msg) : Int := if wi cap 1 24 = false then 1 else if cap < l.length then 2 else so8 l
theorem va8_cap {cap : Int} {l : List Msg} (h : wi cap 1 24 = false) : va8 cap l = 1 := if_pos h
theorem va8_long {cap : Int} {l : List Msg} (h : wi cap 1 24 = true) (h1 : cap < l.length) : va8 cap l = 2 := by unfold va8; rw [if_neg (by rw [h]; decide), if_pos h1]
theorem va8_so {cap : Int} {l : List Msg} (h : wi cap 1 24 = true) (h1 : ¬ cap < l.length) : va8 cap l = so8 l := by unfold va8; rw [if_neg (by rw [h]; decide), if_neg h1]
theorem va8_zero {cap : Int} {l : List Msg} (h : va8 cap l = 0) : wi cap 1 24 = true ∧ (l.length : Int) ≤ cap ∧ so8 l = 0 := by
  unfold va8 at h
  cases h0 : wi cap 1 24 with
  | false => rw [if_pos h0] at h; cases h
  | true =>
    rw [if_neg (by rw [h0]; decide)] at h
    by_cases h1 : cap < l.length
    · rw [if_pos h1] at h; cases h
    · rw [if_neg h1] at h; exact ⟨rfl, by omega, h⟩
/-- How many messages fit. -/
noncomputable def ro8 (cap : Int) (l : List Msg) : Int := if va8 cap l = 0 then cap - l.length else 0
/-- The first error of a store and an epoch. -/
noncomputable def ex8 (cap : Int) (l : List Msg) (ep : Int) : Int := if va8 cap l ≠ 0 then va8 cap l else if wi ep 0 65536 = false then 1 else 0
/-- The first error of Take. -/
noncomputable def tk8 (cap : Int) (l : List Msg) (k ep : Int) : Int := if ex8 cap l ep ≠ 0 then ex8 cap l ep else if k < 0 then 1 else 0
/-- The first error of Put. -/
noncomputable def pu8 (cap : Int) (l x : List Msg) : Int := if va8 cap l ≠ 0 then va8 cap l else if cap - l.length < x.length then 3 else so8 (l ++ x)
theorem pu8_va {cap : Int} {l x : List Msg} (h : va8 cap l ≠ 0) : pu8 cap l x = va8 cap l := if_pos h
theorem pu8_full {cap : Int} {l x : List Msg} (h : va8 cap l = 0) (h1 : cap - l.length < x.length) : pu8 cap l x = 3 := by unfold pu8; rw [if_neg (fun g => g h), if_pos h1]
theorem pu8_so {cap : Int} {l x : List Msg} (h : va8 cap l = 0) (h1 : ¬ cap - l.length < x.length) : pu8 cap l x = so8 (l ++ x) := by unfold pu8; rw [if_neg (fun g => g h), if_neg h1]
theorem va8_all {cap : Int} {l x : List Msg} (h : va8 cap l = 0) (h1 : ¬ cap - l.length < x.length) : va8 cap (l ++ x) = so8 (l ++ x) := by
  obtain ⟨h2, h3, h4⟩ := va8_zero h
  exact va8_so h2 (by rw [List.length_append]; omega)
theorem ex8_va {cap : Int} {l : List Msg} {ep : Int} (h : va8 cap l ≠ 0) : ex8 cap l ep = va8 cap l := if_pos h
theorem ex8_ep {cap : Int} {l : List Msg} {ep : Int} (h : va8 cap l = 0) (h1 : wi ep 0 65536 = false) : ex8 cap l ep = 1 := by unfold ex8; rw [if_neg (fun g => g h), if_pos h1]
theorem ex8_ok {cap : Int} {l : List Msg} {ep : Int} (h : va8 cap l = 0) (h1 : wi ep 0 65536 = true) : ex8 cap l ep = 0 := by unfold ex8; rw [if_neg (fun g => g h), if_neg (by rw [h1]; decide)]
theorem ex8_zero {cap : Int} {l : List Msg} {ep : Int} (h : ex8 cap l ep = 0) : va8 cap l = 0 ∧ wi ep 0 65536 = true := by
  unfold ex8 at h
  by_cases h0 : va8 cap l = 0
  · rw [if_neg (fun g => g h0)] at h
    cases h1 : wi ep 0 65536 with
    | false => rw [if_pos h1] at h; cases h
    | true => exact ⟨h0, rfl⟩
  · rw [if_pos h0] at h; exact absurd h h0
theorem tk8_ex {cap : Int} {l : List Msg} {k ep : Int} (h : ex8 cap l ep ≠ 0) : tk8 cap l k ep = ex8 cap l ep := if_pos h
theorem tk8_k {cap : Int} {l : List Msg} {k ep : Int} (h : ex8 cap l ep = 0) (h1 : k < 0) : tk8 cap l k ep = 1 := by unfold tk8; rw [if_neg (fun g => g h), if_pos h1]
theorem tk8_ok {cap : Int} {l : List Msg} {k ep : Int} (h : ex8 cap l ep = 0) (h1 : ¬ k < 0) : tk8 cap l k ep = 0 := by unfold tk8; rw [if_neg (fun g => g h), if_neg h1]

/-- The first mx wanted messages, and the others. -/
def pl8s (mx : Int) (p : Msg → Bool) (s : List Msg × List Msg) (M : Msg) : List Msg × List Msg := if (s.1.length : Int) < mx ∧ p M = true then (s.1 ++ [M], s.2) else (s.1, s.2 ++ [M])
def pl8 (mx : Int) (p : Msg → Bool) (l : List Msg) : List Msg × List Msg := l.foldl (pl8s mx p) ([], [])
theorem pl8s_yes {mx : Int} {p : Msg → Bool} {s : List Msg × List Msg} {M : Msg} (h : (s.1.length : Int) < mx) (h1 : p M = true) : pl8s mx p s M = (s.1 ++ [M], s.2) := if_pos ⟨h, h1⟩
theorem pl8s_no {mx : Int} {p : Msg → Bool} {s : List Msg × List Msg} {M : Msg} (h : ¬ ((s.1.length : Int) < mx ∧ p M = true)) : pl8s mx p s M = (s.1, s.2 ++ [M]) := if_neg h
theorem pl8_snoc (mx : Int) (p : Msg → Bool) (l : List Msg) (M : Msg) : pl8 mx p (l ++ [M]) = pl8s mx p (pl8 mx p l) M := by simp [pl8]
theorem pl8_take {mx : Int} {p : Msg → Bool} {l : List Msg} {k : Nat} (hk : k < l.length) : pl8 mx p (l.take (k + 1)) = pl8s mx p (pl8 mx p (l.take k)) l[k] := by
  rw [← List.take_append_getElem hk, pl8_snoc]
theorem pl8_yes {mx : Int} {p : Msg → Bool} {l : List Msg} {k : Nat} (hk : k < l.length) (h : ((pl8 mx p (l.take k)).1.length : Int) < mx) (h1 : p l[k] = true) : pl8 mx p (l.take (k + 1)) = ((pl8 mx p (l.take k)).1 ++ [l[k]], (pl8 mx p (l.take k)).2) := by
  rw [pl8_take hk, pl8s, if_pos ⟨h, h1⟩]
theorem pl8_no {mx : Int} {p : Msg → Bool} {l : List Msg} {k : Nat} (hk : k < l.length) (h : ¬ (((pl8 mx p (l.take k)).1.length : Int) < mx ∧ p l[k] = true)) : pl8 mx p (l.take (k + 1)) = ((pl8 mx p (l.take k)).1, (pl8 mx p (l.take k)).2 ++ [l[k]]) := by
  rw [pl8_take hk, pl8s, if_neg h]
theorem pl8_len (mx : Int) (p : Msg → Bool) (l : List Msg) : (pl8 mx p l).1.length + (pl8 mx p l).2.length = l.length := by
  suffices ∀ (l : List Msg) (s : List Msg × List Msg), (l.foldl (pl8s mx p) s).1.length + (l.foldl (pl8s mx p) s).2.length = s.1.length + s.2.length + l.length by
    have := this l ([], [])
    simpa [pl8] using this
  intro l
  induction l with
  | nil => intro s; simp
  | cons M l ih =>
    intro s
    rw [List.foldl_cons, ih, List.length_cons]
    unfold pl8s
    split <;> simp <;> omega
theorem pl8_sub (mx : Int) (p : Msg → Bool) (l : List Msg) : (pl8 mx p l).2.Sublist l ∧ (pl8 mx p l).1.Sublist l := by
  suffices ∀ (l : List Msg) (s : List Msg × List Msg), (l.foldl (pl8s mx p) s).2.Sublist (s.2 ++ l) ∧ (l.foldl (pl8s mx p) s).1.Sublist (s.1 ++ l) by
    have := this l ([], [])
    simpa [pl8] using this
  intro l
  induction l with
  | nil => intro s; simp
  | cons M l ih =>
    intro s
    rw [List.foldl_cons]
    have h := ih (pl8s mx p s M)
    unfold pl8s at h ⊢
    split at h
    · rename_i hc
      rw [if_pos hc]
      refine ⟨h.1.trans ?_, h.2.trans ?_⟩
      · exact (List.append_sublist_append_left s.2).2 (List.sublist_cons_self M l)
      · simp
    · rename_i hc
      rw [if_neg hc]
      refine ⟨h.1.trans ?_, h.2.trans ?_⟩
      · simp
      · exact (List.append_sublist_append_left s.1).2 (List.sublist_cons_self M l)
theorem pl8_filter {mx : Int} {p : Msg → Bool} (l : List Msg) (h : (l.length : Int) ≤ mx) : pl8 mx p l = (l.filter p, l.filter (fun M => !p M)) := by
  suffices ∀ (l : List Msg) (s : List Msg × List Msg), (s.1.length + l.length : Int) ≤ mx → l.foldl (pl8s mx p) s = (s.1 ++ l.filter p, s.2 ++ l.filter (fun M => !p M)) by
    have := this l ([], []) (by simpa using h)
    simpa [pl8] using this
  intro l
  induction l with
  | nil => intro s _; simp
  | cons M l ih =>
    intro s hs
    rw [List.foldl_cons]
    simp only [List.length_cons] at hs
    cases hp : p M with
    | true =>
      rw [pl8s_yes (by omega) hp, ih _ (by simp; omega)]
      simp [hp]
    | false =>
      rw [pl8s_no (by simp [hp]), ih _ (by simp; omega)]
      simp [hp]
/-- All are wanted: the first ones. -/
theorem pl8_first {p : Msg → Bool} (l : List Msg) (k : Nat) (h : ∀ M ∈ l, p M = true) : pl8 (k : Int) p l = (l.take k, l.drop k) := by
  suffices ∀ (l : List Msg) (s : List Msg × List Msg), (∀ M ∈ l, p M = true) → s.1.length ≤ k → (s.1.length < k → s.2 = []) → l.foldl (pl8s (k : Int) p) s = (s.1 ++ l.take (k - s.1.length), s.2 ++ l.drop (k - s.1.length)) by
    have := this l ([], []) h (Nat.zero_le _) (fun _ => rfl)
    simpa [pl8] using this
  intro l
  induction l with
  | nil => intro s _ _ _; simp
  | cons M l ih =>
    intro s hp hs h0
    rw [List.foldl_cons]
    by_cases hlt : s.1.length < k
    · rw [pl8s_yes (by omega) (hp M (by simp)), ih (s.1 ++ [M], s.2) (fun N hN => hp N (by simp [hN])) (by simp; omega) (fun _ => h0 hlt)]
      obtain ⟨j, hj⟩ : ∃ j, k - s.1.length = j + 1 := ⟨k - s.1.length - 1, by omega⟩
      have hj2 : k - (s.1 ++ [M]).length = j := by simp; omega
      rw [hj, hj2]
      simp
    · have e : k - s.1.length = 0 := by omega
      rw [pl8s_no (by omega), ih (s.1, s.2 ++ [M]) (fun N hN => hp N (by simp [hN])) hs (fun h => absurd h hlt), e]
      simp
/-- A valid store. -/
structure Ok8 (cap : Int) (l : List Msg) : Prop where
  c1 : 1 ≤ cap
  c2 : cap ≤ 24
  len : (l.length : Int) ≤ cap
  all : ∀ M ∈ l, vf M = 0
  dup : ¬ dupP l
theorem ok8_iff {cap : Int} {l : List Msg} : va8 cap l = 0 ↔ Ok8 cap l := by
  constructor
  · intro h
    obtain ⟨h1, h2, h3⟩ := va8_zero h
    have h4 := wi_of h1
    obtain ⟨h5, h6⟩ := so8_zero h3
    exact ⟨h4.1, h4.2, h2, fe_zero h5, h6⟩
  · intro h
    rw [va8_so (wi_true h.c1 h.c2) (by have := h.len; omega), so8_ok (fe_all h.all) h.dup]
theorem dup_sub {l m : List Msg} (s : l.Sublist m) (h : ¬ dupP m) : ¬ dupP l := by
  have key : ∀ l : List Msg, ¬ dupP l ↔ (l.map Msg.id).Nodup := by
    intro l
    rw [List.nodup_iff_pairwise_ne, List.pairwise_iff_getElem]
    constructor
    · intro h i j hi hj hij e
      simp at hi hj
      exact h ⟨i, j, hi, hj, hij, by simpa using e⟩
    · rintro h ⟨i, j, hi, hj, hij, e⟩
      exact h i j (by simpa using hi) (by simpa using hj) hij (by simpa using e)
  exact (key l).2 (List.Nodup.sublist (s.map _) ((key m).1 h))
theorem Ok8.sub {cap : Int} {l m : List Msg} (h : Ok8 cap m) (s : l.Sublist m) : Ok8 cap l :=
  ⟨h.c1, h.c2, by have := s.length_le; have := h.len; omega, fun M hM => h.all M (s.subset hM), dup_sub s h.dup⟩
end Go.Proofs.Ytbeafcjbldnkhaa
/- Plain: dead-letter stores in memory: a box of a store, results that are a store and an error. -/
namespace Go.Proofs.Ytbeafcjbldnkhaa
open Go.RowKit
set_option linter.unusedVariables false

/-- A number as a result. -/
def V8 (w : World) (x : Int) (e : Ending) (w' : World) : Prop := e = .returned (.int .i64 x) ∧ Below w.heap.size w w'
/-- Block p holds a store, and may be written. -/
structure DB (W : World) (p : Nat) (cap : Int) (A : Option Addr) (n c : Nat) : Prop where
  lt : p < W.heap.size
  c0 : W.cell? ⟨p, 0, none⟩ = some (.int .i64 cap)
  c1 : W.cell? ⟨p, 1, none⟩ = some (.slice A n c)
  fr : ∀ o, W.frozen? ⟨p, o, none⟩ = false
section
variable {W W' : World} {p n c : Nat} {A : Option Addr} {cap : Int}
theorem DB.facts (h : DB W p cap A n c) : W.cell? ⟨p, 0, none⟩ = some (.int .i64 cap) ∧ W.cell? ⟨p, 1, none⟩ = some (.slice A n c) ∧ p < W.heap.size := ⟨h.c0, h.c1, h.lt⟩
theorem DB.all (h : DB W p cap A n c) : W.cell? ⟨p, 0, none⟩ = some (.int .i64 cap) ∧ W.cell? ⟨p, 1, none⟩ = some (.slice A n c) ∧ p < W.heap.size ∧ W.frozen? ⟨p, 0, none⟩ = false ∧ W.frozen? ⟨p, 1, none⟩ = false := ⟨h.c0, h.c1, h.lt, h.fr 0, h.fr 1⟩
theorem DB.up (h : DB W p cap A n c) (hb : Below W.heap.size W W') : DB W' p cap A n c :=
  ⟨Nat.lt_of_lt_of_le h.lt hb.size, (hb.cell (p := ⟨p, 0, none⟩) h.lt).trans h.c0, (hb.cell (p := ⟨p, 1, none⟩) h.lt).trans h.c1, fun o => (hb.frozen (p := ⟨p, o, none⟩) h.lt).trans (h.fr o)⟩
theorem DB.drew (h : DB W p cap A n c) : DB W.drew p cap A n c := ⟨h.lt, h.c0, h.c1, h.fr⟩
theorem DB.drewN (h : DB W p cap A n c) (k : Nat) : DB (W.drewN k) p cap A n c := ⟨h.lt, h.c0, h.c1, h.fr⟩
theorem DB.alloc (h : DB W p cap A n c) (o : Obj) : DB (W.alloc o) p cap A n c := h.up ((Below.refl _ _).alloc (Nat.le_refl _) o)
theorem DB.other (h : DB W p cap A n c) {a : Addr} (ha : a.block ≠ p) (v : Value) : DB (W.setCell a v) p cap A n c := by
  have e : ∀ o, (W.setCell a v).cell? ⟨p, o, none⟩ = W.cell? ⟨p, o, none⟩ := fun o => World.cell?_setCell_other W _ _ v (fun e => ha (by rw [e]))
  exact ⟨by simpa using h.lt, (e 0).trans h.c0, (e 1).trans h.c1, fun o => by rw [World.frozen?_setCell]; exact h.fr o⟩
theorem DB.setL (h : DB W p cap A n c) (A' : Option Addr) (n' c' : Nat) : DB (W.setCell ⟨p, 1, none⟩ (.slice A' n' c')) p cap A' n' c' :=
  ⟨by simpa using h.lt, (World.cell?_setCell_other W _ _ _ (fun e => by injection e; omega)).trans h.c0, World.cell?_setCell_same' W _ _ (by rw [h.c1]; rfl), fun o => by rw [World.frozen?_setCell]; exact h.fr o⟩
theorem DB.setC (h : DB W p cap A n c) (x : Int) : DB (W.setCell ⟨p, 0, none⟩ (.int .i64 x)) p x A n c :=
  ⟨by simpa using h.lt, World.cell?_setCell_same' W _ _ (by rw [h.c0]; rfl), (World.cell?_setCell_other W _ _ _ (fun e => by injection e; omega)).trans h.c1, fun o => by rw [World.frozen?_setCell]; exact h.fr o⟩
theorem DB.put (h : DB W p cap A n c) (x : Int) (A' : Option Addr) (n' c' : Nat) : DB ((W.setCell ⟨p, 0, none⟩ (.int .i64 x)).setCell ⟨p, 1, none⟩ (.slice A' n' c')) p x A' n' c' := (h.setC x).setL A' n' c'
theorem DB.grown (h : DB W p cap A n c) {row : Option Nat} (hg : W.grownBy W' row) (hr : some p ≠ row) : DB W' p cap A n c := by
  have e : ∀ o, W'.cell? ⟨p, o, none⟩ = W.cell? ⟨p, o, none⟩ := fun o => hg.cell_far ⟨p, o, none⟩ h.lt hr
  exact ⟨Nat.lt_of_lt_of_le h.lt hg.size, (e 0).trans h.c0, (e 1).trans h.c1, fun o => (hg.frozen_far ⟨p, o, none⟩ h.lt hr).trans (h.fr o)⟩
theorem DB.fresh (w : World) (cap : Int) (A : Option Addr) (n c : Nat) (t : TypeId) : DB (w.alloc (.cells #[.int .i64 cap, .slice A n c] t)) w.heap.size cap A n c :=
  ⟨by simp, by simp [go_sem], by simp [go_sem], fun o => by simp [go_sem]⟩
end
/-- A list does not lie in block b. -/
def Ob (b n : Nat) (A : Option Addr) : Prop := 0 < n → ∀ a, A = some a → a.block ≠ b
theorem ob_nw {lo b n : Nat} {A : Option Addr} (h : Nw lo A) (hb : b < lo) : Ob b n A := fun _ a e => by have := h a e; omega
theorem ob_ls {W : World} {B n c b : Nat} {A : Option Addr} {l : List Msg} (h : Ls W B (.slice A n c) l) (hb : B ≤ b) : Ob b n A := fun hn a e => by
  obtain ⟨b', o, e', hb', _⟩ := h.rd.2 hn
  rw [e'] at e
  injection e with e
  subst e
  show b' ≠ b
  omega
theorem Ls.offo {W : World} {B n c : Nat} {A : Option Addr} {l : List Msg} (h : Ls W B (.slice A n c) l) {p : Addr} (hA : Ob p.block n A) (v : Value) : Ls (W.setCell p v) B (.slice A n c) l := by
  obtain ⟨h1, h2, h3⟩ := h.len
  subst h1
  refine ⟨A, c, rfl, h2, h3, h.rd.1, fun h0 => ?_⟩
  obtain ⟨b, o, e, hb, hc⟩ := h.rd.2 h0
  have hlo := hA h0 _ e
  exact ⟨b, o, e, hb, fun j u hu => (World.cell?_setCell_other W p ⟨b, o + j, none⟩ v (fun e' => hlo (congrArg Addr.block e').symm)).trans (hc j u hu)⟩
theorem Ls.growno {W W' : World} {B n c : Nat} {A : Option Addr} {l : List Msg} (h : Ls W B (.slice A n c) l) (hB : B ≤ W.heap.size) {row : Option Nat} (hg : W.grownBy W' row) (ho : ∀ q, row = some q → Ob q n A) : Ls W' B (.slice A n c) l := by
  obtain ⟨h1, h2, h3⟩ := h.len
  subst h1
  refine ⟨A, c, rfl, h2, h3, h.rd.1, fun hn => ?_⟩
  obtain ⟨b, o, e, hb, hc⟩ := h.rd.2 hn
  exact ⟨b, o, e, hb, fun j u hu => (hg.cell_far ⟨b, o + j, none⟩ (Nat.lt_of_lt_of_le hb hB) (fun e' => ho b e'.symm hn _ e rfl)).trans (hc j u hu)⟩
/-- A store and an error as a result. -/
def D8 (w : World) (cap : Int) (l : List Msg) (x : Int) (e : Ending) (w' : World) : Prop := ∃ A c, e = .returned (.tuple #[.agg #[.int .i64 cap, .slice A l.length c], .int .i64 x]) ∧ Nw w.heap.size A ∧ Ls w' w'.heap.size (.slice A l.length c) l ∧ Below w.heap.size w w'
/-- A store, a list and an error as a result. -/
def D8L (w : World) (cap : Int) (l m : List Msg) (x : Int) (e : Ending) (w' : World) : Prop := ∃ A c A2 c2, e = .returned (.tuple #[.agg #[.int .i64 cap, .slice A l.length c], .slice A2 m.length c2, .int .i64 x]) ∧ Nw w.heap.size A ∧ Nw w.heap.size A2 ∧ Ls w' w'.heap.size (.slice A l.length c) l ∧ Ls w' w'.heap.size (.slice A2 m.length c2) m ∧ Below w.heap.size w w'
/-- A store, a number and an error as a result. -/
def D8N (w : World) (cap : Int) (l : List Msg) (k x : Int) (e : Ending) (w' : World) : Prop := ∃ A c, e = .returned (.tuple #[.agg #[.int .i64 cap, .slice A l.length c], .int .i64 k, .int .i64 x]) ∧ Nw w.heap.size A ∧ Ls w' w'.heap.size (.slice A l.length c) l ∧ Below w.heap.size w w'
end Go.Proofs.Ytbeafcjbldnkhaa
