/- What is proved here: (plain) heaps of deadlines: the place of an ID, what is due in order, insertion into a sorted row; Tbd; Tbe; (plain) lists of leases that lie in memory, blocks of leases that may be written. -/
import Derived.Test.YtommkhjgockpfaaJ08
import Derived.Test.YtommkhjgockpfaaJ04
namespace Go.Proofs.Ytommkhjgockpfaa
set_option linter.unusedVariables false

theorem ge_get {h : List Du} {k : Nat} (hk : k < h.length) : h[k] = ge h k := by
  unfold ge; rw [List.getD_eq_getElem?_getD, List.getElem?_eq_getElem hk]; rfl
/-- The place of the first element with an ID, or the length. -/
def ixE (h : List Du) (id : Int) : Nat := h.findIdx (fun d => d.id == id)
/-- The same, or -1. -/
def ixD (h : List Du) (id : Int) : Int := if ixE h id < h.length then (ixE h id : Int) else -1
theorem ixD_hit {h : List Du} {id : Int} {k : Nat} (hk : k < h.length) (e : (ge h k).id = id) (hn : ∀ j, j < k → (ge h j).id ≠ id) : ixD h id = k := by
  have e : ixE h id = k := (List.findIdx_eq hk).2 ⟨by rw [ge_get hk]; simpa using e, fun j hj => by rw [ge_get (by omega)]; simpa using hn j hj⟩
  unfold ixD
  rw [e, if_pos hk]
theorem ixD_none {h : List Du} {id : Int} (hn : ∀ j, j < h.length → (ge h j).id ≠ id) : ixD h id = -1 := by
  unfold ixD
  rw [if_neg]
  intro hl
  have := List.findIdx_getElem (w := hl)
  have this' : h[ixE h id].id = id := beq_iff_eq.1 this
  rw [ge_get hl] at this'
  exact hn _ hl this'
theorem ixD_cases (h : List Du) (id : Int) : (ixD h id = -1 ∧ ∀ j, j < h.length → (ge h j).id ≠ id) ∨ ∃ k, k < h.length ∧ ixD h id = k ∧ (ge h k).id = id ∧ ∀ j, j < k → (ge h j).id ≠ id := by
  by_cases hh : ∀ j, j < h.length → (ge h j).id ≠ id
  · exact .inl ⟨ixD_none hh, hh⟩
  · right
    have hl : ixE h id < h.length := by
      apply Decidable.byContradiction
      intro hc
      have e : ixE h id = h.length := Nat.le_antisymm List.findIdx_le_length (by omega)
      exact hh fun j hj hid => by
        have := (List.findIdx_eq_length.1 e) h[j] (List.getElem_mem hj)
        rw [ge_get hj] at this
        simp [hid] at this
    have hi : h[ixE h id].id = id := beq_iff_eq.1 (List.findIdx_getElem (p := fun d : Du => d.id == id) (w := hl))
    rw [ge_get hl] at hi
    refine ⟨ixE h id, hl, by unfold ixD; rw [if_pos hl], hi, fun j hlt => ?_⟩
    have := List.not_of_lt_findIdx hlt
    rw [ge_get (by omega)] at this
    simpa using this
theorem ixD_ge (h : List Du) (id : Int) : 0 ≤ ixD h id ↔ ∃ d ∈ h, d.id = id := by
  rcases ixD_cases h id with ⟨e, hn⟩ | ⟨k, hk, e, hi, _⟩
  · rw [e]
    refine ⟨fun hx => absurd hx (by omega), fun ⟨d, hd, hid⟩ => ?_⟩
    obtain ⟨j, hj, rfl⟩ := ge_mem hd
    exact absurd hid (hn j hj)
  · rw [e]
    exact ⟨fun _ => ⟨ge h k, mem_ge hk, hi⟩, fun _ => by omega⟩
theorem ixD_lt (h : List Du) (id : Int) : -1 ≤ ixD h id ∧ ixD h id < h.length := by
  rcases ixD_cases h id with ⟨e, _⟩ | ⟨k, hk, e, _, _⟩ <;> rw [e] <;> omega
theorem ixD_neg {h : List Du} {id : Int} (hx : ¬ 0 ≤ ixD h id) : ixD h id = -1 := by have := ixD_lt h id; omega

/-! Insertion into a sorted row. -/
def Srt (l : List Du) : Prop := l.Pairwise (fun a b => bef b a = false)
/-- The row is a permutation of l, its first i elements are in order. -/
structure SrtTo (l : List Du) (i : Nat) (g : List Du) : Prop where
  perm : g.Perm l
  ord : ∀ x y, x < y → y < i → bef (ge g y) (ge g x) = false
/-- The element at j is on its way down. -/
structure Ins (l : List Du) (i j : Nat) (g : List Du) : Prop where
  perm : g.Perm l
  a : ∀ x y, x < y → y ≤ i → x ≠ j → y ≠ j → bef (ge g y) (ge g x) = false
  b : ∀ y, j < y → y ≤ i → bef (ge g y) (ge g j) = false
theorem SrtTo.start (l : List Du) : SrtTo l 1 l := ⟨List.Perm.refl _, fun x y h1 h2 => absurd h1 (by omega)⟩
theorem SrtTo.ins {l g : List Du} {i : Nat} (h : SrtTo l i g) : Ins l i i g := ⟨h.perm, fun x y h1 h2 _ h3 => h.ord x y h1 (by omega), fun y h1 h2 => absurd h1 (by omega)⟩
theorem Ins.step {l g : List Du} {i j : Nat} (h : Ins l i j g) (h0 : 0 < j) (hj : j ≤ i) (hi : i < g.length) (hb : bef (ge g j) (ge g (j - 1)) = true) : Ins l i (j - 1) (swp g j (j - 1)) := by
  have g1 : ∀ t, ge (swp g j (j - 1)) t = if t = j - 1 then ge g j else if t = j then ge g (j - 1) else ge g t := fun t => ge_swp (by omega) (by omega) t
  refine ⟨(perm_set_set (by omega) (by omega)).trans h.perm, fun x y h1 h2 h3 h4 => ?_, fun y h1 h2 => ?_⟩
  · rw [g1, g1, if_neg h3, if_neg h4]
    by_cases ex : x = j
    · rw [if_pos ex, if_neg (by omega)]
      exact h.a (j - 1) y (by omega) h2 (by omega) (by omega)
    · rw [if_neg ex]
      by_cases ey : y = j
      · rw [if_pos ey]; exact h.a x (j - 1) (by omega) (by omega) ex (by omega)
      · rw [if_neg ey]; exact h.a x y h1 h2 ex ey
  · rw [g1, g1, if_pos rfl, if_neg (by omega)]
    by_cases ey : y = j
    · rw [if_pos ey]; exact bef_asym hb
    · rw [if_neg ey]; exact h.b y (by omega) h2
/-! Sifting, step by step. -/
/-! The booleans of Validate. -/
/-- The first error of a push, a pop, a removal. -/
noncomputable def hpuE (h : List Du) (d : Du) : Int := if vaF h ≠ 0 then vaF h else if snd d = false then 1 else if h.length = 12 then 3 else if 0 ≤ ixD h d.id then 10 else 0
noncomputable def hrmE (h : List Du) (id : Int) : Int := if vaF h ≠ 0 then vaF h else if ixD h id < 0 then 4 else 0
noncomputable def rmR (h : List Du) (id : Int) : List Du := if hrmE h id = 0 then cuF h (ixD h id).toNat else []
theorem hpuE_zero {h : List Du} {d : Du} (e : hpuE h d = 0) : vaF h = 0 ∧ snd d = true ∧ h.length < 12 ∧ ∀ x ∈ h, x.id ≠ d.id := by
  unfold hpuE at e
  by_cases h1 : vaF h = 0
  · rw [if_neg (by simpa using h1)] at e
    cases h2 : snd d with
    | false => rw [if_pos h2] at e; exact absurd e (by decide)
    | true =>
      rw [if_neg (by simp [h2])] at e
      by_cases h3 : h.length = 12
      · rw [if_pos h3] at e; exact absurd e (by decide)
      · rw [if_neg h3] at e
        by_cases h4 : 0 ≤ ixD h d.id
        · rw [if_pos h4] at e; exact absurd e (by decide)
        · refine ⟨h1, rfl, ?_, fun x hx hid => h4 ((ixD_ge _ _).2 ⟨x, hx, hid⟩)⟩
          have := (vaF_zero h1).1
          omega
  · rw [if_pos h1] at e; exact absurd e h1
end Go.Proofs.Ytommkhjgockpfaa
/- Plain: lists in ascending order of a key: what find, insertion, removal and change of an element give; heaps that consist of such a list's elements. -/
namespace Go.Proofs.Ytommkhjgockpfaa

section
variable {α : Type} (key : α → Int)
/-- The place of the first element with a key, or -1. -/
def kFi (l : List α) (x : Int) : Int := if l.findIdx (fun a => key a == x) < l.length then (l.findIdx (fun a => key a == x) : Int) else -1
/-- The place at which a key is inserted: the first element whose key is not less. -/
def kAt (l : List α) (x : Int) : Nat := l.findIdx (fun a => decide (x ≤ key a))
/-- In ascending order of the keys. -/
def Asc (l : List α) : Prop := l.Pairwise (fun a b => key a < key b)
/-- The list with an element at its place. -/
def kIns (l : List α) (a : α) : List α := l.take (kAt key l (key a)) ++ a :: l.drop (kAt key l (key a))
variable {key}

theorem kFi_hit {l : List α} {x : Int} {k : Nat} (hk : k < l.length) (e : key l[k] = x) (hn : ∀ j (hj : j < k), key (l[j]'(Nat.lt_trans hj hk)) ≠ x) : kFi key l x = k := by
  have h : l.findIdx (fun a => key a == x) = k := (List.findIdx_eq hk).2 ⟨by simpa using e, fun j hj => by simpa using hn j hj⟩
  unfold kFi
  rw [h, if_pos hk]
theorem kFi_none {l : List α} {x : Int} (hn : ∀ a ∈ l, key a ≠ x) : kFi key l x = -1 := by
  have h : l.findIdx (fun a => key a == x) = l.length := List.findIdx_eq_length.2 fun a ha => by simpa using hn a ha
  unfold kFi
  rw [h, if_neg (Nat.lt_irrefl _)]
theorem kFi_cases (key : α → Int) (l : List α) (x : Int) : (kFi key l x = -1 ∧ ∀ a ∈ l, key a ≠ x) ∨ ∃ (k : Nat) (hk : k < l.length), kFi key l x = k ∧ key l[k] = x ∧ ∀ j (hj : j < k), key (l[j]'(Nat.lt_trans hj hk)) ≠ x := by
  by_cases h : l.findIdx (fun a => key a == x) < l.length
  · have h1 : key (l[l.findIdx (fun a => key a == x)]) = x := by simpa using List.findIdx_getElem (w := h)
    have h2 : ∀ j (hj : j < l.findIdx (fun a => key a == x)), key (l[j]'(Nat.lt_trans hj h)) ≠ x := fun j hj => by simpa using List.not_of_lt_findIdx hj
    exact .inr ⟨_, h, kFi_hit h h1 h2, h1, h2⟩
  · have h1 : l.findIdx (fun a => key a == x) = l.length := Nat.le_antisymm List.findIdx_le_length (Nat.le_of_not_lt h)
    have h2 : ∀ a ∈ l, key a ≠ x := fun a ha => by simpa using List.findIdx_eq_length.1 h1 a ha
    exact .inl ⟨kFi_none h2, h2⟩
theorem kFi_ge {l : List α} {x : Int} : 0 ≤ kFi key l x ↔ ∃ a ∈ l, key a = x := by
  rcases kFi_cases key l x with ⟨e, hn⟩ | ⟨k, hk, e, he, _⟩
  · rw [e]; exact ⟨fun h => absurd h (by omega), fun ⟨a, ha, h⟩ => absurd h (hn a ha)⟩
  · rw [e]; exact ⟨fun _ => ⟨l[k], List.getElem_mem hk, he⟩, fun _ => by omega⟩
theorem kFi_map {β : Type} (f : β → α) (l : List β) (x : Int) : kFi key (l.map f) x = kFi (fun b => key (f b)) l x := by
  unfold kFi; rw [List.findIdx_map, List.length_map]; rfl

theorem kAt_le (l : List α) (x : Int) : kAt key l x ≤ l.length := List.findIdx_le_length
theorem kAt_lo {l : List α} {x : Int} {j : Nat} (hj : j < kAt key l x) : key (l[j]'(Nat.lt_of_lt_of_le hj (kAt_le l x))) < x := by
  have h := List.not_of_lt_findIdx hj
  have h' := of_decide_eq_false h
  omega
theorem kAt_hi {l : List α} {x : Int} (h : kAt key l x < l.length) : x ≤ key l[kAt key l x] := by
  exact of_decide_eq_true (List.findIdx_getElem (w := h))
theorem kAt_hit {l : List α} {x : Int} {k : Nat} (hk : k ≤ l.length) (h1 : ∀ j (hj : j < k), key (l[j]'(Nat.lt_of_lt_of_le hj hk)) < x) (h2 : ∀ hk : k < l.length, x ≤ key l[k]) : kAt key l x = k := by
  have h := kAt_le (key := key) l x
  rcases Nat.lt_trichotomy (kAt key l x) k with hl | he | hg
  · have a := h1 _ hl
    have b := kAt_hi (key := key) (l := l) (x := x) (by omega)
    omega
  · exact he
  · have a := kAt_lo hg
    have b := h2 (by omega)
    omega
theorem kAt_map {β : Type} (f : β → α) (l : List β) (x : Int) : kAt key (l.map f) x = kAt (fun b => key (f b)) l x := by
  unfold kAt; rw [List.findIdx_map]; rfl
theorem kIns_map {β : Type} (f : β → α) (l : List β) (b : β) : kIns key (l.map f) (f b) = (kIns (fun b => key (f b)) l b).map f := by
  unfold kIns; rw [kAt_map]; simp [List.map_take, List.map_drop]
theorem kIns_perm (l : List α) (a : α) : (kIns key l a).Perm (a :: l) := by
  unfold kIns
  refine List.perm_middle.trans ?_
  rw [List.take_append_drop]
theorem kIns_len (l : List α) (a : α) : (kIns key l a).length = l.length + 1 := (kIns_perm l a).length_eq

theorem Asc.lt {l : List α} (h : Asc key l) {i j : Nat} (hi : i < j) (hj : j < l.length) : key (l[i]'(Nat.lt_trans hi hj)) < key l[j] := List.pairwise_iff_getElem.1 h i j _ hj hi
theorem asc_iff {l : List α} : Asc key l ↔ ∀ j (hj : j + 1 < l.length), key (l[j]'(Nat.lt_of_succ_lt hj)) < key l[j + 1] := by
  refine ⟨fun h j hj => h.lt (Nat.lt_succ_self _) hj, fun h => List.pairwise_iff_getElem.2 ?_⟩
  have H : ∀ d i (hj : i + d + 1 < l.length), key (l[i]'(by omega)) < key l[i + d + 1] := by
    intro d
    induction d with
    | zero => intro i hj; exact h i hj
    | succ d ih => intro i hj; exact Int.lt_trans (ih i (by omega)) (h (i + d + 1) (by omega))
  intro i j hi hj hij
  have := H (j - i - 1) i (by omega)
  simpa [show i + (j - i - 1) + 1 = j by omega] using this
theorem Asc.inj {l : List α} (h : Asc key l) {i j : Nat} (hi : i < l.length) (hj : j < l.length) (e : key l[i] = key l[j]) : i = j := by
  rcases Nat.lt_trichotomy i j with a | a | a
  · have := h.lt a hj; omega
  · exact a
  · have := h.lt a hi; omega
theorem Asc.hit {l : List α} (h : Asc key l) {x : Int} {k : Nat} (hk : k < l.length) (e : key l[k] = x) : kFi key l x = k :=
  kFi_hit hk e fun j hj e' => by have := h.lt hj hk; omega
theorem Asc.nil : Asc key ([] : List α) := List.Pairwise.nil
theorem Asc.ins {l : List α} (h : Asc key l) {a : α} (ha : ∀ b ∈ l, key b ≠ key a) : Asc key (kIns key l a) := by
  unfold kIns
  have h1 : ∀ x ∈ l.take (kAt key l (key a)), key x < key a := fun x hx => by
    obtain ⟨j, hj, e⟩ := List.mem_iff_getElem.1 hx
    subst e
    have hj2 : j < kAt key l (key a) := by have := List.length_take_le (kAt key l (key a)) l; omega
    rw [List.getElem_take]
    exact kAt_lo hj2
  have h2 : ∀ x ∈ l.drop (kAt key l (key a)), key a < key x := fun x hx => by
    obtain ⟨j, hj, e⟩ := List.mem_iff_getElem.1 hx
    subst e
    rw [List.getElem_drop]
    have hl : kAt key l (key a) + j < l.length := by rw [List.length_drop] at hj; omega
    have b := kAt_hi (key := key) (l := l) (x := key a) (by omega)
    have c := ha _ (List.getElem_mem hl)
    rcases Nat.eq_zero_or_pos j with h0 | h0
    · subst h0
      have : key a ≤ key (l[kAt key l (key a) + 0]) := b
      omega
    · have := h.lt (show kAt key l (key a) < kAt key l (key a) + j by omega) hl
      omega
  refine List.pairwise_append.2 ⟨h.sublist (List.take_sublist _ _), List.pairwise_cons.2 ⟨fun x hx => h2 x hx, h.sublist (List.drop_sublist _ _)⟩, fun x hx y hy => ?_⟩
  rcases List.mem_cons.1 hy with e | hy
  · rw [e]; exact h1 x hx
  · exact Int.lt_trans (h1 x hx) (h2 y hy)
theorem Asc.erase {l : List α} (h : Asc key l) (k : Nat) : Asc key (l.eraseIdx k) := h.sublist (List.eraseIdx_sublist l k)
theorem Asc.set {l : List α} (h : Asc key l) {k : Nat} (hk : k < l.length) {a : α} (e : key a = key l[k]) : Asc key (l.set k a) := by
  refine List.pairwise_iff_getElem.2 fun i j hi hj hij => ?_
  rw [List.length_set] at hi hj
  rw [List.getElem_set, List.getElem_set]
  have := h.lt hij hj
  split
  · rename_i h1; subst h1; rw [if_neg (by omega)]; omega
  · split
    · rename_i h2; subst h2; omega
    · exact this

end
end Go.Proofs.Ytommkhjgockpfaa
/- Plain: tables: a list of deadlines in ascending order of the IDs, and a heap that consists of its elements. -/
namespace Go.Proofs.Ytommkhjgockpfaa
set_option linter.unusedVariables false

theorem du_ext {a b : Du} (h1 : a.dl = b.dl) (h2 : a.id = b.id) : a = b := by cases a; cases b; cases h1; cases h2; rfl
instance : DecidableEq Du := fun a b => if h : a.dl = b.dl ∧ a.id = b.id then isTrue (du_ext h.1 h.2) else isFalse fun e => h (by subst e; exact ⟨rfl, rfl⟩)
/-- A list without duplicates whose elements are all in another one that is not longer is that one, in some order. -/
theorem perm_of_sub : ∀ {h K : List Du}, h.Nodup → (∀ d ∈ h, d ∈ K) → K.length ≤ h.length → h.Perm K
  | [], K, _, _, hl => by
    have : K = [] := List.eq_nil_of_length_eq_zero (Nat.le_zero.1 hl)
    subst this; exact List.Perm.refl _
  | d :: h, K, hn, hs, hl => by
    have hd := hs d (List.mem_cons_self ..)
    have hp := List.perm_cons_erase hd
    obtain ⟨h1, h2⟩ := List.nodup_cons.1 hn
    have hk : (K.erase d).length + 1 = K.length := hp.length_eq.symm
    have ih := perm_of_sub (h := h) (K := K.erase d) h2 (fun x hx => (List.mem_erase_of_ne (fun e => by subst e; exact h1 hx)).2 (hs x (List.mem_cons_of_mem _ hx))) (by simp only [List.length_cons] at hl; omega)
    exact (ih.cons d).trans hp.symm
/-- The heap consists of the list's elements. -/
def ofT (K h : List Du) : Bool := decide (h.length = K.length ∧ ∀ d ∈ h, d ∈ K)
theorem ofT_iff {K h : List Du} : ofT K h = true ↔ h.length = K.length ∧ ∀ d ∈ h, d ∈ K := decide_eq_true_iff
theorem nodup_of_ids {h : List Du} (hn : (h.map Du.id).Nodup) : h.Nodup := (List.pairwise_map.1 hn).imp fun h e => h (by rw [e])
theorem ofT_perm {K h : List Du} (hn : (h.map Du.id).Nodup) : ofT K h = true ↔ h.Perm K := by
  refine ofT_iff.trans ⟨fun ⟨h1, h2⟩ => perm_of_sub (nodup_of_ids hn) h2 (by omega), fun h => ⟨h.length_eq, fun d hd => h.mem_iff.1 hd⟩⟩
/-! ### What the functions of a table make of its heap -/
theorem tb_push {K h : List Du} (hp : h.Perm K) (d : Du) : (hpu h d).Perm (kIns Du.id K d) := (puF_perm h d).trans ((hp.cons d).trans (kIns_perm K d).symm)
theorem erase_perm {l : List Du} {i : Nat} (hi : i < l.length) : l.Perm (l[i] :: l.eraseIdx i) := by
  have h := set_perm l[i] l i hi
  rwa [List.set_getElem_self] at h
theorem tb_cut {K h : List Du} (hp : h.Perm K) {i k : Nat} (hi : i < h.length) (hk : k < K.length) (e : ge h i = K[k]) : (cuF h i).Perm (K.eraseIdx k) := by
  refine (cuF_perm hi).trans (List.Perm.cons_inv (a := K[k]) ?_)
  have h1 := erase_perm hi
  rw [ge_get hi, e] at h1
  exact h1.symm.trans (hp.trans (erase_perm hk))
/-- Where an element of the list lies in the heap. -/
theorem tb_at {K h : List Du} (hp : h.Perm K) {k : Nat} (hk : k < K.length) (hn : (h.map Du.id).Nodup) : ∃ i, i < h.length ∧ ge h i = K[k] ∧ ixD h K[k].id = i := by
  obtain ⟨i, hi, e⟩ := List.mem_iff_getElem.1 (hp.mem_iff.2 (List.getElem_mem hk))
  rw [ge_get hi] at e
  refine ⟨i, hi, e, ixD_hit hi (by rw [e]) fun j hj e' => ?_⟩
  rw [← e] at e'
  have := (List.pairwise_map.1 hn)
  have h2 := List.pairwise_iff_getElem.1 this j i (by omega) hi hj
  rw [ge_get (by omega), ge_get hi] at h2
  exact h2 e'
theorem tb_no {K h : List Du} (hp : h.Perm K) {x : Int} (hx : kFi Du.id K x < 0) : ixD h x = -1 := by
  refine ixD_neg fun h0 => ?_
  obtain ⟨d, hd, e⟩ := (ixD_ge h x).1 h0
  have := kFi_ge.2 ⟨d, hp.mem_iff.1 hd, e⟩
  omega

/-! ### Lapsed -/
end Go.Proofs.Ytommkhjgockpfaa
namespace Go.Proofs.Ytommkhjgockpfaa
open Go.RowKit
set_option linter.unusedVariables false

/-- A lease. -/
structure Le where
  m : Msg
  dl : Int
def zL : Le := ⟨zM, 0⟩
/-- The lease as a value. -/
abbrev Le.v (x : Le) : Value := .agg #[.int .i64 x.m.id, .int .i64 x.m.rt, .int .i64 x.m.ep, .int .i64 x.m.ct, .int .i64 x.m.gn, .int .i64 x.m.st, .string x.m.bd, .int .i64 x.dl]
/-- Its deadline and its ID. -/
def Le.du (x : Le) : Du := ⟨x.dl, x.m.id⟩
/-- The cells of a lease. -/
def Le.l (M : Le) : List Value := [.int .i64 M.m.id, .int .i64 M.m.rt, .int .i64 M.m.ep, .int .i64 M.m.ct, .int .i64 M.m.gn, .int .i64 M.m.st, .string M.m.bd, .int .i64 M.dl]
theorem Le.l_len (M : Le) : M.l.length = 8 := rfl
def ecs (l : List Le) : List Value := l.flatMap Le.l
theorem ecs_cons (M : Le) (l : List Le) : ecs (M :: l) = M.l ++ ecs l := rfl
theorem ecs_len (l : List Le) : (ecs l).length = l.length * 8 := by
  induction l with
  | nil => rfl
  | cons M l ih => rw [ecs_cons, List.length_append, ih, Le.l_len]; simp; omega
theorem ecs_drop (l : List Le) (k : Nat) : (ecs l).drop (k * 8) = ecs (l.drop k) := by
  induction k generalizing l with
  | zero => simp
  | succ k ih =>
    cases l with
    | nil => simp [ecs]
    | cons M l =>
      rw [ecs_cons, List.drop_succ_cons, ← ih, show (k + 1) * 8 = M.l.length + k * 8 by rw [Le.l_len]; omega, List.drop_append, List.drop_eq_nil_of_le (by omega)]
      simp
theorem ecs_take (l : List Le) (k : Nat) : (ecs l).take (k * 8) = ecs (l.take k) := by
  induction k generalizing l with
  | zero => simp [ecs]
  | succ k ih =>
    cases l with
    | nil => simp [ecs]
    | cons M l =>
      rw [ecs_cons, List.take_succ_cons, ecs_cons, ← ih, show (k + 1) * 8 = M.l.length + k * 8 by rw [Le.l_len]; omega, List.take_append, List.take_of_length_le (by omega)]
      simp
theorem ecs_at (l : List Le) (k j : Nat) (hk : k < l.length) (hj : j < 8) : (ecs l)[k * 8 + j]? = l[k].l[j]? := by
  have h := ecs_drop l k
  have e : (ecs l)[k * 8 + j]? = ((ecs l).drop (k * 8))[j]? := by rw [List.getElem?_drop]
  rw [e, h, List.drop_eq_getElem_cons hk, ecs_cons, List.getElem?_append_left (by rw [Le.l_len]; exact hj)]
theorem Le.l_one (M : Le) : ∀ u ∈ M.l, u.oneCell' = true := by
  intro u hu
  simp only [Le.l, List.mem_cons, List.not_mem_nil, or_false] at hu
  rcases hu with rfl | rfl | rfl | rfl | rfl | rfl | rfl | rfl <;> rfl
theorem ecs_one (l : List Le) : ∀ u ∈ ecs l, u.oneCell' = true := by
  intro u hu
  obtain ⟨M, _, h⟩ := List.mem_flatMap.1 hu
  simp only [Le.l, List.mem_cons, List.not_mem_nil, or_false] at h
  rcases h with rfl | rfl | rfl | rfl | rfl | rfl | rfl | rfl <;> rfl

/-- A value that is a slice, reads as these leases and lies below B. -/
def El (w : World) (B : Nat) (v : Value) (l : List Le) : Prop := ∃ A c, v = .slice A l.length c ∧ l.length ≤ c ∧ c ≤ maxLen ∧ Rd w B 8 A l.length (ecs l)

/-- The seven cells of a lease from a place on. -/
abbrev C8 (W : World) (b m : Nat) (M : Le) : Prop := W.cell? ⟨b, m, none⟩ = some (.int .i64 M.m.id) ∧ W.cell? ⟨b, m + 1, none⟩ = some (.int .i64 M.m.rt) ∧ W.cell? ⟨b, m + 2, none⟩ = some (.int .i64 M.m.ep) ∧ W.cell? ⟨b, m + 3, none⟩ = some (.int .i64 M.m.ct) ∧ W.cell? ⟨b, m + 4, none⟩ = some (.int .i64 M.m.gn) ∧ W.cell? ⟨b, m + 5, none⟩ = some (.int .i64 M.m.st) ∧ W.cell? ⟨b, m + 6, none⟩ = some (.string M.m.bd) ∧ W.cell? ⟨b, m + 7, none⟩ = some (.int .i64 M.dl)
theorem C8.below {B : Nat} {W W' : World} {b m : Nat} {M : Le} (h : C8 W b m M) (hb : Below B W W') (hl : b < B) : C8 W' b m M := by
  obtain ⟨c0, c1, c2, c3, c4, c5, c6, c7⟩ := h
  exact ⟨(hb.cell (p := ⟨b, m, none⟩) hl).trans c0, (hb.cell (p := ⟨b, m + 1, none⟩) hl).trans c1, (hb.cell (p := ⟨b, m + 2, none⟩) hl).trans c2, (hb.cell (p := ⟨b, m + 3, none⟩) hl).trans c3, (hb.cell (p := ⟨b, m + 4, none⟩) hl).trans c4, (hb.cell (p := ⟨b, m + 5, none⟩) hl).trans c5, (hb.cell (p := ⟨b, m + 6, none⟩) hl).trans c6, (hb.cell (p := ⟨b, m + 7, none⟩) hl).trans c7⟩

section
variable {w w' : World} {B B' : Nat} {v : Value} {l : List Le} {A : Option Addr} {n c : Nat}
theorem El.nil : El w B (.slice none 0 0) [] := ⟨none, 0, rfl, Nat.le_refl _, Nat.zero_le _, Rd.nil none⟩
theorem El.keep (h : El w B v l) (hk : ∀ p : Addr, p.block < B → w'.cell? p = w.cell? p) : El w' B v l := by
  obtain ⟨A, c, e, hl, hm, h⟩ := h; exact ⟨A, c, e, hl, hm, h.keep hk⟩
theorem El.more (h : El w B v l) (hB : B ≤ B') : El w B' v l := by
  obtain ⟨A, c, e, hl, hm, h⟩ := h; exact ⟨A, c, e, hl, hm, h.more hB⟩
theorem El.below (h : El w B v l) (hb : Below B w w') : El w' B v l := h.keep fun _ hp => hb.cell hp
theorem El.drewN (h : El w B v l) (k : Nat) : El (w.drewN k) B v l := h
theorem El.drew (h : El w B v l) : El w.drew B v l := h
theorem El.alloc (h : El w B v l) (hB : B ≤ w.heap.size) (o : Obj) : El (w.alloc o) B v l := h.keep fun p hp => World.cell?_alloc_lt w o p (by omega)
theorem El.setCell (h : El w B v l) {p : Addr} (hB : B ≤ p.block) (u : Value) : El (w.setCell p u) B v l :=
  h.keep fun q hq => World.cell?_setCell_other w p q u (fun e => by subst e; omega)
theorem El.len (h : El w B (.slice A n c) l) : n = l.length ∧ n ≤ c ∧ c ≤ maxLen := by
  obtain ⟨A', c', e, hl, hm, h⟩ := h
  injection e with e1 e2 e3
  subst e2; subst e3
  exact ⟨rfl, hl, hm⟩
theorem El.rd (h : El w B (.slice A n c) l) : Rd w B 8 A n (ecs l) := by
  obtain ⟨A', c', e, hl, hm, h⟩ := h
  injection e with e1 e2 e3
  subst e1; subst e2
  exact h
theorem El.form (h : El w B v l) : ∃ A c, v = .slice A l.length c ∧ l.length ≤ c ∧ c ≤ maxLen := by
  obtain ⟨A, c, e, hl, hm, _⟩ := h; exact ⟨A, c, e, hl, hm⟩
theorem El.of_own {base : Nat} {e : TypeId} {n : Nat} (h : w.ownsRow base e 8 v n (ecs l)) : El w w.heap.size v l := by
  have hl : n = l.length := by have := h.1; rw [ecs_len] at this; omega
  subst hl
  rcases h.2 with ⟨hv, h0⟩ | ⟨g, cap, cur, hv, _, _, hl, hm, _⟩
  · subst hv; exact ⟨none, 0, by rw [h0], by omega, Nat.zero_le _, by rw [show l = [] from List.length_eq_zero_iff.1 h0]; exact Rd.nil _⟩
  · subst hv; exact ⟨_, cap, rfl, hl, hm, Rd.of_own h⟩
/-- The lease at place k, and where it lies. -/
theorem El.at_ {k : Nat} (h : El w B (.slice A n c) l) (hk : k < l.length) : ∃ b o, A = some ⟨b, o, none⟩ ∧ b < B ∧ (w.cell? ⟨b, o + k * 8, none⟩ = some (.int .i64 l[k].m.id) ∧ w.cell? ⟨b, o + k * 8 + 1, none⟩ = some (.int .i64 l[k].m.rt) ∧ w.cell? ⟨b, o + k * 8 + 2, none⟩ = some (.int .i64 l[k].m.ep) ∧ w.cell? ⟨b, o + k * 8 + 3, none⟩ = some (.int .i64 l[k].m.ct) ∧ w.cell? ⟨b, o + k * 8 + 4, none⟩ = some (.int .i64 l[k].m.gn) ∧ w.cell? ⟨b, o + k * 8 + 5, none⟩ = some (.int .i64 l[k].m.st) ∧ w.cell? ⟨b, o + k * 8 + 6, none⟩ = some (.string l[k].m.bd) ∧ w.cell? ⟨b, o + k * 8 + 7, none⟩ = some (.int .i64 l[k].dl)) := by
  have hn := h.len.1
  obtain ⟨b, o, e, hb, hc⟩ := h.rd.2 (by omega)
  have g : ∀ j u, j < 8 → l[k].l[j]? = some u → w.cell? ⟨b, o + k * 8 + j, none⟩ = some u := fun j u hj hu => by
    rw [Nat.add_assoc]; exact hc _ u (by rw [ecs_at l k j hk hj]; exact hu)
  exact ⟨b, o, e, hb, g 0 _ (by omega) rfl, g 1 _ (by omega) rfl, g 2 _ (by omega) rfl, g 3 _ (by omega) rfl, g 4 _ (by omega) rfl, g 5 _ (by omega) rfl, g 6 _ (by omega) rfl, g 7 _ (by omega) rfl⟩
/-- The lease at place k, as a range. -/
theorem El.range {k : Nat} (h : El w B (.slice A n c) l) (hk : k < l.length) : ∃ b o, A = some ⟨b, o, none⟩ ∧ b < B ∧ w.rangeAt b (o + k * 8) l[k].l := by
  have hn := h.len.1
  obtain ⟨b, o, e, hb, hc⟩ := h.rd.2 (by omega)
  refine ⟨b, o, e, hb, fun j u hu => ?_⟩
  have hj : j < 8 := (List.getElem?_eq_some_iff.1 hu).1
  rw [Nat.add_assoc]
  exact hc _ u (by rw [ecs_at l k j hk hj]; exact hu)
end

/-- Block q holds n leases, and may be written. -/
def ERow (W : World) (q n : Nat) (f : Nat → Le) : Prop := q < W.heap.size ∧ (∀ k, k < n → ∀ j, j < 8 → W.cell? ⟨q, k * 8 + j, none⟩ = (f k).l[j]?) ∧ ∀ o, W.frozen? ⟨q, o, none⟩ = false

section
variable {W W' : World} {q n : Nat} {f g : Nat → Le}
theorem ERow.below {B : Nat} (h : ERow W q n f) (hb : Below B W W') (hg : q < B) : ERow W' q n f :=
  ⟨Nat.lt_of_lt_of_le h.1 hb.size, fun k hk j hj => (hb.cell (p := ⟨q, k * 8 + j, none⟩) hg).trans (h.2.1 k hk j hj), fun o => (hb.frozen (p := ⟨q, o, none⟩) hg).trans (h.2.2 o)⟩
theorem ERow.alloc (h : ERow W q n f) (o : Obj) : ERow (W.alloc o) q n f := h.below (W' := W.alloc o) ((Below.refl W.heap.size W).alloc (Nat.le_refl _) o) h.1
theorem ERow.drew (h : ERow W q n f) : ERow W.drew q n f := h
theorem ERow.drewN (h : ERow W q n f) (k : Nat) : ERow (W.drewN k) q n f := h
theorem ERow.congr (h : ERow W q n f) (e : ∀ k, k < n → f k = g k) : ERow W q n g :=
  ⟨h.1, fun k hk j hj => by rw [h.2.1 k hk j hj, e k hk], h.2.2⟩
theorem ERow.other (h : ERow W q n f) {p : Addr} (hp : p.block ≠ q) (v : Value) : ERow (W.setCell p v) q n f :=
  ⟨by simpa using h.1, fun k hk j hj => (World.cell?_setCell_other W p _ v (fun e => hp (by rw [e]))).trans (h.2.1 k hk j hj), fun o => by rw [World.frozen?_setCell]; exact h.2.2 o⟩
theorem ERow.there (h : ERow W q n f) {k : Nat} (hk : k < n) : W.there q (k * 8) 8 := fun j hj => by
  refine ⟨?_, h.2.2 _⟩
  rw [h.2.1 k hk j hj]
  match j, hj with
  | 0, _ => rfl
  | 1, _ => rfl
  | 2, _ => rfl
  | 3, _ => rfl
  | 4, _ => rfl
  | 5, _ => rfl
  | 6, _ => rfl
  | 7, _ => rfl
theorem ERow.range (h : ERow W q n f) {k : Nat} (hk : k < n) : W.rangeAt q (k * 8) (f k).l := fun j u hu => by
  rw [h.2.1 k hk j (List.getElem?_eq_some_iff.1 hu).1]; exact hu
theorem ERow.free (h : ERow W q n f) (m : Nat) : W.frozen? ⟨q, m, none⟩ = false ∧ W.frozen? ⟨q, m + 1, none⟩ = false ∧ W.frozen? ⟨q, m + 2, none⟩ = false ∧ W.frozen? ⟨q, m + 3, none⟩ = false ∧ W.frozen? ⟨q, m + 4, none⟩ = false ∧ W.frozen? ⟨q, m + 5, none⟩ = false ∧ W.frozen? ⟨q, m + 6, none⟩ = false ∧ W.frozen? ⟨q, m + 7, none⟩ = false :=
  ⟨h.2.2 _, h.2.2 _, h.2.2 _, h.2.2 _, h.2.2 _, h.2.2 _, h.2.2 _, h.2.2 _⟩
theorem ERow.c8 (h : ERow W q n f) {k : Nat} (hk : k < n) : C8 W q (k * 8) (f k) := by
  have g := h.2.1 k hk
  exact ⟨g 0 (by omega), g 1 (by omega), g 2 (by omega), g 3 (by omega), g 4 (by omega), g 5 (by omega), g 6 (by omega), g 7 (by omega)⟩
theorem ERow.put (h : ERow W q n f) {k : Nat} (hk : k < n) (M : Le) : ERow (W.setCells q (k * 8) M.l) q n (fun i => if i = k then M else f i) := by
  refine ⟨by rw [sets_size]; exact h.1, fun i hi j hj => ?_, fun o => by rw [World.frozen?_setCells]; exact h.2.2 o⟩
  by_cases e : i = k
  · subst e
    simp only [if_true]
    rw [World.cell?_setCells_in q M.l (i * 8) W (fun j hj => (h.there hk j hj).1) j hj, List.getElem?_eq_getElem]
    rfl
  · simp only [if_neg e]
    rw [← h.2.1 i hi j hj]
    exact World.cell?_setCells_out q M.l (k * 8) W ⟨q, i * 8 + j, none⟩ (fun _ _ => by rw [Le.l_len]; show i * 8 + j < k * 8 ∨ k * 8 + 8 ≤ i * 8 + j; omega)
theorem ERow.far (h : ERow W q n f) {b : Nat} (hb : b ≠ q) (m : Nat) (vs : List Value) : ERow (W.setCells b m vs) q n f :=
  ⟨by rw [sets_size]; exact h.1, fun i hi j hj => (sets_far (p := ⟨q, i * 8 + j, none⟩) (fun e => hb e.symm) m vs).trans (h.2.1 i hi j hj), fun o => by rw [World.frozen?_setCells]; exact h.2.2 o⟩
theorem ERow.el (h : ERow W q n f) (x cap : Nat) (hx : x ≤ n) (hc : x ≤ cap) (hm : cap ≤ maxLen) : El W W.heap.size (.slice (some ⟨q, 0, none⟩) x cap) ((List.range x).map f) := by
  have hl : ((List.range x).map f).length = x := by simp
  refine ⟨_, cap, by rw [hl], by rw [hl]; exact hc, hm, by rw [ecs_len, hl], fun _ => ⟨q, 0, rfl, h.1, fun i u hu => ?_⟩⟩
  have hi : i < x * 8 := by have := (List.getElem?_eq_some_iff.1 hu).1; rw [ecs_len, hl] at this; exact this
  have e : i = i / 8 * 8 + i % 8 := by omega
  have hlt : i / 8 < x := by omega
  rw [e] at hu ⊢
  rw [ecs_at _ _ _ (by rw [hl]; exact hlt) (by omega)] at hu
  rw [Nat.zero_add, h.2.1 _ (by omega) _ (by omega), ← hu]
  simp
theorem El.sets {B : Nat} {v : Value} {l : List Le} (h : El W B v l) {b : Nat} (hb : B ≤ b) (m : Nat) (vs : List Value) : El (W.setCells b m vs) B v l :=
  h.keep fun p hp => sets_far (fun e => by omega) m vs
end
/-- A row of zero leases. -/
theorem ERow.made (w : World) (n : Nat) (t : TypeId) : ERow (w.alloc (.cells (madeCells (Le.v zL).cells (n * 8)) t)) w.heap.size n (fun _ => zL) := by
  refine ⟨by simp, fun k hk j hj => ?_, fun o => by simp [go_sem]⟩
  rw [World.cell?_alloc_new]
  have hs : (Le.v zL).cells.size = 8 := rfl
  simp only [madeCells, Array.getElem?_map, hs]
  rw [Array.getElem?_range, if_pos (by omega)]
  have e : (k * 8 + j) % 8 = j := by omega
  simp only [Option.map_some, e]
  match j, hj with
  | 0, _ => rfl
  | 1, _ => rfl
  | 2, _ => rfl
  | 3, _ => rfl
  | 4, _ => rfl
  | 5, _ => rfl
  | 6, _ => rfl
  | 7, _ => rfl
/-- A store before a list of leases leaves it. -/
theorem El.off {W : World} {B lo n c : Nat} {A : Option Addr} {l : List Le} (h : El W B (.slice A n c) l) (hA : Nw lo A) {p : Addr} (hp : p.block < lo) (v : Value) : El (W.setCell p v) B (.slice A n c) l := by
  obtain ⟨A', c', e, hl, hm, hr⟩ := h
  injection e with e1 e2 e3
  subst e1; subst e3
  refine ⟨A, c, by rw [e2], hl, hm, hr.1, fun h0 => ?_⟩
  obtain ⟨b, o, e, hb, hc⟩ := hr.2 h0
  have hlo := hA _ e
  exact ⟨b, o, e, hb, fun j u hu => (World.cell?_setCell_other W _ _ v (fun e' => by have e2 := congrArg Addr.block e'; simp at e2 hlo; omega)).trans (hc j u hu)⟩

end Go.Proofs.Ytommkhjgockpfaa
