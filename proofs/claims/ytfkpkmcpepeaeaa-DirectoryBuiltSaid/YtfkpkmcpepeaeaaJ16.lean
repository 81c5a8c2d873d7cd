/- What is proved here: (plain) a change of a valid directory gives a valid one; (plain) Apply of a valid directory gives a valid one; New gives a valid one; (plain) each route has exactly one owner; New gives a valid directory. -/
import Derived.Test.YtfkpkmcpepeaeaaJ15
import Derived.Test.YtfkpkmcpepeaeaaJ09
import Derived.Test.YtfkpkmcpepeaeaaJ14
namespace Go.Proofs.Ytfkpkmcpepeaeaa
set_option linter.unusedVariables false

/-- Spans from n on, up to before m. -/
def chN : Int → List Sp → Int → Prop
  | n, [], m => n = m
  | n, x :: l, m => x.lo = n ∧ x.lo ≤ x.hi ∧ x.hi ≤ 65535 ∧ chN (x.hi + 1) l m
theorem cv_ch (n : Int) (l : List Sp) : cvD n l = true ↔ chN n l 65536 := by
  induction l generalizing n with
  | nil => simp [cvD, chN]
  | cons x l ih => simp [cvD, chN, ih]
theorem ch_app (n : Int) (a b : List Sp) (m : Int) : chN n (a ++ b) m ↔ ∃ k, chN n a k ∧ chN k b m := by
  induction a generalizing n with
  | nil => simp [chN]
  | cons x a ih =>
    simp only [List.cons_append, chN, ih]
    constructor
    · rintro ⟨h1, h2, h3, k, h4, h5⟩
      exact ⟨k, ⟨h1, h2, h3, h4⟩, h5⟩
    · rintro ⟨k, ⟨h1, h2, h3, h4⟩, h5⟩
      exact ⟨h1, h2, h3, k, h4, h5⟩
theorem sg_split {l : List Sp} {i : Nat} (h : i < l.length) : l = l.take i ++ sg l i :: l.drop (i + 1) := by
  rw [sg_get h, ← List.drop_eq_getElem_cons h, List.take_append_drop]
/-- A valid list of spans. -/
structure OkL (n : Nat) (l : List Sp) : Prop where
  ch : chN 0 l 65536
  ms : ∀ x ∈ l, slotP n x.sh
  nd : (l.map (·.sh)).Nodup
theorem nd_du {l : List Sp} : (l.map (·.sh)).Nodup ↔ ¬ duD l := by
  unfold List.Nodup
  rw [List.pairwise_iff_getElem]
  constructor
  · rintro h ⟨i, j, hij, hj, e⟩
    have := h i j (by simp; omega) (by simpa using hj) hij
    rw [List.getElem_map, List.getElem_map, ← sg_get, ← sg_get] at this
    exact this e
  · intro h i j hi hj hij e
    rw [List.getElem_map, List.getElem_map, ← sg_get, ← sg_get] at e
    exact h ⟨i, j, hij, by simpa using hj, e⟩
theorem OkD.okl {d : Dd} (h : OkD d) : OkL d.F.length d.l := by
  refine ⟨(cv_ch _ _).1 ((cvD_iff _).2 ⟨h.sp, h.en⟩), fun x hx => ?_, nd_du.2 h.du⟩
  obtain ⟨k, hk, rfl⟩ := List.getElem_of_mem hx
  have := h.ms k hk
  rwa [sg_get hk] at this
theorem OkL.okd {d : Dd} (h : OkL d.F.length d.l) (hr : rgD d) (hf : foD d.l d.F) : OkD d := by
  have h1 := (cvD_iff _).1 ((cv_ch _ _).2 h.ch)
  exact ⟨hr, h1.1, h1.2, fun k hk => h.ms _ (sg_mem hk), nd_du.1 h.nd, hf.1, hf.2⟩
/-- A split. -/
theorem OkL.split {n : Nat} {A B : List Sp} {x : Sp} {md t9 : Int} (h : OkL n (A ++ x :: B)) (h1 : x.lo ≤ md ∧ md < x.hi) (h2 : slotP n t9) (h3 : ∀ y ∈ A ++ x :: B, y.sh ≠ t9) : OkL n (A ++ ⟨x.lo, md, x.sh⟩ :: ⟨md + 1, x.hi, t9⟩ :: B) := by
  obtain ⟨k, c1, c2, c3, c4, c5⟩ := (ch_app _ _ _ _).1 h.ch
  refine ⟨(ch_app _ _ _ _).2 ⟨k, c1, c2, h1.1, by show md ≤ 65535; omega, rfl, by show md + 1 ≤ x.hi; omega, c4, c5⟩, fun y hy => ?_, ?_⟩
  · rw [List.mem_append, List.mem_cons, List.mem_cons] at hy
    rcases hy with hy | rfl | rfl | hy
    · exact h.ms y (by simp [hy])
    · exact h.ms x (by simp)
    · exact h2
    · exact h.ms y (by simp [hy])
  · have e : (A ++ (⟨x.lo, md, x.sh⟩ : Sp) :: ⟨md + 1, x.hi, t9⟩ :: B).map (·.sh) = (A.map (·.sh) ++ [x.sh]) ++ t9 :: B.map (·.sh) := by simp
    rw [e]
    refine (List.perm_middle.nodup_iff).2 (List.nodup_cons.2 ⟨fun hm => ?_, ?_⟩)
    · have hm' : t9 ∈ (A ++ x :: B).map (·.sh) := by simpa using hm
      obtain ⟨y, hy, he⟩ := List.mem_map.1 hm'
      exact h3 y hy he
    · have := h.nd
      simpa using this
/-- A merge. -/
theorem OkL.merge {n : Nat} {A B : List Sp} {x y : Sp} {t9 : Int} (h : OkL n (A ++ x :: y :: B)) (h1 : t9 = x.sh ∨ t9 = y.sh) : OkL n (A ++ ⟨x.lo, y.hi, t9⟩ :: B) := by
  obtain ⟨k, c1, c2, c3, c4, c5, c6, c7, c8⟩ := (ch_app _ _ _ _).1 h.ch
  refine ⟨(ch_app _ _ _ _).2 ⟨k, c1, c2, by show x.lo ≤ y.hi; omega, c7, c8⟩, fun z hz => ?_, ?_⟩
  · rw [List.mem_append, List.mem_cons] at hz
    rcases hz with hz | rfl | hz
    · exact h.ms z (by simp [hz])
    · rcases h1 with rfl | rfl
      · exact h.ms x (by simp)
      · exact h.ms y (by simp)
    · exact h.ms z (by simp [hz])
  · have hn := h.nd
    have e : (A ++ (⟨x.lo, y.hi, t9⟩ : Sp) :: B).map (·.sh) = A.map (·.sh) ++ t9 :: B.map (·.sh) := by simp
    have e2 : (A ++ x :: y :: B).map (·.sh) = A.map (·.sh) ++ x.sh :: y.sh :: B.map (·.sh) := by simp
    rw [e]
    rw [e2] at hn
    rcases h1 with rfl | rfl
    · exact List.Pairwise.sublist (List.Sublist.append_left (List.Sublist.cons_cons _ (List.sublist_cons_self _ _)) _) hn
    · exact List.Pairwise.sublist (List.Sublist.append_left (List.sublist_cons_self _ _) _) hn
end Go.Proofs.Ytfkpkmcpepeaeaa
namespace Go.Proofs.Ytfkpkmcpepeaeaa
set_option linter.unusedVariables false

theorem spE_ok {d : Dd} {e : Ed} (h : spE d e = 0) : 0 ≤ ixS d.l e.fr ∧ ixS d.l e.to < 0 ∧ (sg d.l (ixS d.l e.fr).toNat).lo ≤ e.md ∧ e.md < (sg d.l (ixS d.l e.fr).toNat).hi := by
  unfold spE at h
  by_cases h1 : ixS d.l e.fr < 0 ∨ 0 ≤ ixS d.l e.to
  · rw [if_pos h1] at h; exact absurd h (by decide)
  · rw [if_neg h1] at h
    by_cases h2 : (sg d.l (ixS d.l e.fr).toNat).lo ≤ e.md ∧ e.md < (sg d.l (ixS d.l e.fr).toNat).hi
    · exact ⟨by omega, by omega, h2.1, h2.2⟩
    · rw [if_neg h2] at h; exact absurd h (by decide)
theorem meE_ok {d : Dd} {e : Ed} (h : meE d e = 0) : 0 ≤ ixS d.l e.fr ∧ 0 ≤ ixS d.l e.to ∧ (ixS d.l e.fr - ixS d.l e.to = 1 ∨ ixS d.l e.to - ixS d.l e.fr = 1) := by
  unfold meE at h
  by_cases h1 : (ixS d.l e.fr < 0 ∨ ixS d.l e.to < 0) ∨ (ixS d.l e.fr - ixS d.l e.to ≠ 1 ∧ ixS d.l e.to - ixS d.l e.fr ≠ 1)
  · rw [if_pos h1] at h; exact absurd h (by decide)
  · omega
theorem spD_ok {d : Dd} {e : Ed} (h : OkD d) (hE : spE d e = 0) (hto : slotP d.F.length e.to) (hv : d.vn ≠ 1099511627776) : OkD (spD d e) := by
  obtain ⟨h1, h2, h3, h4⟩ := spE_ok hE
  obtain ⟨i, hi, hil, hs, _⟩ := ixS_pos h1
  rw [hi] at h3 h4
  have hi' : (i : Int).toNat = i := rfl
  rw [hi'] at h3 h4
  have hne := (ixS_neg (by omega : ¬ 0 ≤ ixS d.l e.to)).2
  have hno : ∀ y ∈ d.l, y.sh ≠ e.to := fun y hy => by
    obtain ⟨k, hk, rfl⟩ := List.getElem_of_mem hy
    have := hne k hk
    rwa [sg_get hk] at this
  have hl := sg_split hil
  have hD : spD d e = ⟨d.vn + 1, d.l.take i ++ ⟨(sg d.l i).lo, e.md, (sg d.l i).sh⟩ :: ⟨e.md + 1, (sg d.l i).hi, e.to⟩ :: d.l.drop (i + 1), d.F.set e.to.toNat (-1)⟩ := by
    unfold spD spL
    rw [hi, hi', hs]
  have ho := h.okl
  rw [hl] at ho hno
  have hO := ho.split (md := e.md) (t9 := e.to) ⟨h3, h4⟩ hto hno
  have htn : e.to.toNat < d.F.length := by have := hto; omega
  rw [← hl] at hno
  have hrg := h.rg
  have hmem : ∀ s : Int, s ≠ e.to → hasS (spD d e).l s → hasS d.l s := fun s hse hh => by
    rw [hD] at hh
    obtain ⟨z, hz, rfl⟩ := hasS_iff.1 hh
    have hz' : z ∈ d.l.take i ++ ⟨(sg d.l i).lo, e.md, (sg d.l i).sh⟩ :: ⟨e.md + 1, (sg d.l i).hi, e.to⟩ :: d.l.drop (i + 1) := hz
    rw [List.mem_append, List.mem_cons, List.mem_cons] at hz'
    rcases hz' with hz | rfl | rfl | hz
    · exact hasS_iff.2 ⟨z, List.mem_of_mem_take hz, rfl⟩
    · exact hasS_iff.2 ⟨sg d.l i, sg_mem hil, rfl⟩
    · exact absurd rfl hse
    · exact hasS_iff.2 ⟨z, List.mem_of_mem_drop hz, rfl⟩
  have hF : (spD d e).F = d.F.set e.to.toNat (-1) := by rw [hD]
  have hFL : (spD d e).F.length = d.F.length := by rw [hF, List.length_set]
  have hf1 : ∀ j, j < (spD d e).F.length → f1D (spD d e).l (spD d e).F j := fun j hj => by
    rw [hFL] at hj
    have k := h.f1 j hj
    unfold f1D
    rw [hFL, hF, ig_set htn]
    by_cases hje : j = e.to.toNat
    · rw [if_pos hje]
      exact ⟨by omega, fun _ => rfl⟩
    · rw [if_neg hje]
      exact ⟨k.1, fun hh => k.2 (hmem _ (by have := hto.1; omega) hh)⟩
  refine OkL.okd ?_ ?_ ⟨hf1, fun j hj => ?_⟩
  · rw [hFL, hD]; exact hO
  · unfold rgD at hrg ⊢
    rw [hFL]
    have : (spD d e).vn = d.vn + 1 := rfl
    rw [this]
    omega
  · rw [hFL] at hj ⊢
    rw [hF]
    exact fw_split htn (h.f2 j hj)
theorem meD_ok {d : Dd} {e : Ed} (h : OkD d) (hE : meE d e = 0) (hfr : slotP d.F.length e.fr) (hto : slotP d.F.length e.to) (hv : d.vn ≠ 1099511627776) : OkD (meD d e) := by
  obtain ⟨h1, h2, h3⟩ := meE_ok hE
  obtain ⟨i, hi, hil, hsi, _⟩ := ixS_pos h1
  obtain ⟨j, hj, hjl, hsj, _⟩ := ixS_pos h2
  obtain ⟨f, hf⟩ : ∃ f : Nat, (min (ixS d.l e.fr) (ixS d.l e.to)).toNat = f := ⟨_, rfl⟩
  have hfx : f + 1 < d.l.length ∧ ((f = i ∧ f + 1 = j) ∨ (f = j ∧ f + 1 = i)) := by
    rw [hi, hj] at hf h3
    omega
  have hsh : ((sg d.l f).sh = e.fr ∧ (sg d.l (f + 1)).sh = e.to) ∨ ((sg d.l f).sh = e.to ∧ (sg d.l (f + 1)).sh = e.fr) := by
    rcases hfx.2 with ⟨rfl, e2⟩ | ⟨rfl, e2⟩
    · left; rw [e2]; exact ⟨hsi, hsj⟩
    · right; rw [e2]; exact ⟨hsj, hsi⟩
  have hl : d.l = d.l.take f ++ sg d.l f :: sg d.l (f + 1) :: d.l.drop (f + 2) := by
    have e2 : d.l.drop (f + 1) = sg d.l (f + 1) :: d.l.drop (f + 2) := by rw [sg_get hfx.1]; exact List.drop_eq_getElem_cons hfx.1
    rw [← e2]; exact sg_split (by omega)
  have hD : meD d e = ⟨d.vn + 1, d.l.take f ++ ⟨(sg d.l f).lo, (sg d.l (f + 1)).hi, e.to⟩ :: d.l.drop (f + 2), d.F.set e.fr.toNat e.to⟩ := by
    unfold meD meL
    rw [hf]
  have ho := h.okl
  rw [hl] at ho
  have hO := ho.merge (t9 := e.to) (by rcases hsh with ⟨_, k⟩ | ⟨k, _⟩; exact .inr k.symm; exact .inl k.symm)
  have hnd := ho.nd
  have e2 : (d.l.take f ++ sg d.l f :: sg d.l (f + 1) :: d.l.drop (f + 2)).map (·.sh) = (d.l.take f).map (·.sh) ++ (sg d.l f).sh :: (sg d.l (f + 1)).sh :: (d.l.drop (f + 2)).map (·.sh) := by simp
  rw [e2] at hnd
  have hfo : e.fr ≠ e.to ∧ (∀ z ∈ d.l.take f, z.sh ≠ e.fr) ∧ (∀ z ∈ d.l.drop (f + 2), z.sh ≠ e.fr) := by
    have k1 := List.nodup_cons.1 ((List.perm_middle.nodup_iff).1 hnd)
    have hnd2 : (((d.l.take f).map (·.sh) ++ [(sg d.l f).sh]) ++ (sg d.l (f + 1)).sh :: (d.l.drop (f + 2)).map (·.sh)).Nodup := by simpa using hnd
    have k2 := List.nodup_cons.1 ((List.perm_middle.nodup_iff).1 hnd2)
    have m1 := k1.1
    have m2 := k2.1
    simp only [List.mem_append, List.mem_cons, List.mem_map, List.not_mem_nil, or_false, not_or, not_exists, not_and] at m1 m2
    rcases hsh with ⟨s1, s2⟩ | ⟨s1, s2⟩
    · rw [s1] at m1
      rw [s2] at m1
      exact ⟨m1.2.1, fun z hz => m1.1 z hz, fun z hz => m1.2.2 z hz⟩
    · rw [s2, s1] at m2
      exact ⟨m2.1.2, fun z hz => m2.1.1 z hz, fun z hz => m2.2 z hz⟩
  have htn : e.fr.toNat < d.F.length := by have := hfr; omega
  have hrg := h.rg
  have hno : ¬ hasS (meD d e).l e.fr := fun hh => by
    rw [hD] at hh
    obtain ⟨z, hz, hzs⟩ := hasS_iff.1 hh
    have hz' : z ∈ d.l.take f ++ ⟨(sg d.l f).lo, (sg d.l (f + 1)).hi, e.to⟩ :: d.l.drop (f + 2) := hz
    rw [List.mem_append, List.mem_cons] at hz'
    rcases hz' with hz | rfl | hz
    · exact hfo.2.1 z hz hzs
    · exact hfo.1 hzs.symm
    · exact hfo.2.2 z hz hzs
  have hmem : ∀ s : Int, hasS (meD d e).l s → hasS d.l s := fun s hh => by
    rw [hD] at hh
    obtain ⟨z, hz, rfl⟩ := hasS_iff.1 hh
    have hz' : z ∈ d.l.take f ++ ⟨(sg d.l f).lo, (sg d.l (f + 1)).hi, e.to⟩ :: d.l.drop (f + 2) := hz
    rw [List.mem_append, List.mem_cons] at hz'
    rcases hz' with hz | rfl | hz
    · exact hasS_iff.2 ⟨z, List.mem_of_mem_take hz, rfl⟩
    · exact h2
    · exact hasS_iff.2 ⟨z, List.mem_of_mem_drop hz, rfl⟩
  have hF : (meD d e).F = d.F.set e.fr.toNat e.to := by rw [hD]
  have hFL : (meD d e).F.length = d.F.length := by rw [hF, List.length_set]
  have hf1 : ∀ j, j < (meD d e).F.length → f1D (meD d e).l (meD d e).F j := fun j hj => by
    rw [hFL] at hj
    have k := h.f1 j hj
    unfold f1D
    rw [hFL, hF, ig_set htn]
    by_cases hje : j = e.fr.toNat
    · rw [if_pos hje]
      have := hto
      refine ⟨by omega, fun hh => absurd hh ?_⟩
      rw [show (j : Int) = e.fr by have := hfr.1; omega]
      exact hno
    · rw [if_neg hje]
      exact ⟨k.1, fun hh => k.2 (hmem _ hh)⟩
  refine OkL.okd ?_ ?_ ⟨hf1, fun j hj => ?_⟩
  · rw [hFL, hD]; exact hO
  · unfold rgD at hrg ⊢
    rw [hFL]
    have : (meD d e).vn = d.vn + 1 := rfl
    rw [this]
    omega
  · have hx : ig d.F e.to.toNat = -1 := (h.f1 e.to.toNat (by have := hto; omega)).2 (by rw [Int.toNat_of_nonneg hto.1]; exact h2)
    rw [hFL] at hj
    have k := fw_merge htn hto.1 (by have := hfo.1; have := hto.1; have := hfr.1; omega) hx (h.f2 j hj)
    rw [← hF] at k
    exact fw_le (fun i hi => (hf1 i hi).1) (by rw [hFL]; omega) k
/-- Apply keeps a directory valid. -/
theorem apD_ok {d : Dd} {e : Ed} (hE : apE d e = 0) : vaD (apD d e) = 0 ∧ (apD d e).vn = d.vn + 1 ∧ (apD d e).F.length = d.F.length := by
  by_cases hN : apN d e = 0
  · obtain ⟨hv, h1, h2, h3, h4⟩ := apN_ok hN
    have ho := ok_va hv
    rcases h2 with hk | hk
    · rw [apD_1 hE hk]
      rw [apE_1 hN hk] at hE
      exact ⟨(spD_ok ho hE h4 h1).va, rfl, by simp [spD]⟩
    · rw [apD_2 hE hk]
      rw [apE_2 hN hk] at hE
      exact ⟨(meD_ok ho hE h3 h4 h1).va, rfl, by simp [meD]⟩
  · rw [apE_N hN] at hE
    exact absurd hE hN
end Go.Proofs.Ytfkpkmcpepeaeaa
namespace Go.Proofs.Ytfkpkmcpepeaeaa
set_option linter.unusedVariables false

theorem ch_ge {n m : Int} {l : List Sp} (h : chN n l m) : ∀ y ∈ l, n ≤ y.lo := by
  induction l generalizing n with
  | nil => intro y hy; cases hy
  | cons x l ih =>
    obtain ⟨h1, h2, h3, h4⟩ := h
    intro y hy
    rw [List.mem_cons] at hy
    rcases hy with rfl | hy
    · omega
    · have := ih h4 y hy; omega
/-- The span of a route. -/
theorem ch_own {n m r : Int} {l : List Sp} (h : chN n l m) (h1 : n ≤ r) (h2 : r < m) : ∃ x ∈ l, (x.lo ≤ r ∧ r ≤ x.hi) ∧ owN l r = x.sh ∧ ∀ y ∈ l, y.lo ≤ r → r ≤ y.hi → y = x := by
  induction l generalizing n with
  | nil => simp only [chN] at h; omega
  | cons x l ih =>
    obtain ⟨c1, c2, c3, c4⟩ := h
    by_cases hr : r ≤ x.hi
    · refine ⟨x, by simp, ⟨by omega, hr⟩, by rw [owN, if_pos ⟨by omega, hr⟩], fun y hy e1 e2 => ?_⟩
      rw [List.mem_cons] at hy
      rcases hy with rfl | hy
      · rfl
      · have := ch_ge c4 y hy; omega
    · obtain ⟨z, hz, k1, k2, k3⟩ := ih c4 (by omega)
      refine ⟨z, by simp [hz], k1, by rw [owN, if_neg (by omega)]; exact k2, fun y hy e1 e2 => ?_⟩
      rw [List.mem_cons] at hy
      rcases hy with rfl | hy
      · omega
      · exact k3 y hy e1 e2
/-- A slot's span holds a route exactly if the slot is its owner. -/
theorem own_iff {d : Dd} {r : Int} (h : vaD d = 0) (h0 : 0 ≤ r) (h1 : r ≤ 65535) (j : Int) : (spnB d j = true ∧ (spnD d j).lo ≤ r ∧ r ≤ (spnD d j).hi) ↔ j = ownD d r := by
  have ho := ok_va h
  obtain ⟨x, hx, hr, hw, hu⟩ := ch_own ho.okl.ch h0 (by omega : r < 65536)
  rw [ownD_ok h, hw]
  have hnd : ∀ a b, a < d.l.length → b < d.l.length → (sg d.l a).sh = (sg d.l b).sh → a = b := fun a b ha hb he => by
    rcases Nat.lt_trichotomy a b with k | k | k
    · exact absurd ⟨a, b, k, hb, he⟩ ho.du
    · exact k
    · exact absurd ⟨b, a, k, ha, he.symm⟩ ho.du
  constructor
  · rintro ⟨e1, e2, e3⟩
    have hb : vaD d = 0 ∧ 0 ≤ ixS d.l j := by simpa [spnB] using e1
    obtain ⟨i, hi, hil, hs, _⟩ := ixS_pos hb.2
    have hsp : spnD d j = sg d.l i := by unfold spnD; rw [if_pos hb, hi]; rfl
    rw [hsp] at e2 e3
    have := hu _ (sg_mem hil) e2 e3
    rw [← this, hs]
  · rintro rfl
    have hb : 0 ≤ ixS d.l x.sh := hasS_iff.2 ⟨x, hx, rfl⟩
    obtain ⟨i, hi, hil, hs, _⟩ := ixS_pos hb
    have hsp : spnD d x.sh = sg d.l i := by unfold spnD; rw [if_pos ⟨h, hb⟩, hi]; rfl
    obtain ⟨k, hk, rfl⟩ := List.getElem_of_mem hx
    have hik : i = k := hnd i k hil hk (by rw [hs, sg_get hk])
    rw [hsp, hik, sg_get hk]
    refine ⟨?_, hr⟩
    simpa [spnB, h] using hb
theorem own_slot {d : Dd} {r : Int} (h : vaD d = 0) (h0 : 0 ≤ r) (h1 : r ≤ 65535) : slotP d.F.length (ownD d r) := by
  have ho := ok_va h
  obtain ⟨x, hx, hr, hw, hu⟩ := ch_own ho.okl.ch h0 (by omega : r < 65536)
  rw [ownD_ok h, hw]
  exact ho.okl.ms x hx
theorem spn_sh {d : Dd} {j : Int} (h : spnB d j = true) : (spnD d j).sh = j := by
  have hb : vaD d = 0 ∧ 0 ≤ ixS d.l j := by simpa [spnB] using h
  obtain ⟨i, hi, hil, hs, _⟩ := ixS_pos hb.2
  have hsp : spnD d j = sg d.l i := by unfold spnD; rw [if_pos hb, hi]; rfl
  rw [hsp, hs]
theorem nw_va {n m : Nat} (h1 : 1 ≤ m) (h2 : m ≤ n) (h3 : n ≤ 6) : vaD (nwD n m) = 0 := by
  have hE : nwE10 n m = 0 := by unfold nwE10; rw [if_pos (by omega)]
  have e : nwD n m = ⟨1, nwL m m, List.replicate n (-1)⟩ := by unfold nwD; rw [if_pos hE]; simp
  rw [e]
  clear hE e
  have hn : n = 1 ∨ n = 2 ∨ n = 3 ∨ n = 4 ∨ n = 5 ∨ n = 6 := by omega
  have hm : m = 1 ∨ m = 2 ∨ m = 3 ∨ m = 4 ∨ m = 5 ∨ m = 6 := by omega
  rcases hn with rfl | rfl | rfl | rfl | rfl | rfl <;> rcases hm with rfl | rfl | rfl | rfl | rfl | rfl
  all_goals first
    | (exfalso; omega)
    | exact vaD_dec (by unfold rgD; decide +kernel) (by decide +kernel) (by decide +kernel) (by decide +kernel) (by decide +kernel) (by decide +kernel)
end Go.Proofs.Ytfkpkmcpepeaeaa
