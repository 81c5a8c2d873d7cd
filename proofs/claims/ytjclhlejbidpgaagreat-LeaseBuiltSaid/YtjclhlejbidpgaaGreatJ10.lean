/- What is proved here: Pld; lease.leaseError, lease.dueOf, lease.listError by contracts; due.Validate and slices.Clone of deadlines by contracts. -/
import Derived.Test.YtjclhlejbidpgaaGreatJ09
import Derived.Test.YtjclhlejbidpgaaGreatJ08
import Derived.WalkSpells
/- Plain: what the program's own ways of a table give: the first error of a lease, what a heap consists of, places in ascending lists. -/
namespace Go.Proofs.YtjclhlejbidpgaaGreat
set_option linter.unusedVariables false

/-- The first error of a lease alone. -/
def leE (X : Le) : Int := if vf X.m ≠ 0 then vf X.m else if X.m.gn = 0 then 7 else if X.dl < 0 ∨ 1073741824 < X.dl then 1 else 0
theorem leE_vf {X : Le} (h : vf X.m ≠ 0) : leE X = vf X.m := if_pos h
theorem leE_7 {X : Le} (h : vf X.m = 0) (h1 : X.m.gn = 0) : leE X = 7 := by unfold leE; rw [if_neg (by simpa using h), if_pos h1]
theorem leE_1 {X : Le} (h : vf X.m = 0) (h1 : X.m.gn ≠ 0) (h2 : X.dl < 0 ∨ 1073741824 < X.dl) : leE X = 1 := by unfold leE; rw [if_neg (by simpa using h), if_neg h1, if_pos h2]
theorem leE_0 {X : Le} (h : vf X.m = 0) (h1 : X.m.gn ≠ 0) (h2 : ¬ (X.dl < 0 ∨ 1073741824 < X.dl)) : leE X = 0 := by unfold leE; rw [if_neg (by simpa using h), if_neg h1, if_neg h2]
theorem leE_zero {X : Le} : leE X = 0 ↔ leOk X := by
  unfold leE leOk
  split
  · rename_i h; exact ⟨fun e => absurd e h, fun e => absurd e.1 h⟩
  · rename_i h
    have h : vf X.m = 0 := Decidable.not_not.1 h
    split
    · rename_i h2; exact ⟨fun e => by omega, fun e => absurd h2 e.2.1⟩
    · split
      · exact ⟨fun e => by omega, fun e => by omega⟩
      · exact ⟨fun _ => ⟨h, by omega, by omega, by omega⟩, fun _ => rfl⟩
/-- The ID before place k, 0 at the start. -/
def bfI (l : List Le) (k : Nat) : Int := if k = 0 then 0 else (lg l (k - 1)).id
theorem bfI_succ (l : List Le) (k : Nat) : bfI l (k + 1) = (lg l k).id := by unfold bfI; rw [if_neg (by omega), Nat.add_sub_cancel]
theorem leC_err {l : List Le} {k : Nat} (h : leE (lg l k) ≠ 0) : leC l k = leE (lg l k) := by
  unfold leC
  unfold leE at h ⊢
  split
  · rfl
  · split
    · rfl
    · split
      · rfl
      · rename_i h1 h2 h3; exact absurd (by rw [if_neg h1, if_neg h2, if_neg h3]) h
theorem leC_ord {l : List Le} {k : Nat} (h : leE (lg l k) = 0) : leC l k = if (lg l k).id ≤ bfI l k then 11 else 0 := by
  obtain ⟨h1, h2, h3, h4⟩ := leE_zero.1 h
  have := (vf_id h1).1
  unfold leC
  rw [if_neg (by simpa using h1), if_neg h2, if_neg (by omega)]
  unfold bfI
  by_cases h0 : k = 0
  · rw [if_neg (by omega), if_pos h0, if_neg (by unfold Le.id; omega)]
  · rw [if_neg h0]
    by_cases h5 : (lg l k).id ≤ (lg l (k - 1)).id
    · rw [if_pos ⟨by omega, h5⟩, if_pos h5]
    · rw [if_neg (fun h => h5 h.2), if_neg h5]
theorem leS_to {l : List Le} {i : Nat} (hi : i < l.length) (hc : leC l i ≠ 0) : ∀ d j, j + d = i → (∀ k, j ≤ k → k < i → leC l k = 0) → leS l j = leC l i
  | 0, j, e, _ => by
    obtain rfl : j = i := by omega
    exact leS_bad hi hc
  | d + 1, j, e, h => by
    rw [leS_good (by omega) (h j (Nat.le_refl _) (by omega))]
    exact leS_to hi hc d (j + 1) (by omega) fun k h1 h2 => h k (by omega) h2
theorem leS_at {l : List Le} {i : Nat} (hi : i < l.length) (hc : leC l i ≠ 0) (hn : ∀ k, k < i → leC l k = 0) : leS l 0 = leC l i := leS_to hi hc i 0 (by omega) fun k _ hk => hn k hk
theorem leS_ok {l : List Le} (hn : ∀ k, k < l.length → leC l k = 0) : leS l 0 = 0 := (leS_zero _ 0 rfl).2 fun k _ hk => hn k hk

theorem lg_map {l : List Le} {k : Nat} (hk : k < l.length) : (l.map Le.du)[k]'(by rw [List.length_map]; exact hk) = (lg l k).du := by rw [List.getElem_map, lg_get hk]
/-- The heap has an element for each lease and no other one. -/
noncomputable def cnF (h : List Du) (l : List Le) : Bool := decide ((∀ k, k < l.length → (lg l k).du ∈ h) ∧ h.length = l.length)
theorem cnF_no {h : List Du} {l : List Le} {k : Nat} (hk : k < l.length) (hn : ¬ (lg l k).du ∈ h) : cnF h l = false := decide_eq_false fun e => hn (e.1 k hk)
theorem cnF_len {h : List Du} {l : List Le} (hn : ∀ k, k < l.length → (lg l k).du ∈ h) : cnF h l = decide (h.length = l.length) := by
  unfold cnF
  rw [Bool.eq_iff_iff, decide_eq_true_iff, decide_eq_true_iff]
  exact ⟨fun e => e.2, fun e => ⟨hn, e⟩⟩
theorem cnF_ofT {h : List Du} {l : List Le} (h1 : leS l 0 = 0) (h2 : vaF h = 0) : cnF h l = ofT (l.map Le.du) h := by
  have ha : Asc Du.id (l.map Le.du) := List.pairwise_map.2 ((leS_iff l).1 h1).2
  rw [Bool.eq_iff_iff]
  refine Iff.trans ?_ (ofT_perm (vaF_ids h2)).symm
  unfold cnF
  rw [decide_eq_true_iff]
  constructor
  · rintro ⟨e1, e2⟩
    refine (perm_of_sub (nodup_of_ids ha.nodup) (fun d hd => ?_) (by rw [List.length_map]; omega)).symm
    obtain ⟨k, hk, e⟩ := List.mem_iff_getElem.1 hd
    rw [List.length_map] at hk
    rw [lg_map hk] at e
    rw [← e]
    exact e1 k hk
  · intro hp
    refine ⟨fun k hk => ?_, by rw [hp.length_eq, List.length_map]⟩
    rw [← lg_map hk]
    exact hp.mem_iff.2 (List.getElem_mem _)

/-- Whether there is an element with key x at its place. -/
def kHas {α : Type} (key : α → Int) (l : List α) (x : Int) : Bool := decide (0 ≤ kFi key l x)
section
variable {α : Type} {key : α → Int}
theorem kAt_fi {l : List α} (h : Asc key l) {x : Int} (hf : 0 ≤ kFi key l x) : kFi key l x = kAt key l x ∧ kAt key l x < l.length := by
  rcases kFi_cases key l x with ⟨e, _⟩ | ⟨k, hk, e, hi, _⟩
  · rw [e] at hf; exact absurd hf (by decide)
  · have : kAt key l x = k := kAt_hit (Nat.le_of_lt hk) (fun j hj => by rw [← hi]; exact h.lt hj hk) fun _ => by rw [hi]; exact Int.le_refl _
    rw [e, this]
    exact ⟨rfl, hk⟩
theorem kAt_eq {l : List α} {x : Int} (hl : kAt key l x < l.length) (e : key l[kAt key l x] = x) : kHas key l x = true := decide_eq_true (kFi_ge.2 ⟨_, List.getElem_mem hl, e⟩)
theorem kAt_ne {l : List α} (h : Asc key l) {x : Int} (hn : ∀ hl : kAt key l x < l.length, key l[kAt key l x] ≠ x) : kHas key l x = false := decide_eq_false fun hf => by
  obtain ⟨e, hl⟩ := kAt_fi h hf
  rcases kFi_cases key l x with ⟨e', _⟩ | ⟨k, hk, e', hi, _⟩
  · rw [e'] at hf; exact absurd hf (by decide)
  · have : k = kAt key l x := by omega
    subst this
    exact hn hl hi
theorem kHas_iff {l : List α} {x : Int} : kHas key l x = true ↔ 0 ≤ kFi key l x := decide_eq_true_iff
theorem kHas_not {l : List α} {x : Int} : kHas key l x = false ↔ kFi key l x < 0 := by
  unfold kHas
  rw [decide_eq_false_iff_not]
  omega
end
end Go.Proofs.YtjclhlejbidpgaaGreat
namespace Go.Proofs.YtjclhlejbidpgaaGreat
open Go.RowKit
set_option linter.unusedVariables false

set_option maxHeartbeats 2000000 in
theorem leaseerr_any (X : Le) (w : World) : Calls Tryz.prog 45 #[X.v] w fun e w' => e = .returned (.int .i64 (leE X)) ∧ Below w.heap.size w w' := by
  have HB := Lib.hid ((Below.refl w.heap.size w).alloc (Nat.le_refl _) (.cells #[.int .i64 X.m.id, .int .i64 X.m.rt, .int .i64 X.m.ep, .int .i64 X.m.ct, .int .i64 X.m.gn, .int .i64 X.m.st, .string X.m.bd, .int .i64 X.dl] 39))
  have HXB := Lib.hid (XB.start w X 39)
  have HM := Lib.hid (fun W => validate_any X.m W)
  by_cases hv : vf X.m = 0
  · rw [hv] at HM
    have HV := Lib.hid hv
    clear hv
    go_enter Tryz.func45, Tryz.ntmps45
    go_wp2_with fail
    obtain ⟨q, hq⟩ : ∃ q, q = w.heap.size := ⟨_, rfl⟩
    rw [← hq] at HXB ⊢
    clear hq
    generalize w.alloc (.cells #[.int .i64 X.m.id, .int .i64 X.m.rt, .int .i64 X.m.ep, .int .i64 X.m.ct, .int .i64 X.m.gn, .int .i64 X.m.st, .string X.m.bd, .int .i64 X.dl] 39) = w2 at *
    refine (HM.out _).mono ?_
    rintro e w3 ⟨rfl, hb⟩
    have HB3 := Lib.hid (HB.out.trans (hb.mono HB.out.size))
    obtain ⟨x0, x4, x7, xl⟩ := HXB.out.below hb HXB.out.2.2.2
    clear hb
    by_cases hg : X.m.gn = 0
    · have HR := Lib.hid (leE_7 HV.out hg)
      rw [hg] at x4
      clear hg
      go_wp2
      go_ret
      exact ⟨by rw [HR.out]; rfl, HB3.out⟩
    · have HG := Lib.hid hg
      have hg' : (X.m.gn == 0) = false := by simpa using hg
      clear hg
      by_cases hd1 : X.dl < 0
      · have HR := Lib.hid (leE_1 HV.out HG.out (Or.inl hd1))
        go_wp2
        go_ret
        exact ⟨by rw [HR.out]; rfl, HB3.out⟩
      · by_cases hd2 : 1073741824 < X.dl
        · have HR := Lib.hid (leE_1 HV.out HG.out (Or.inr hd2))
          go_wp2
          go_ret
          exact ⟨by rw [HR.out]; rfl, HB3.out⟩
        · have HR := Lib.hid (leE_0 HV.out HG.out (fun h => h.elim hd1 hd2))
          go_wp2
          go_ret
          exact ⟨by rw [HR.out]; rfl, HB3.out⟩
  · have HR := Lib.hid (leE_vf hv)
    have hv' : (vf X.m != 0) = true := by simpa using hv
    have hv2 : (vf X.m == 0) = false := by simpa using hv
    clear hv
    generalize vf X.m = z at *
    go_enter Tryz.func45, Tryz.ntmps45
    go_wp2_with fail
    refine (HM.out _).mono ?_
    rintro e w3 ⟨rfl, hb⟩
    have HB3 := Lib.hid (HB.out.trans (hb.mono HB.out.size))
    clear hb
    go_wp2
    go_ret
    exact ⟨by rw [HR.out]; rfl, HB3.out⟩

/-- A lease in a box, all its cells. -/
abbrev El8 (W : World) (q : Nat) (X : Le) : Prop := W.cell? ⟨q, 0, none⟩ = some (.int .i64 X.m.id) ∧ W.cell? ⟨q, 1, none⟩ = some (.int .i64 X.m.rt) ∧ W.cell? ⟨q, 2, none⟩ = some (.int .i64 X.m.ep) ∧ W.cell? ⟨q, 3, none⟩ = some (.int .i64 X.m.ct) ∧ W.cell? ⟨q, 4, none⟩ = some (.int .i64 X.m.gn) ∧ W.cell? ⟨q, 5, none⟩ = some (.int .i64 X.m.st) ∧ W.cell? ⟨q, 6, none⟩ = some (.string X.m.bd) ∧ W.cell? ⟨q, 7, none⟩ = some (.int .i64 X.dl) ∧ q < W.heap.size
theorem El8.start (w : World) (X : Le) (t : TypeId) : El8 (w.alloc (.cells #[.int .i64 X.m.id, .int .i64 X.m.rt, .int .i64 X.m.ep, .int .i64 X.m.ct, .int .i64 X.m.gn, .int .i64 X.m.st, .string X.m.bd, .int .i64 X.dl] t)) w.heap.size X :=
  ⟨by simp [go_sem], by simp [go_sem], by simp [go_sem], by simp [go_sem], by simp [go_sem], by simp [go_sem], by simp [go_sem], by simp [go_sem], by simp⟩
theorem El8.below {B : Nat} {W W' : World} {q : Nat} {X : Le} (h : El8 W q X) (hb : Below B W W') (hq : q < B) : El8 W' q X := by
  obtain ⟨h0, h1, h2, h3, h4, h5, h6, h7, hl⟩ := h
  exact ⟨(hb.cell (p := ⟨q, 0, none⟩) hq).trans h0, (hb.cell (p := ⟨q, 1, none⟩) hq).trans h1, (hb.cell (p := ⟨q, 2, none⟩) hq).trans h2, (hb.cell (p := ⟨q, 3, none⟩) hq).trans h3, (hb.cell (p := ⟨q, 4, none⟩) hq).trans h4, (hb.cell (p := ⟨q, 5, none⟩) hq).trans h5, (hb.cell (p := ⟨q, 6, none⟩) hq).trans h6, (hb.cell (p := ⟨q, 7, none⟩) hq).trans h7, Nat.lt_of_lt_of_le hl hb.size⟩
theorem dueof_any (X : Le) (w : World) : Calls Tryz.prog 47 #[X.v] w fun e w' => e = .returned X.du.v ∧ Below w.heap.size w w' := by
  have HB := Lib.hid ((Below.refl w.heap.size w).alloc (Nat.le_refl _) (.cells #[.int .i64 X.m.id, .int .i64 X.m.rt, .int .i64 X.m.ep, .int .i64 X.m.ct, .int .i64 X.m.gn, .int .i64 X.m.st, .string X.m.bd, .int .i64 X.dl] 39))
  have HXB := Lib.hid (XB.start w X 39)
  go_enter Tryz.func47, Tryz.ntmps47
  go_wp2
  exact bodyPost_ret (v := X.du.v) (by simp only [results, Tryz.results47]; go_simp <;> first | rfl | exact ⟨rfl, rfl⟩) rfl ⟨rfl, by repeat (first | exact HB.out | exact (HB.out.alloc HB.out.size _) | (refine Below.setCell ?_ ?_ _) | simp)⟩

theorem bfI_zero (l : List Le) : bfI l 0 = 0 := if_pos rfl
set_option maxHeartbeats 2000000 in
theorem listerr_any (A : Option Addr) (n c : Nat) (l : List Le) (w : World) (hv : El w w.heap.size (.slice A n c) l) :
    Calls Tryz.prog 32 #[.slice A n c] w fun e w' => e = .returned (.int .i64 (leS l 0)) ∧ Below w.heap.size w w' := by
  obtain ⟨rfl, hm1, hm2⟩ := hv.len
  have hL : l.length ≤ 9223372036854775807 := by unfold maxLen at hm2; omega
  have HV := Lib.hid hv
  have HB := Lib.hid (Below.refl w.heap.size w)
  have H0 := Lib.hid (bfI_zero l)
  clear hv hm1 hm2
  go_enter Tryz.func32, Tryz.ntmps32
  go_wp2
  go_loopw [3, 9] (fun b i wr => ∃ k : Nat, k ≤ l.length ∧ i = .int .i64 k ∧ b = .int .i64 (bfI l k) ∧ Below w.heap.size w wr ∧ ∀ j, j < k → leC l j = 0) (fun _ i _ => l.length - (intOf i).toNat)
  case atStart => exact ⟨0, by omega, rfl, by rw [H0.out], HB.out, fun j h => absurd h (by omega)⟩
  case round =>
    obtain ⟨k, hk, rfl, rfl, hb, hno⟩ := hrel
    have HN := Lib.hid hno
    have HVK := Lib.hid (HV.out.below hb)
    have HB := Lib.hid hb
    clear hno hb
    by_cases hlt : k < l.length
    · obtain ⟨b, o, rfl, _⟩ := HVK.out.some_ (by omega)
      obtain ⟨⟨c0, c1, c2, c3, c4, c5, c6, c7⟩, hb⟩ := HVK.out.c8 hlt
      obtain ⟨X, hX⟩ : ∃ X, l[k] = X := ⟨_, rfl⟩
      rw [hX] at c0 c1 c2 c3 c4 c5 c6 c7
      have HX := Lib.hid (show lg l k = X by rw [← lg_get hlt]; exact hX)
      clear hX
      have HBA := Lib.hid (HB.out.alloc HB.out.size (.cells #[.int .i64 X.m.id, .int .i64 X.m.rt, .int .i64 X.m.ep, .int .i64 X.m.ct, .int .i64 X.m.gn, .int .i64 X.m.st, .string X.m.bd, .int .i64 X.dl] 39))
      have HXB := Lib.hid (El8.start wr X 39)
      have HM := Lib.hid (fun W => leaseerr_any X W)
      have HSU := Lib.hid (bfI_succ l k)
      have HCE := Lib.hid (leC_err (l := l) (k := k))
      have HCO := Lib.hid (leC_ord (l := l) (k := k))
      rw [HX.out] at HSU HCE HCO
      have HLA := Lib.hid (fun hc => leS_at hlt hc HN.out)
      obtain ⟨z, hz⟩ : ∃ z, z = bfI l k := ⟨_, rfl⟩
      rw [← hz] at HCO ⊢
      clear hz
      go_wp2_with fail
      clear c0 c1 c2 c3 c4 c5 c6 c7
      obtain ⟨q, hq⟩ : ∃ q, q = wr.heap.size := ⟨_, rfl⟩
      rw [← hq] at HXB ⊢
      clear hq hb
      generalize wr.alloc (.cells #[.int .i64 X.m.id, .int .i64 X.m.rt, .int .i64 X.m.ep, .int .i64 X.m.ct, .int .i64 X.m.gn, .int .i64 X.m.st, .string X.m.bd, .int .i64 X.dl] 39) = w2 at *
      by_cases he : leE X = 0
      · rw [he] at HM
        have HCO := Lib.hid (HCO.out he)
        clear he HCE
        refine (HM.out _).mono ?_
        rintro e w3 ⟨rfl, hb⟩
        have HB3 := Lib.hid (HBA.out.trans (hb.mono HBA.out.size))
        obtain ⟨x0, x1, x2, x3, x4, x5, x6, x7, xl⟩ := HXB.out.below hb HXB.out.2.2.2.2.2.2.2.2
        clear hb x1 x2 x3 x4 x5 x6 x7
        by_cases hle : X.m.id ≤ z
        · have HR := Lib.hid (show leS l 0 = 11 from by
            have e : leC l k = 11 := HCO.out.trans (if_pos hle)
            exact (HLA.out (by rw [e]; decide)).trans e)
          go_wp2
          go_ret
          exact ⟨by rw [HR.out]; rfl, HB3.out⟩
        · have HNN := Lib.hid (show ∀ j, j < k + 1 → leC l j = 0 from fun j h => by
            by_cases e : j = k
            · rw [e]; exact HCO.out.trans (if_neg hle)
            · exact HN.out j (by omega))
          go_wp2
          go_roundw
          case rel => exact ⟨k + 1, by omega, by go_num, by rw [HSU.out]; rfl, HB3.out, HNN.out⟩
          case measure => simp [intOf]; omega
      · have HR := Lib.hid (show leS l 0 = leE X from (HLA.out (by rw [HCE.out he]; exact he)).trans (HCE.out he))
        have he' : (leE X != 0) = true := by simpa using he
        clear he HCE HCO
        generalize leE X = y at *
        refine (HM.out _).mono ?_
        rintro e w3 ⟨rfl, hb⟩
        have HB3 := Lib.hid (HBA.out.trans (hb.mono HBA.out.size))
        clear hb
        go_wp2
        go_ret
        exact ⟨by rw [HR.out]; rfl, HB3.out⟩
    · have HR := Lib.hid (leS_ok (l := l) (fun j hj => HN.out j (by omega)))
      go_wp2
      go_ret
      exact ⟨by rw [HR.out]; rfl, HB.out⟩
end Go.Proofs.YtjclhlejbidpgaaGreat
namespace Go.Proofs.YtjclhlejbidpgaaGreat
open Go.RowKit
set_option linter.unusedVariables false

set_option maxHeartbeats 2000000 in
theorem dvalid_any (A : Option Addr) (n c : Nat) (l : List Du) (w : World) (hv : Dl w w.heap.size (.slice A n c) l) :
    Calls Tryz.prog 33 #[.slice A n c] w fun e w' => e = .returned (.int .i64 (vaF l)) ∧ Below w.heap.size w w' := by
  obtain ⟨rfl, hm1, hm2⟩ := hv.len
  have HV := Lib.hid hv
  have HB := Lib.hid (Below.refl w.heap.size w)
  have H1 := Lib.hid (fun w1 hv => dcontains_any A l.length c l w1 hv)
  have H2 := Lib.hid (fun w1 hv => dsame_any A l.length c l w1 hv)
  have H3 := Lib.hid (fun h w1 hv => dordered_any A l.length c l w1 hv h)
  clear hv hm1 hm2
  by_cases h12 : 12 < l.length
  · have HR := Lib.hid (vaF_2 h12)
    have h12' : (12 : Int) < (l.length : Int) := by omega
    go_enter Tryz.func33, Tryz.ntmps33
    go_wp2
    go_ret
    exact ⟨by rw [HR.out]; rfl, HB.out⟩
  · have h12' : ¬ (12 : Int) < (l.length : Int) := by omega
    have H3 := Lib.hid (H3.out (by omega))
    have HL := Lib.hid (show l.length ≤ 12 by omega)
    have HC := Lib.hid (fun a b d => And.intro (vaF_1 (h := l) HL.out) (And.intro (fun x => vaF_10 (h := l) HL.out x a) (And.intro (fun x y => vaF_11 (h := l) HL.out x y b) (fun x y => vaF_0 (h := l) HL.out x y d))))
    cases hs : snD l with
    | false =>
      have HR := Lib.hid (vaF_1 (h := l) HL.out hs)
      rw [hs] at H1
      go_enter Tryz.func33, Tryz.ntmps33
      go_wp2_with fail
      refine (H1.out _ HV.out).mono ?_
      rintro e w1 ⟨rfl, hb⟩
      have HB1 := Lib.hid hb
      clear hb
      go_wp2
      go_ret
      exact ⟨by rw [HR.out]; rfl, HB1.out⟩
    | true =>
      rw [hs] at H1
      cases hd : dpD l with
      | true =>
        have HR := Lib.hid (vaF_10 (h := l) HL.out hs hd)
        rw [hd] at H2
        go_enter Tryz.func33, Tryz.ntmps33
        go_wp2_with fail
        refine (H1.out _ HV.out).mono ?_
        rintro e w1 ⟨rfl, hb⟩
        have HB1 := Lib.hid hb
        clear hb
        go_wp2_with fail
        refine (H2.out _ (HV.out.up HB1.out)).mono ?_
        rintro e w2 ⟨rfl, hb⟩
        have HB2 := Lib.hid (HB1.out.trans (hb.mono HB1.out.size))
        clear hb
        go_wp2
        go_ret
        exact ⟨by rw [HR.out]; rfl, HB2.out⟩
      | false =>
        rw [hd] at H2
        cases ho : hpD l with
        | false =>
          have HR := Lib.hid (vaF_11 (h := l) HL.out hs hd ho)
          rw [ho] at H3
          go_enter Tryz.func33, Tryz.ntmps33
          go_wp2_with fail
          refine (H1.out _ HV.out).mono ?_
          rintro e w1 ⟨rfl, hb⟩
          have HB1 := Lib.hid hb
          clear hb
          go_wp2_with fail
          refine (H2.out _ (HV.out.up HB1.out)).mono ?_
          rintro e w2 ⟨rfl, hb⟩
          have HB2 := Lib.hid (HB1.out.trans (hb.mono HB1.out.size))
          clear hb
          go_wp2_with fail
          refine (H3.out _ (HV.out.up HB2.out)).mono ?_
          rintro e w3 ⟨rfl, hb⟩
          have HB3 := Lib.hid (HB2.out.trans (hb.mono HB2.out.size))
          clear hb
          go_wp2
          go_ret
          exact ⟨by rw [HR.out]; rfl, HB3.out⟩
        | true =>
          have HR := Lib.hid (vaF_0 (h := l) HL.out hs hd ho)
          rw [ho] at H3
          go_enter Tryz.func33, Tryz.ntmps33
          go_wp2_with fail
          refine (H1.out _ HV.out).mono ?_
          rintro e w1 ⟨rfl, hb⟩
          have HB1 := Lib.hid hb
          clear hb
          go_wp2_with fail
          refine (H2.out _ (HV.out.up HB1.out)).mono ?_
          rintro e w2 ⟨rfl, hb⟩
          have HB2 := Lib.hid (HB1.out.trans (hb.mono HB1.out.size))
          clear hb
          go_wp2_with fail
          refine (H3.out _ (HV.out.up HB2.out)).mono ?_
          rintro e w3 ⟨rfl, hb⟩
          have HB3 := Lib.hid (HB2.out.trans (hb.mono HB2.out.size))
          clear hb
          go_wp2
          go_ret
          exact ⟨by rw [HR.out]; rfl, HB3.out⟩

theorem info_due : (Tryz.prog.info? 41).map (fun i => (i.zero, i.size, i.bytes)) = some (some (.agg #[.int .i64 0, .int .i64 0]), 2, 16) := by kernel_rfl
/-- A copy, that the call owns. -/
def DClP (w : World) (l : List Du) (e : Ending) (w' : World) : Prop := ∃ v, e = .returned v ∧ w'.ownsRow w.heap.size 41 2 v l.length (dcs l) ∧ Below w.heap.size w w'
theorem dclone_end {w w1 : World} {l : List Du} {v1 : Value} {o : Obj} (hown : w1.ownsRow w.heap.size 41 2 v1 (0 + l.length) ([] ++ dcs l)) (hg : (w.alloc o).grownBy w1 (Value.ownBlock (.slice (some ⟨w.heap.size, 0, none⟩) 0 0))) : DClP w l (.returned v1) w1 := by
  rw [Nat.zero_add, List.nil_append] at hown
  exact ⟨v1, rfl, hown, (((Below.refl _ _).alloc (Nat.le_refl _) o)).grown hg (by simp) (fun k hk => by simp [Value.ownBlock] at hk; omega)⟩

set_option maxHeartbeats 2000000 in
theorem dclone_any (A : Option Addr) (n c : Nat) (l : List Du) (w : World) (hv : Dl w w.heap.size (.slice A n c) l) (h2 : n ≤ 1000) :
    Calls Tryz.prog 77 #[.slice A n c] w (DClP w l) := by
  obtain ⟨rfl, hm1, hm2⟩ := hv.len
  obtain ⟨i0, hi0, hz0⟩ := Option.map_eq_some_iff.1 info_due
  simp only [Prod.mk.injEq] at hz0
  have HI := Lib.hid hi0
  have HZ := Lib.hid hz0
  have HV := Lib.hid hv
  have heq : ∀ W, (binOp .eql 23 (.slice A l.length c) (.slice none 0 0)).run Tryz.prog W = .ok (.bool A.isNone) W := fun W => Lib.run_eql_slice_nil W _ _ _ _ _ _ _ Tryz.underlying23
  have HRD := Lib.hid hv.rd
  clear hv hi0 hz0
  cases A with
  | none =>
    have hl : l = [] := by
      cases l with
      | nil => rfl
      | cons d l => obtain ⟨b, o, e, _⟩ := HRD.out.2 (by simp); cases e
    subst hl
    have HP := Lib.hid (show DClP w [] (.returned (.slice none 0 0)) w from ⟨_, rfl, World.ownsRow_nil w _ _ _, Below.refl _ _⟩)
    simp only [List.length_nil, Option.isNone_none] at heq ⊢
    go_enter Tryz.func77, Tryz.ntmps77
    go_wp2
    go_ret
    exact HP.out
  | some a =>
    simp only [Option.isNone_some] at heq
    go_enter Tryz.func77, Tryz.ntmps77
    go_wp2_with (at_builtin; refine wpList_append_rd _ rfl (.tmp 5) (.tmp 6) 23 rfl w.heap.size 41 i0 _ 2 16 Tryz.underlying23 HI.out HZ.out.1 HZ.out.2.1 HZ.out.2.2 rfl (by omega) (.slice (some ⟨w.heap.size, 0, none⟩) 0 0) 0 [] rfl (World.ownsRow_made w #[] 0 (Nat.le_refl _) (Nat.zero_le _) rfl) w.heap.size (some a) l.length c (dcs l) rfl (HV.out.alloc (Nat.le_refl _) _).rd (dcs_one l) (by unfold maxLen; omega) (by omega) (by simp) ?_; intro v1 w1 hown1 hg1 hat1)
    have HP := Lib.hid (dclone_end hown1 hg1)
    clear hown1 hg1 hat1
    go_wp2
    go_ret
    exact HP.out
end Go.Proofs.YtjclhlejbidpgaaGreat
