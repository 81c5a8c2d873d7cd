/- What is proved here: Tvd; Twd; Pld; shardqueueref06.find by a contract; a table in a block. -/
import Derived.Test.YtommkhjgockpfaaJ09
import Derived.Test.YtommkhjgockpfaaJ02
import Derived.Test.YtommkhjgockpfaaRows
import Derived.WalkKit
import Derived.Outline
import Derived.IntWalk
/- Plain: tables of leases: Validate's answer, what Grant, Release and Extend return, and that a table stays valid. -/
namespace Go.Proofs.Ytommkhjgockpfaa
set_option linter.unusedVariables false

/-- The ID of a lease. -/
def Le.id (x : Le) : Int := x.m.id
/-- The lease at place i. -/
def lg (l : List Le) (i : Nat) : Le := l.getD i zL
theorem lg_get {l : List Le} {i : Nat} (hi : i < l.length) : l[i] = lg l i := by
  unfold lg; rw [List.getD_eq_getElem?_getD, List.getElem?_eq_getElem hi]; rfl
/-- The first error of the lease at place i. -/
def leC (l : List Le) (i : Nat) : Int :=
  if vf (lg l i).m ≠ 0 then vf (lg l i).m else if (lg l i).m.gn = 0 then 7 else if (lg l i).dl < 0 ∨ 1073741824 < (lg l i).dl then 1 else if 0 < i ∧ (lg l i).id ≤ (lg l (i - 1)).id then 11 else 0
/-- The first error of the leases from place i on. -/
def leS (l : List Le) (i : Nat) : Int := if h : i < l.length then (if leC l i ≠ 0 then leC l i else leS l (i + 1)) else 0
termination_by l.length - i
theorem leS_end {l : List Le} {i : Nat} (h : ¬ i < l.length) : leS l i = 0 := by unfold leS; rw [dif_neg h]
theorem leS_bad {l : List Le} {i : Nat} (h : i < l.length) (hc : leC l i ≠ 0) : leS l i = leC l i := by unfold leS; rw [dif_pos h, if_pos hc]
theorem leS_good {l : List Le} {i : Nat} (h : i < l.length) (hc : leC l i = 0) : leS l i = leS l (i + 1) := by rw [leS, dif_pos h, if_neg (by simpa using hc)]
theorem leS_zero {l : List Le} : ∀ n i, n = l.length - i → (leS l i = 0 ↔ ∀ k, i ≤ k → k < l.length → leC l k = 0)
  | 0, i, hn => by
    rw [leS_end (by omega)]
    exact ⟨fun _ k h1 h2 => absurd h2 (by omega), fun _ => rfl⟩
  | n + 1, i, hn => by
    have hi : i < l.length := by omega
    by_cases hc : leC l i = 0
    · rw [leS_good hi hc, leS_zero n (i + 1) (by omega)]
      refine ⟨fun h k h1 h2 => ?_, fun h k h1 h2 => h k (by omega) h2⟩
      rcases Nat.eq_or_lt_of_le h1 with e | e
      · subst e; exact hc
      · exact h k e h2
    · rw [leS_bad hi hc]
      exact ⟨fun h => absurd h hc, fun h => absurd (h i (Nat.le_refl _) hi) hc⟩
theorem leC_zero {l : List Le} {i : Nat} : leC l i = 0 ↔ vf (lg l i).m = 0 ∧ (lg l i).m.gn ≠ 0 ∧ 0 ≤ (lg l i).dl ∧ (lg l i).dl ≤ 1073741824 ∧ (0 < i → (lg l (i - 1)).id < (lg l i).id) := by
  unfold leC
  split
  · rename_i h; exact ⟨fun e => absurd e h, fun e => absurd e.1 h⟩
  · rename_i h
    have h : vf (lg l i).m = 0 := Decidable.not_not.1 h
    split
    · rename_i h2; exact ⟨fun e => by omega, fun e => absurd h2 e.2.1⟩
    · split
      · exact ⟨fun e => by omega, fun e => by omega⟩
      · split
        · exact ⟨fun e => by omega, fun e => by omega⟩
        · exact ⟨fun _ => ⟨h, by omega, by omega, by omega, by omega⟩, fun _ => rfl⟩
/-- What a lease of a valid table has. -/
def leOk (x : Le) : Prop := vf x.m = 0 ∧ x.m.gn ≠ 0 ∧ 0 ≤ x.dl ∧ x.dl ≤ 1073741824
theorem leS_iff (l : List Le) : leS l 0 = 0 ↔ (∀ x ∈ l, leOk x) ∧ Asc Le.id l := by
  rw [leS_zero _ 0 rfl]
  constructor
  · intro h
    refine ⟨fun x hx => ?_, asc_iff.2 fun j hj => ?_⟩
    · obtain ⟨i, hi, e⟩ := List.mem_iff_getElem.1 hx
      obtain ⟨h1, h2, h3, h4, _⟩ := leC_zero.1 (h i (Nat.zero_le _) hi)
      rw [← lg_get hi, e] at h1 h2 h3 h4
      exact ⟨h1, h2, h3, h4⟩
    · have h5 := (leC_zero.1 (h (j + 1) (Nat.zero_le _) hj)).2.2.2.2 (by omega)
      rw [Nat.add_sub_cancel, ← lg_get hj, ← lg_get (by omega)] at h5
      exact h5
  · rintro ⟨h1, h2⟩ k _ hk
    obtain ⟨g1, g2, g3, g4⟩ := h1 _ (List.getElem_mem hk)
    refine leC_zero.2 ?_
    rw [← lg_get hk]
    refine ⟨g1, g2, g3, g4, fun h0 => ?_⟩
    rw [← lg_get (by omega : k - 1 < l.length)]
    exact h2.lt (by omega) hk

/-- Validate's answer for a table of these leases and this heap. -/
noncomputable def tbV (l : List Le) (h : List Du) : Int := if 12 < l.length then 2 else if leS l 0 ≠ 0 then leS l 0 else if vaF h ≠ 0 then vaF h else if ofT (l.map Le.du) h = false then 7 else 0
/-- What a valid table has. -/
structure TbOk (l : List Le) (h : List Du) : Prop where
  len : l.length ≤ 12
  ok : ∀ x ∈ l, leOk x
  asc : Asc Le.id l
  va : vaF h = 0
  perm : h.Perm (l.map Le.du)
theorem vaF_ids {h : List Du} (e : vaF h = 0) : (h.map Du.id).Nodup := (dupD_iff h).1 (vaF_zero e).2.2.1
theorem tbV_iff (l : List Le) (h : List Du) : tbV l h = 0 ↔ TbOk l h := by
  unfold tbV
  constructor
  · intro e
    by_cases h1 : 12 < l.length
    · rw [if_pos h1] at e; exact absurd e (by decide)
    rw [if_neg h1] at e
    by_cases h2 : leS l 0 = 0
    · rw [if_neg (by simpa using h2)] at e
      by_cases h3 : vaF h = 0
      · rw [if_neg (by simpa using h3)] at e
        cases h4 : ofT (l.map Le.du) h with
        | false => rw [if_pos h4] at e; exact absurd e (by decide)
        | true => exact ⟨by omega, ((leS_iff l).1 h2).1, ((leS_iff l).1 h2).2, h3, (ofT_perm (vaF_ids h3)).1 h4⟩
      · rw [if_pos h3] at e; exact absurd e h3
    · rw [if_pos h2] at e; exact absurd e h2
  · intro t
    rw [if_neg (by have := t.len; omega), if_neg (by simpa using (leS_iff l).2 ⟨t.ok, t.asc⟩), if_neg (by simpa using t.va), if_neg (by rw [(ofT_perm (vaF_ids t.va)).2 t.perm]; simp)]
theorem TbOk.hlen {l : List Le} {h : List Du} (t : TbOk l h) : h.length = l.length := by rw [t.perm.length_eq, List.length_map]
theorem TbOk.nil : TbOk [] [] := ⟨Nat.zero_le _, fun x hx => (by cases hx), Asc.nil, vaF_ok (Nat.zero_le _) (fun j hj => absurd hj (Nat.not_lt_zero _)) (fun ⟨i, j, _, hj, _⟩ => absurd hj (Nat.not_lt_zero _)) (fun j h0 hj => absurd hj (Nat.not_lt_zero _)), List.Perm.refl _⟩
theorem kFi_du (l : List Le) (x : Int) : kFi Du.id (l.map Le.du) x = kFi Le.id l x := kFi_map Le.du l x
/-- An ID that is not in the table is not in its heap. -/
theorem TbOk.no {l : List Le} {h : List Du} (t : TbOk l h) {x : Int} (hx : kFi Le.id l x < 0) : ixD h x = -1 := tb_no t.perm (by rw [kFi_du]; exact hx)
theorem TbOk.at_ {l : List Le} {h : List Du} (t : TbOk l h) {k : Nat} (hk : k < l.length) : ∃ i, i < h.length ∧ ge h i = l[k].du ∧ ixD h l[k].id = i := by
  obtain ⟨i, hi, e1, e2⟩ := tb_at t.perm (k := k) (by rw [List.length_map]; exact hk) (vaF_ids t.va)
  rw [List.getElem_map] at e1 e2
  exact ⟨i, hi, e1, e2⟩

theorem map_erase {α β : Type} (f : α → β) : ∀ (l : List α) (k : Nat), (l.map f).eraseIdx k = (l.eraseIdx k).map f
  | [], _ => rfl
  | a :: l, 0 => rfl
  | a :: l, k + 1 => by simp only [List.map_cons, List.eraseIdx_cons_succ, map_erase f l k]
/-- The first error of a grant. -/
noncomputable def grE (l : List Le) (h : List Du) (x : Le) : Int :=
  if tbV l h ≠ 0 then tbV l h else if vf x.m ≠ 0 then vf x.m else if x.m.gn = 0 then 7 else if x.dl < 0 ∨ 1073741824 < x.dl then 1 else if l.length = 12 then 3 else if 0 ≤ kFi Le.id l x.id then 10 else 0
theorem vf_hv {M : Msg} (h : vf M = 0) : hv M = true := by
  cases e : hv M with
  | true => rfl
  | false => unfold vf at h; rw [e] at h; simp at h
theorem vf_id {M : Msg} (h : vf M = 0) : 1 ≤ M.id ∧ M.id ≤ 1073741824 := by
  have h1 := vf_hv h
  unfold hv at h1
  exact wi_of (Bool.and_eq_true_iff.1 h1).1
theorem leOk.snd {x : Le} (h : leOk x) : snd x.du = true := decide_eq_true ⟨h.2.2.1, h.2.2.2, (vf_id h.1).1, (vf_id h.1).2⟩
theorem kFi_no {l : List Le} {x : Int} (h : kFi Le.id l x < 0) : ∀ b ∈ l, b.id ≠ x := fun b hb e => by
  have := kFi_ge.2 ⟨b, hb, e⟩
  omega
/-- The push into the heap of a valid table succeeds. -/
theorem TbOk.push {l : List Le} {h : List Du} (t : TbOk l h) {x : Le} (hx : snd x.du = true) (hl : l.length < 12) (hf : kFi Le.id l x.id < 0) : hpuE h x.du = 0 := by
  unfold hpuE
  rw [if_neg (by simpa using t.va), if_neg (by simp [hx]), if_neg (by have := t.hlen; omega), if_neg (by rw [show x.du.id = x.id from rfl, t.no hf]; decide)]
theorem TbOk.grant {l : List Le} {h : List Du} (t : TbOk l h) {x : Le} (ok : leOk x) (hx : snd x.du = true) (hl : l.length < 12) (hf : kFi Le.id l x.id < 0) : TbOk (kIns Le.id l x) (hpu h x.du) := by
  obtain ⟨e1, e2, e3, e4⟩ := hpuE_zero (t.push hx hl hf)
  refine ⟨by rw [kIns_len]; omega, fun y hy => ?_, t.asc.ins (kFi_no hf), vaF_push e1 e2 e3 e4, ?_⟩
  · rcases List.mem_cons.1 ((kIns_perm l x).mem_iff.1 hy) with e | hy
    · rw [e]; exact ok
    · exact t.ok y hy
  · have := tb_push t.perm x.du
    rw [kIns_map Le.du l x] at this
    exact this
/-- The first error of a release. -/
noncomputable def rlE (l : List Le) (h : List Du) (id : Int) : Int := if tbV l h ≠ 0 then tbV l h else if kFi Le.id l id < 0 then 4 else 0
theorem rlE_zero {l : List Le} {h : List Du} {id : Int} (e : rlE l h id = 0) : TbOk l h ∧ ∃ (k : Nat) (hk : k < l.length), kFi Le.id l id = k ∧ l[k].id = id := by
  unfold rlE at e
  by_cases h1 : tbV l h = 0
  · rw [if_neg (by simpa using h1)] at e
    by_cases h2 : kFi Le.id l id < 0
    · rw [if_pos h2] at e; exact absurd e (by decide)
    · rcases kFi_cases Le.id l id with ⟨e', _⟩ | ⟨k, hk, e', hi, _⟩
      · rw [e'] at h2; omega
      · exact ⟨(tbV_iff l h).1 h1, k, hk, e', hi⟩
  · rw [if_pos h1] at e; exact absurd e h1
theorem TbOk.rm {l : List Le} {h : List Du} (t : TbOk l h) {k : Nat} (hk : k < l.length) : hrmE h l[k].id = 0 := by
  obtain ⟨i, hi, _, e⟩ := t.at_ hk
  unfold hrmE
  rw [if_neg (by simpa using t.va), if_neg (by rw [e]; omega)]
theorem TbOk.release {l : List Le} {h : List Du} (t : TbOk l h) {k : Nat} (hk : k < l.length) : TbOk (l.eraseIdx k) (rmR h l[k].id) := by
  obtain ⟨i, hi, e1, e2⟩ := t.at_ hk
  unfold rmR
  rw [if_pos (t.rm hk), e2, Int.toNat_natCast]
  refine ⟨by rw [List.length_eraseIdx]; have := t.len; split <;> omega, fun y hy => t.ok y ((List.eraseIdx_sublist l k).subset hy), t.asc.erase k, vaF_cut t.va hi, ?_⟩
  have hk' : k < (l.map Le.du).length := by rw [List.length_map]; exact hk
  have := tb_cut t.perm hi hk' (by rw [List.getElem_map]; exact e1)
  rw [map_erase] at this
  exact this
end Go.Proofs.Ytommkhjgockpfaa
/- Plain: tables of leases: what Find and Lapsed return; the deadline of an ID while leases come, go and are extended. -/
namespace Go.Proofs.Ytommkhjgockpfaa
set_option linter.unusedVariables false

/-- Find's answers. -/
noncomputable def fnO (l : List Le) (h : List Du) (id : Int) : Bool := decide (tbV l h = 0 ∧ 0 ≤ kFi Le.id l id)
noncomputable def fnX (l : List Le) (h : List Du) (id : Int) : Le := if fnO l h id = true then lg l (kFi Le.id l id).toNat else zL
theorem TbOk.fn {l : List Le} {h : List Du} (t : TbOk l h) {k : Nat} (hk : k < l.length) : fnO l h l[k].id = true ∧ fnX l h l[k].id = l[k] := by
  have e := t.asc.hit hk rfl
  have h1 : fnO l h l[k].id = true := decide_eq_true ⟨(tbV_iff l h).2 t, by rw [e]; omega⟩
  refine ⟨h1, ?_⟩
  unfold fnX
  rw [if_pos h1, e, Int.toNat_natCast, lg_get hk]
end Go.Proofs.Ytommkhjgockpfaa
/- Plain: what the program's own ways of a table give: the first error of a lease, what a heap consists of, places in ascending lists. -/
namespace Go.Proofs.Ytommkhjgockpfaa
set_option linter.unusedVariables false

section
variable {α : Type} {key : α → Int}
theorem kAt_fi {l : List α} (h : Asc key l) {x : Int} (hf : 0 ≤ kFi key l x) : kFi key l x = kAt key l x ∧ kAt key l x < l.length := by
  rcases kFi_cases key l x with ⟨e, _⟩ | ⟨k, hk, e, hi, _⟩
  · rw [e] at hf; exact absurd hf (by decide)
  · have : kAt key l x = k := kAt_hit (Nat.le_of_lt hk) (fun j hj => by rw [← hi]; exact h.lt hj hk) fun _ => by rw [hi]; exact Int.le_refl _
    rw [e, this]
    exact ⟨rfl, hk⟩
end
end Go.Proofs.Ytommkhjgockpfaa
namespace Go.Proofs.Ytommkhjgockpfaa
open Go.RowKit
set_option linter.unusedVariables false

/-- The box of a table. -/
abbrev TB (W : World) (p : Nat) (A : Option Addr) (n c : Nat) (A2 : Option Addr) (n2 c2 : Nat) : Prop := W.cell? ⟨p, 0, none⟩ = some (.slice A n c) ∧ W.cell? ⟨p, 1, none⟩ = some (.slice A2 n2 c2) ∧ p < W.heap.size
theorem TB.start (w : World) (A : Option Addr) (n c : Nat) (A2 : Option Addr) (n2 c2 : Nat) (t : TypeId) : TB (w.alloc (.cells #[.slice A n c, .slice A2 n2 c2] t)) w.heap.size A n c A2 n2 c2 :=
  ⟨by simp [go_sem], by simp [go_sem], by simp⟩
theorem TB.below {B : Nat} {W W' : World} {p : Nat} {A : Option Addr} {n c : Nat} {A2 : Option Addr} {n2 c2 : Nat} (h : TB W p A n c A2 n2 c2) (hb : Below B W W') (hp : p < B) : TB W' p A n c A2 n2 c2 :=
  ⟨(hb.cell (p := ⟨p, 0, none⟩) hp).trans h.1, (hb.cell (p := ⟨p, 1, none⟩) hp).trans h.2.1, Nat.lt_of_lt_of_le h.2.2 hb.size⟩

end Go.Proofs.Ytommkhjgockpfaa
