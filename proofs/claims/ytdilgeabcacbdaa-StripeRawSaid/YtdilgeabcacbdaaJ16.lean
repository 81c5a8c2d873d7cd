/- What is proved here: Purged of message, by one contract for all arguments; Twd; Pld. -/
import Derived.Test.YtdilgeabcacbdaaJ01
import Derived.Test.YtdilgeabcacbdaaJ15
namespace Go.Proofs.Ytdilgeabcacbdaa
open Go.RowKit
set_option linter.unusedVariables false

def puF (M : Msg) (e : Int) : Bool := decide (M.ep < e)

theorem purged_any (M : Msg) (k : Int) (w : World) : Calls Try.prog 65 #[M.v, .int .i64 k] w fun e w' => e = .returned (.bool (puF M k)) ∧ Below w.heap.size w w' := by
  have HB := Lib.hid ((Below.refl w.heap.size w).alloc (Nat.le_refl _) (.cells M.cs 92))
  by_cases h : M.ep < k
  · have HF := Lib.hid (show puF M k = true from decide_eq_true h)
    go_enter Try.func65, Try.ntmps65
    go_wp2
    go_ret
    exact ⟨by rw [HF.out]; rfl, HB.out⟩
  · have HF := Lib.hid (show puF M k = false from decide_eq_false h)
    go_enter Try.func65, Try.ntmps65
    go_wp2
    go_ret
    exact ⟨by rw [HF.out]; rfl, HB.out⟩

end Go.Proofs.Ytdilgeabcacbdaa
/- Plain: tables of leases: what Find and Lapsed return; the deadline of an ID while leases come, go and are extended. -/
namespace Go.Proofs.Ytdilgeabcacbdaa
set_option linter.unusedVariables false

/-- Find's answers. -/
noncomputable def fnO (l : List Le) (h : List Du) (id : Int) : Bool := decide (tbV l h = 0 ∧ 0 ≤ kFi Le.id l id)
noncomputable def fnX (l : List Le) (h : List Du) (id : Int) : Le := if fnO l h id = true then lg l (kFi Le.id l id).toNat else zL
theorem TbOk.fn {l : List Le} {h : List Du} (t : TbOk l h) {k : Nat} (hk : k < l.length) : fnO l h l[k].id = true ∧ fnX l h l[k].id = l[k] := by
  have e := t.asc.hit hk rfl
  have h1 : fnO l h l[k].id = true := decide_eq_true ⟨(tbV_iff l h).2 t, by rw [e]; omega⟩
  refine ⟨h1, ?_⟩
  unfold fnX
  rw [if_pos h1, e, Int.toNat_natCast, lg_get hk]
end Go.Proofs.Ytdilgeabcacbdaa
/- Plain: what the program's own ways of a table give: the first error of a lease, what a heap consists of, places in ascending lists. -/
namespace Go.Proofs.Ytdilgeabcacbdaa
set_option linter.unusedVariables false

/-- The first error of a lease alone. -/
def leE (X : Le) : Int := if vf X.m ≠ 0 then vf X.m else if X.m.gn = 0 then 7 else if X.dl < 0 ∨ 1073741824 < X.dl then 1 else 0
theorem leE_vf {X : Le} (h : vf X.m ≠ 0) : leE X = vf X.m := if_pos h
theorem leE_7 {X : Le} (h : vf X.m = 0) (h1 : X.m.gn = 0) : leE X = 7 := by unfold leE; rw [if_neg (by simpa using h), if_pos h1]
theorem leE_1 {X : Le} (h : vf X.m = 0) (h1 : X.m.gn ≠ 0) (h2 : X.dl < 0 ∨ 1073741824 < X.dl) : leE X = 1 := by unfold leE; rw [if_neg (by simpa using h), if_neg h1, if_pos h2]
theorem leE_0 {X : Le} (h : vf X.m = 0) (h1 : X.m.gn ≠ 0) (h2 : ¬ (X.dl < 0 ∨ 1073741824 < X.dl)) : leE X = 0 := by unfold leE; rw [if_neg (by simpa using h), if_neg h1, if_neg h2]
theorem leE_zero {X : Le} : leE X = 0 ↔ leOk X := by
  unfold leE leOk
  split
  · rename_i h; exact ⟨fun e => absurd e h, fun e => absurd e.1 h⟩
  · rename_i h
    have h : vf X.m = 0 := Decidable.not_not.1 h
    split
    · rename_i h2; exact ⟨fun e => by omega, fun e => absurd h2 e.2.1⟩
    · split
      · exact ⟨fun e => by omega, fun e => by omega⟩
      · exact ⟨fun _ => ⟨h, by omega, by omega, by omega⟩, fun _ => rfl⟩
/-- The ID before place k, 0 at the start. -/
def bfI (l : List Le) (k : Nat) : Int := if k = 0 then 0 else (lg l (k - 1)).id
theorem bfI_succ (l : List Le) (k : Nat) : bfI l (k + 1) = (lg l k).id := by unfold bfI; rw [if_neg (by omega), Nat.add_sub_cancel]
theorem leC_err {l : List Le} {k : Nat} (h : leE (lg l k) ≠ 0) : leC l k = leE (lg l k) := by
  unfold leC
  unfold leE at h ⊢
  split
  · rfl
  · split
    · rfl
    · split
      · rfl
      · rename_i h1 h2 h3; exact absurd (by rw [if_neg h1, if_neg h2, if_neg h3]) h
theorem leC_ord {l : List Le} {k : Nat} (h : leE (lg l k) = 0) : leC l k = if (lg l k).id ≤ bfI l k then 11 else 0 := by
  obtain ⟨h1, h2, h3, h4⟩ := leE_zero.1 h
  have := (vf_id h1).1
  unfold leC
  rw [if_neg (by simpa using h1), if_neg h2, if_neg (by omega)]
  unfold bfI
  by_cases h0 : k = 0
  · rw [if_neg (by omega), if_pos h0, if_neg (by unfold Le.id; omega)]
  · rw [if_neg h0]
    by_cases h5 : (lg l k).id ≤ (lg l (k - 1)).id
    · rw [if_pos ⟨by omega, h5⟩, if_pos h5]
    · rw [if_neg (fun h => h5 h.2), if_neg h5]
theorem leS_to {l : List Le} {i : Nat} (hi : i < l.length) (hc : leC l i ≠ 0) : ∀ d j, j + d = i → (∀ k, j ≤ k → k < i → leC l k = 0) → leS l j = leC l i
  | 0, j, e, _ => by
    obtain rfl : j = i := by omega
    exact leS_bad hi hc
  | d + 1, j, e, h => by
    rw [leS_good (by omega) (h j (Nat.le_refl _) (by omega))]
    exact leS_to hi hc d (j + 1) (by omega) fun k h1 h2 => h k (by omega) h2
theorem leS_at {l : List Le} {i : Nat} (hi : i < l.length) (hc : leC l i ≠ 0) (hn : ∀ k, k < i → leC l k = 0) : leS l 0 = leC l i := leS_to hi hc i 0 (by omega) fun k _ hk => hn k hk
theorem leS_ok {l : List Le} (hn : ∀ k, k < l.length → leC l k = 0) : leS l 0 = 0 := (leS_zero _ 0 rfl).2 fun k _ hk => hn k hk

theorem lg_map {l : List Le} {k : Nat} (hk : k < l.length) : (l.map Le.du)[k]'(by rw [List.length_map]; exact hk) = (lg l k).du := by rw [List.getElem_map, lg_get hk]
/-- The heap has an element for each lease and no other one. -/
noncomputable def cnF (h : List Du) (l : List Le) : Bool := decide ((∀ k, k < l.length → (lg l k).du ∈ h) ∧ h.length = l.length)
theorem cnF_no {h : List Du} {l : List Le} {k : Nat} (hk : k < l.length) (hn : ¬ (lg l k).du ∈ h) : cnF h l = false := decide_eq_false fun e => hn (e.1 k hk)
theorem cnF_len {h : List Du} {l : List Le} (hn : ∀ k, k < l.length → (lg l k).du ∈ h) : cnF h l = decide (h.length = l.length) := by
  unfold cnF
  rw [Bool.eq_iff_iff, decide_eq_true_iff, decide_eq_true_iff]
  exact ⟨fun e => e.2, fun e => ⟨hn, e⟩⟩
theorem cnF_ofT {h : List Du} {l : List Le} (h1 : leS l 0 = 0) (h2 : vaF h = 0) : cnF h l = ofT (l.map Le.du) h := by
  have ha : Asc Du.id (l.map Le.du) := List.pairwise_map.2 ((leS_iff l).1 h1).2
  rw [Bool.eq_iff_iff]
  refine Iff.trans ?_ (ofT_perm (vaF_ids h2)).symm
  unfold cnF
  rw [decide_eq_true_iff]
  constructor
  · rintro ⟨e1, e2⟩
    refine (perm_of_sub (nodup_of_ids ha.nodup) (fun d hd => ?_) (by rw [List.length_map]; omega)).symm
    obtain ⟨k, hk, e⟩ := List.mem_iff_getElem.1 hd
    rw [List.length_map] at hk
    rw [lg_map hk] at e
    rw [← e]
    exact e1 k hk
  · intro hp
    refine ⟨fun k hk => ?_, by rw [hp.length_eq, List.length_map]⟩
    rw [← lg_map hk]
    exact hp.mem_iff.2 (List.getElem_mem _)

section
variable {α : Type} {key : α → Int}
theorem kAt_fi {l : List α} (h : Asc key l) {x : Int} (hf : 0 ≤ kFi key l x) : kFi key l x = kAt key l x ∧ kAt key l x < l.length := by
  rcases kFi_cases key l x with ⟨e, _⟩ | ⟨k, hk, e, hi, _⟩
  · rw [e] at hf; exact absurd hf (by decide)
  · have : kAt key l x = k := kAt_hit (Nat.le_of_lt hk) (fun j hj => by rw [← hi]; exact h.lt hj hk) fun _ => by rw [hi]; exact Int.le_refl _
    rw [e, this]
    exact ⟨rfl, hk⟩
end
end Go.Proofs.Ytdilgeabcacbdaa
