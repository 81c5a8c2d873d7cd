/- What is proved here: (plain) a list of deadlines that lies in memory: what is there, how it is kept, cut, stored into; '==' and '!=' of two deadlines; (plain) heaps of deadlines: the place of an ID, what is due in order, insertion into a sorted row. -/
import Derived.Test.YtobimcpkhgfliaaJ01
import Derived.Below
import Derived.Deep.MidRow
import Derived.Laws.MakeOwn
import Derived.Laws.StructEq
import Derived.KernelRfl
namespace Go.Proofs.Ytobimcpkhgfliaa
open Go.RowKit
set_option linter.unusedVariables false

/-- The cells of an element. -/
def Du.l (d : Du) : List Value := [.int .i64 d.dl, .int .i64 d.id]
/-- The element as a value. -/
abbrev Du.v (d : Du) : Value := .agg #[.int .i64 d.dl, .int .i64 d.id]
theorem Du.l_len (d : Du) : d.l.length = 2 := rfl
def dcs (l : List Du) : List Value := l.flatMap Du.l
theorem dcs_cons (d : Du) (l : List Du) : dcs (d :: l) = d.l ++ dcs l := rfl
theorem dcs_app (l m : List Du) : dcs (l ++ m) = dcs l ++ dcs m := by simp [dcs]
theorem dcs_len (l : List Du) : (dcs l).length = l.length * 2 := by
  induction l with
  | nil => rfl
  | cons d l ih => rw [dcs_cons, List.length_append, ih, Du.l_len]; simp; omega
theorem dcs_drop (l : List Du) (k : Nat) : (dcs l).drop (k * 2) = dcs (l.drop k) := by
  induction k generalizing l with
  | zero => simp
  | succ k ih =>
    cases l with
    | nil => simp [dcs]
    | cons d l =>
      rw [dcs_cons, List.drop_succ_cons, ← ih, show (k + 1) * 2 = d.l.length + k * 2 by rw [Du.l_len]; omega, List.drop_append, List.drop_eq_nil_of_le (by omega)]
      simp
theorem dcs_take (l : List Du) (k : Nat) : (dcs l).take (k * 2) = dcs (l.take k) := by
  induction k generalizing l with
  | zero => simp [dcs]
  | succ k ih =>
    cases l with
    | nil => simp [dcs]
    | cons d l =>
      rw [dcs_cons, List.take_succ_cons, dcs_cons, ← ih, show (k + 1) * 2 = d.l.length + k * 2 by rw [Du.l_len]; omega, List.take_append, List.take_of_length_le (by omega)]
      simp
theorem dcs_at (l : List Du) (k j : Nat) (hk : k < l.length) (hj : j < 2) : (dcs l)[k * 2 + j]? = l[k].l[j]? := by
  have h := dcs_drop l k
  have e : (dcs l)[k * 2 + j]? = ((dcs l).drop (k * 2))[j]? := by rw [List.getElem?_drop]
  rw [e, h, List.drop_eq_getElem_cons hk, dcs_cons, List.getElem?_append_left (by rw [Du.l_len]; exact hj)]
theorem dcs_one (l : List Du) : ∀ u ∈ dcs l, u.oneCell' = true := by
  intro u hu
  obtain ⟨M, _, h⟩ := List.mem_flatMap.1 hu
  simp only [Du.l, List.mem_cons, List.not_mem_nil, or_false] at h
  rcases h with rfl | rfl <;> rfl

/-- A value that is a slice, reads as these elements and lies below B. -/
def Dl (w : World) (B : Nat) (v : Value) (l : List Du) : Prop := ∃ A c, v = .slice A l.length c ∧ l.length ≤ c ∧ c ≤ maxLen ∧ Rd w B 2 A l.length (dcs l)
section
variable {w w' : World} {B B' : Nat} {v : Value} {l : List Du} {A : Option Addr} {n c : Nat}
theorem Dl.nil : Dl w B (.slice none 0 0) [] := ⟨none, 0, rfl, Nat.le_refl _, Nat.zero_le _, Rd.nil none⟩
theorem Dl.keep (h : Dl w B v l) (hk : ∀ p : Addr, p.block < B → w'.cell? p = w.cell? p) : Dl w' B v l := by
  obtain ⟨A, c, e, hl, hm, h⟩ := h; exact ⟨A, c, e, hl, hm, h.keep hk⟩
theorem Dl.more (h : Dl w B v l) (hB : B ≤ B') : Dl w B' v l := by
  obtain ⟨A, c, e, hl, hm, h⟩ := h; exact ⟨A, c, e, hl, hm, h.more hB⟩
theorem Dl.below (h : Dl w B v l) (hb : Below B w w') : Dl w' B v l := h.keep fun _ hp => hb.cell hp
theorem Dl.up (h : Dl w w.heap.size v l) (hb : Below w.heap.size w w') : Dl w' w'.heap.size v l := (h.below hb).more hb.size
theorem Dl.drewN (h : Dl w B v l) (k : Nat) : Dl (w.drewN k) B v l := h
theorem Dl.drew (h : Dl w B v l) : Dl w.drew B v l := h
theorem Dl.alloc (h : Dl w B v l) (hB : B ≤ w.heap.size) (o : Obj) : Dl (w.alloc o) B v l := h.keep fun p hp => World.cell?_alloc_lt w o p (by omega)
theorem Dl.setCell (h : Dl w B v l) {p : Addr} (hB : B ≤ p.block) (u : Value) : Dl (w.setCell p u) B v l :=
  h.keep fun q hq => World.cell?_setCell_other w p q u (fun e => by subst e; omega)
theorem Dl.len (h : Dl w B (.slice A n c) l) : n = l.length ∧ n ≤ c ∧ c ≤ maxLen := by
  obtain ⟨A', c', e, hl, hm, h⟩ := h
  injection e with e1 e2 e3
  subst e2; subst e3
  exact ⟨rfl, hl, hm⟩
theorem Dl.rd (h : Dl w B (.slice A n c) l) : Rd w B 2 A n (dcs l) := by
  obtain ⟨A', c', e, hl, hm, h⟩ := h
  injection e with e1 e2 e3
  subst e1; subst e2
  exact h
theorem Dl.form (h : Dl w B v l) : ∃ A c, v = .slice A l.length c ∧ l.length ≤ c ∧ c ≤ maxLen := by
  obtain ⟨A, c, e, hl, hm, _⟩ := h; exact ⟨A, c, e, hl, hm⟩
theorem Dl.of_own {base : Nat} {e : TypeId} {n : Nat} (h : w.ownsRow base e 2 v n (dcs l)) : Dl w w.heap.size v l := by
  have hl : n = l.length := by have := h.1; rw [dcs_len] at this; omega
  subst hl
  rcases h.2 with ⟨hv, h0⟩ | ⟨g, cap, cur, hv, _, _, hl, hm, _⟩
  · subst hv; exact ⟨none, 0, by rw [h0], by omega, Nat.zero_le _, by rw [show l = [] from List.length_eq_zero_iff.1 h0]; exact Rd.nil _⟩
  · subst hv; exact ⟨_, cap, rfl, hl, hm, Rd.of_own h⟩
/-- The element at place k, and where it lies. -/
theorem Dl.at_ {k : Nat} (h : Dl w B (.slice A n c) l) (hk : k < l.length) : ∃ b o, A = some ⟨b, o, none⟩ ∧ b < B ∧ (w.cell? ⟨b, o + k * 2, none⟩ = some (.int .i64 l[k].dl) ∧ w.cell? ⟨b, o + k * 2 + 1, none⟩ = some (.int .i64 l[k].id)) := by
  have hn := h.len.1
  obtain ⟨b, o, e, hb, hc⟩ := h.rd.2 (by omega)
  have g : ∀ j u, j < 2 → l[k].l[j]? = some u → w.cell? ⟨b, o + k * 2 + j, none⟩ = some u := fun j u hj hu => by
    rw [Nat.add_assoc]; exact hc _ u (by rw [dcs_at l k j hk hj]; exact hu)
  exact ⟨b, o, e, hb, g 0 _ (by omega) rfl, g 1 _ (by omega) rfl⟩
end

/-- Block q holds n elements, and may be written. -/
def DRow (W : World) (q n : Nat) (f : Nat → Du) : Prop := q < W.heap.size ∧ (∀ k, k < n → ∀ j, j < 2 → W.cell? ⟨q, k * 2 + j, none⟩ = (f k).l[j]?) ∧ ∀ o, W.frozen? ⟨q, o, none⟩ = false
section
variable {W W' : World} {q n : Nat} {f g : Nat → Du}
theorem DRow.below {B : Nat} (h : DRow W q n f) (hb : Below B W W') (hg : q < B) : DRow W' q n f :=
  ⟨Nat.lt_of_lt_of_le h.1 hb.size, fun k hk j hj => (hb.cell (p := ⟨q, k * 2 + j, none⟩) hg).trans (h.2.1 k hk j hj), fun o => (hb.frozen (p := ⟨q, o, none⟩) hg).trans (h.2.2 o)⟩
theorem DRow.alloc (h : DRow W q n f) (o : Obj) : DRow (W.alloc o) q n f := h.below (W' := W.alloc o) ((Below.refl W.heap.size W).alloc (Nat.le_refl _) o) h.1
theorem DRow.drew (h : DRow W q n f) : DRow W.drew q n f := h
theorem DRow.drewN (h : DRow W q n f) (k : Nat) : DRow (W.drewN k) q n f := h
theorem DRow.congr (h : DRow W q n f) (e : ∀ k, k < n → f k = g k) : DRow W q n g :=
  ⟨h.1, fun k hk j hj => by rw [h.2.1 k hk j hj, e k hk], h.2.2⟩
theorem DRow.other (h : DRow W q n f) {p : Addr} (hp : p.block ≠ q) (v : Value) : DRow (W.setCell p v) q n f :=
  ⟨by simpa using h.1, fun k hk j hj => (World.cell?_setCell_other W p _ v (fun e => hp (by rw [e]))).trans (h.2.1 k hk j hj), fun o => by rw [World.frozen?_setCell]; exact h.2.2 o⟩
theorem DRow.at_ (h : DRow W q n f) {k : Nat} (hk : k < n) : W.cell? ⟨q, k * 2, none⟩ = some (.int .i64 (f k).dl) ∧ W.cell? ⟨q, k * 2 + 1, none⟩ = some (.int .i64 (f k).id) ∧ W.frozen? ⟨q, k * 2, none⟩ = false ∧ W.frozen? ⟨q, k * 2 + 1, none⟩ = false ∧ q < W.heap.size :=
  ⟨h.2.1 k hk 0 (by omega), h.2.1 k hk 1 (by omega), h.2.2 _, h.2.2 _, h.1⟩
/-- An element is stored. -/
theorem DRow.put (h : DRow W q n f) {k : Nat} (hk : k < n) (d : Du) : DRow ((W.setCell ⟨q, k * 2, none⟩ (.int .i64 d.dl)).setCell ⟨q, k * 2 + 1, none⟩ (.int .i64 d.id)) q n (fun i => if i = k then d else f i) := by
  have h0 := h.2.1 k hk 0 (by omega)
  have h1 := h.2.1 k hk 1 (by omega)
  refine ⟨by simpa using h.1, fun i hi j hj => ?_, fun o => by rw [World.frozen?_setCell, World.frozen?_setCell]; exact h.2.2 o⟩
  have e1 : (W.setCell ⟨q, k * 2, none⟩ (.int .i64 d.dl)).cell? ⟨q, k * 2 + 1, none⟩ = W.cell? ⟨q, k * 2 + 1, none⟩ := World.cell?_setCell_other W _ _ _ (fun e => by injection e; omega)
  by_cases e : i = k
  · subst e
    simp only [if_true]
    match j, hj with
    | 0, _ => exact (World.cell?_setCell_other _ _ _ _ (fun e => by injection e; omega)).trans (World.cell?_setCell_same' W _ _ (by rw [show (⟨q, i * 2, none⟩ : Addr) = ⟨q, i * 2 + 0, none⟩ from rfl, h0]; rfl))
    | 1, _ => exact World.cell?_setCell_same' _ _ _ (by rw [e1, h1]; rfl)
  · simp only [if_neg e]
    rw [← h.2.1 i hi j hj]
    exact (World.cell?_setCell_other _ _ _ _ (fun e' => by injection e' with _ e2; omega)).trans (World.cell?_setCell_other W _ _ _ (fun e' => by injection e' with _ e2; omega))
theorem DRow.dl (h : DRow W q n f) (x cap : Nat) (hx : x ≤ n) (hc : x ≤ cap) (hm : cap ≤ maxLen) : Dl W W.heap.size (.slice (some ⟨q, 0, none⟩) x cap) ((List.range x).map f) := by
  have hl : ((List.range x).map f).length = x := by simp
  refine ⟨_, cap, by rw [hl], by rw [hl]; exact hc, hm, by rw [dcs_len, hl], fun _ => ⟨q, 0, rfl, h.1, fun i u hu => ?_⟩⟩
  have hi : i < x * 2 := by have := (List.getElem?_eq_some_iff.1 hu).1; rw [dcs_len, hl] at this; exact this
  have e : i = i / 2 * 2 + i % 2 := by omega
  have hlt : i / 2 < x := by omega
  rw [e] at hu ⊢
  rw [dcs_at _ _ _ (by rw [hl]; exact hlt) (by omega)] at hu
  rw [Nat.zero_add, h.2.1 _ (by omega) _ (by omega), ← hu]
  simp
end
/-- A row that the call owns may be written. -/
theorem DRow.of_own {W : World} {base q n cap : Nat} {e : TypeId} {l : List Du} (h : W.ownsRow base e 2 (.slice (some ⟨q, 0, none⟩) n cap) n (dcs l)) : DRow W q n (fun i => l.getD i zD) := by
  have hl : n = l.length := by have := h.1; rw [dcs_len] at this; omega
  refine ⟨(h.lt q rfl).2, fun k hk j hj => ?_, fun o => h.frozenAt o⟩
  rw [h.cellAt _ (by omega), dcs_at l k j (by omega) hj]
  simp [List.getD, show k < l.length by omega]
/-- What is read of a list, by places. -/
theorem ge_row (l : List Du) : (List.range l.length).map (fun i => l.getD i zD) = l := by
  apply List.ext_getElem
  · simp
  · intro k h1 h2
    simp [List.getD, h2]
end Go.Proofs.Ytobimcpkhgfliaa
namespace Go.Proofs.Ytobimcpkhgfliaa
open Go.RowKit
set_option linter.unusedVariables false

open Classical in
theorem eqd_in (a b : Du) (W : World) : (Op.equalIn 10000 24 a.v b.v).run Try.prog W = .ok (decide (a = b)) W := by
  have u3 := Try.underlying3
  have hS : Try.prog.underlying 24 = some (.struct (Try.prog.fieldsOf 24)) := by kernel_rfl
  have hp : Try.prog.stoodInHeld 24 = false := by kernel_rfl
  rw [show (10000 : Nat) = 9999 + 1 from rfl, run_equalIn_agg W 9999 24 _ _ hS hp]
  simp only [Program.fieldsOf, Try.underlying24]
  by_cases h0 : a.dl = b.dl
  · by_cases h1 : a.id = b.id
    · have e : decide (a = b) = true := decide_eq_true (by cases a; cases b; simp_all)
      have h0' : (a.dl == b.dl) = true := by simpa using h0
      have h1' : (a.id == b.id) = true := by simpa using h1
      rw [e]
      clear e h0 h1
      go_simp
    · have e : decide (a = b) = false := decide_eq_false (fun e => h1 (by rw [e]))
      have h0' : (a.dl == b.dl) = true := by simpa using h0
      have h1' : (a.id == b.id) = false := by simpa using h1
      rw [e]
      clear e h0 h1
      go_simp
  · have e : decide (a = b) = false := decide_eq_false (fun e => h0 (by rw [e]))
    have h0' : (a.dl == b.dl) = false := by simpa using h0
    rw [e]
    clear e h0
    go_simp
open Classical in
theorem eqd_yes (a : Du) : ∀ W, (binOp .eql 24 a.v a.v).run Try.prog W = .ok (.bool true) W := fun W => by
  rw [run_eql_struct, eqd_in, decide_eq_true (show a = a from rfl)]; rfl
open Classical in
theorem eqd_no {a b : Du} (h : a ≠ b) : ∀ W, (binOp .eql 24 a.v b.v).run Try.prog W = .ok (.bool false) W := fun W => by
  rw [run_eql_struct, eqd_in, decide_eq_false h]; rfl
open Classical in
theorem neqd_no (a : Du) : ∀ W, (binOp .neq 24 a.v a.v).run Try.prog W = .ok (.bool false) W := fun W => by
  rw [run_neq_struct, eqd_in, decide_eq_true (show a = a from rfl)]; rfl
open Classical in
theorem neqd_yes {a b : Du} (h : a ≠ b) : ∀ W, (binOp .neq 24 a.v b.v).run Try.prog W = .ok (.bool true) W := fun W => by
  rw [run_neq_struct, eqd_in, decide_eq_false h]; rfl
end Go.Proofs.Ytobimcpkhgfliaa
namespace Go.Proofs.Ytobimcpkhgfliaa
set_option linter.unusedVariables false

theorem ge_get {h : List Du} {k : Nat} (hk : k < h.length) : h[k] = ge h k := by
  unfold ge; rw [List.getD_eq_getElem?_getD, List.getElem?_eq_getElem hk]; rfl
/-- The place of the first element with an ID, or the length. -/
def ixE (h : List Du) (id : Int) : Nat := h.findIdx (fun d => d.id == id)
/-- The same, or -1. -/
def ixD (h : List Du) (id : Int) : Int := if ixE h id < h.length then (ixE h id : Int) else -1
theorem ixD_hit {h : List Du} {id : Int} {k : Nat} (hk : k < h.length) (e : (ge h k).id = id) (hn : ∀ j, j < k → (ge h j).id ≠ id) : ixD h id = k := by
  have e : ixE h id = k := (List.findIdx_eq hk).2 ⟨by rw [ge_get hk]; simpa using e, fun j hj => by rw [ge_get (by omega)]; simpa using hn j hj⟩
  unfold ixD
  rw [e, if_pos hk]
theorem ixD_none {h : List Du} {id : Int} (hn : ∀ j, j < h.length → (ge h j).id ≠ id) : ixD h id = -1 := by
  unfold ixD
  rw [if_neg]
  intro hl
  have := List.findIdx_getElem (w := hl)
  have this' : h[ixE h id].id = id := beq_iff_eq.1 this
  rw [ge_get hl] at this'
  exact hn _ hl this'
theorem ixD_cases (h : List Du) (id : Int) : (ixD h id = -1 ∧ ∀ j, j < h.length → (ge h j).id ≠ id) ∨ ∃ k, k < h.length ∧ ixD h id = k ∧ (ge h k).id = id ∧ ∀ j, j < k → (ge h j).id ≠ id := by
  by_cases hh : ∀ j, j < h.length → (ge h j).id ≠ id
  · exact .inl ⟨ixD_none hh, hh⟩
  · right
    have hl : ixE h id < h.length := by
      apply Decidable.byContradiction
      intro hc
      have e : ixE h id = h.length := Nat.le_antisymm List.findIdx_le_length (by omega)
      exact hh fun j hj hid => by
        have := (List.findIdx_eq_length.1 e) h[j] (List.getElem_mem hj)
        rw [ge_get hj] at this
        simp [hid] at this
    have hi : h[ixE h id].id = id := beq_iff_eq.1 (List.findIdx_getElem (p := fun d : Du => d.id == id) (w := hl))
    rw [ge_get hl] at hi
    refine ⟨ixE h id, hl, by unfold ixD; rw [if_pos hl], hi, fun j hlt => ?_⟩
    have := List.not_of_lt_findIdx hlt
    rw [ge_get (by omega)] at this
    simpa using this
theorem ixD_ge (h : List Du) (id : Int) : 0 ≤ ixD h id ↔ ∃ d ∈ h, d.id = id := by
  rcases ixD_cases h id with ⟨e, hn⟩ | ⟨k, hk, e, hi, _⟩
  · rw [e]
    refine ⟨fun hx => absurd hx (by omega), fun ⟨d, hd, hid⟩ => ?_⟩
    obtain ⟨j, hj, rfl⟩ := ge_mem hd
    exact absurd hid (hn j hj)
  · rw [e]
    exact ⟨fun _ => ⟨ge h k, mem_ge hk, hi⟩, fun _ => by omega⟩
theorem ixD_lt (h : List Du) (id : Int) : -1 ≤ ixD h id ∧ ixD h id < h.length := by
  rcases ixD_cases h id with ⟨e, _⟩ | ⟨k, hk, e, _, _⟩ <;> rw [e] <;> omega
theorem ixD_neg {h : List Du} {id : Int} (hx : ¬ 0 ≤ ixD h id) : ixD h id = -1 := by have := ixD_lt h id; omega

/-- How two elements compare. -/
def cmF (a b : Du) : Int := if bef a b = true then -1 else if bef b a = true then 1 else 0
theorem cmF_neg (a b : Du) : cmF a b < 0 ↔ bef a b = true := by
  unfold cmF
  split
  · rename_i h; simp [h]
  · rename_i h
    split <;> simp [h]
theorem cmF_lt {a b : Du} (h : bef a b = true) : cmF a b = -1 := if_pos h

/-! Insertion into a sorted row. -/
def Srt (l : List Du) : Prop := l.Pairwise (fun a b => bef b a = false)
theorem bef_anti {a b : Du} (h : bef a b = false) (k : bef b a = false) : a = b := by
  rw [bef_no] at h k
  cases a; cases b
  simp only [Du.mk.injEq] at *
  omega
theorem srt_uniq : ∀ {l m : List Du}, l.Perm m → Srt l → Srt m → l = m
  | [], m, hp, _, _ => (List.nil_perm.1 hp).symm
  | a :: l, [], hp, _, _ => absurd (List.Perm.symm hp) (by simp)
  | a :: l, b :: m, hp, hl, hm => by
    have h1 := List.pairwise_cons.1 hl
    have h2 := List.pairwise_cons.1 hm
    have hab : a = b := by
      have ha : a ∈ b :: m := hp.mem_iff.1 (List.mem_cons_self ..)
      have hb : b ∈ a :: l := hp.mem_iff.2 (List.mem_cons_self ..)
      rcases List.mem_cons.1 ha with e | e
      · exact e
      · rcases List.mem_cons.1 hb with e' | e'
        · exact e'.symm
        · exact bef_anti (h2.1 a e) (h1.1 b e')
    subst hab
    rw [srt_uniq (List.Perm.cons_inv hp) h1.2 h2.2]
/-- The row is a permutation of l, its first i elements are in order. -/
structure SrtTo (l : List Du) (i : Nat) (g : List Du) : Prop where
  perm : g.Perm l
  ord : ∀ x y, x < y → y < i → bef (ge g y) (ge g x) = false
/-- The element at j is on its way down. -/
structure Ins (l : List Du) (i j : Nat) (g : List Du) : Prop where
  perm : g.Perm l
  a : ∀ x y, x < y → y ≤ i → x ≠ j → y ≠ j → bef (ge g y) (ge g x) = false
  b : ∀ y, j < y → y ≤ i → bef (ge g y) (ge g j) = false
theorem SrtTo.start (l : List Du) : SrtTo l 1 l := ⟨List.Perm.refl _, fun x y h1 h2 => absurd h1 (by omega)⟩
theorem SrtTo.ins {l g : List Du} {i : Nat} (h : SrtTo l i g) : Ins l i i g := ⟨h.perm, fun x y h1 h2 _ h3 => h.ord x y h1 (by omega), fun y h1 h2 => absurd h1 (by omega)⟩
theorem Ins.step {l g : List Du} {i j : Nat} (h : Ins l i j g) (h0 : 0 < j) (hj : j ≤ i) (hi : i < g.length) (hb : bef (ge g j) (ge g (j - 1)) = true) : Ins l i (j - 1) (swp g j (j - 1)) := by
  have g1 : ∀ t, ge (swp g j (j - 1)) t = if t = j - 1 then ge g j else if t = j then ge g (j - 1) else ge g t := fun t => ge_swp (by omega) (by omega) t
  refine ⟨(perm_set_set (by omega) (by omega)).trans h.perm, fun x y h1 h2 h3 h4 => ?_, fun y h1 h2 => ?_⟩
  · rw [g1, g1, if_neg h3, if_neg h4]
    by_cases ex : x = j
    · rw [if_pos ex, if_neg (by omega)]
      exact h.a (j - 1) y (by omega) h2 (by omega) (by omega)
    · rw [if_neg ex]
      by_cases ey : y = j
      · rw [if_pos ey]; exact h.a x (j - 1) (by omega) (by omega) ex (by omega)
      · rw [if_neg ey]; exact h.a x y h1 h2 ex ey
  · rw [g1, g1, if_pos rfl, if_neg (by omega)]
    by_cases ey : y = j
    · rw [if_pos ey]; exact bef_asym hb
    · rw [if_neg ey]; exact h.b y (by omega) h2
theorem Ins.done {l g : List Du} {i j : Nat} (h : Ins l i j g) (hj : j ≤ i) (hc : j = 0 ∨ bef (ge g j) (ge g (j - 1)) = false) : SrtTo l (i + 1) g := by
  refine ⟨h.perm, fun x y h1 h2 => ?_⟩
  by_cases ex : x = j
  · rw [ex]; exact h.b y (by omega) (by omega)
  · by_cases ey : y = j
    · rcases hc with hc | hc
      · omega
      · rw [ey]
        by_cases e1 : x = j - 1
        · rw [e1]; exact hc
        · exact nbef_trans hc (h.a x (j - 1) (by omega) (by omega) ex (by omega))
    · exact h.a x y h1 (by omega) ex ey
theorem SrtTo.srt {l g : List Du} {i : Nat} (h : SrtTo l i g) (hi : g.length ≤ i) : Srt g := by
  unfold Srt
  rw [List.pairwise_iff_getElem]
  intro x y hx hy hxy
  rw [ge_get hx, ge_get hy]
  exact h.ord x y hxy (by omega)

/-- The elements that are due, as they are popped. -/
def unL (h : List Du) (now : Int) : List Du :=
  if hc : 0 < h.length ∧ (ge h 0).dl ≤ now then ge h 0 :: unL (cuF h 0) now else []
termination_by h.length
decreasing_by
  rw [cuF_len hc.1]
  omega
theorem unF_eq (h : List Du) (now : Int) : unF h now = (unL h now).map Du.id := by
  induction h using unF.induct (now := now) with
  | case1 h hc ih => rw [unF, dif_pos hc, unL, dif_pos hc, ih]; rfl
  | case2 h hc => rw [unF, dif_neg hc, unL, dif_neg hc]; rfl
theorem unL_sub (h : List Du) (now : Int) : ∀ d ∈ unL h now, d ∈ h := by
  induction h using unF.induct (now := now) with
  | case1 h hc ih =>
    intro d hd
    rw [unL, dif_pos hc] at hd
    rcases List.mem_cons.1 hd with e | e
    · rw [e]; exact mem_ge hc.1
    · exact (List.eraseIdx_sublist h 0).subset ((cuF_perm hc.1).mem_iff.1 (ih d e))
  | case2 h hc =>
    intro d hd
    rw [unL, dif_neg hc] at hd
    cases hd
theorem unL_srt (h : List Du) (now : Int) : Hp h → Srt (unL h now) := by
  induction h using unF.induct (now := now) with
  | case1 h hc ih =>
    intro hh
    rw [unL, dif_pos hc]
    refine List.pairwise_cons.2 ⟨fun d hd => ?_, ih (cuF_heap hc.1 hh)⟩
    have h1 := (List.eraseIdx_sublist h 0).subset ((cuF_perm hc.1).mem_iff.1 (unL_sub _ _ d hd))
    obtain ⟨j, hj, rfl⟩ := ge_mem h1
    exact hp_root hh j hj
  | case2 h hc =>
    intro _
    rw [unL, dif_neg hc]
    exact List.Pairwise.nil
theorem unL_perm (h : List Du) (now : Int) : Hp h → (unL h now).Perm (h.filter (fun d => decide (d.dl ≤ now))) := by
  induction h using unF.induct (now := now) with
  | case1 h hc ih =>
    intro hh
    rw [unL, dif_pos hc]
    have h1 := ih (cuF_heap hc.1 hh)
    have h2 : ((cuF h 0).filter (fun d => decide (d.dl ≤ now))).Perm ((h.eraseIdx 0).filter (fun d => decide (d.dl ≤ now))) := (cuF_perm hc.1).filter _
    have h3 := ge_zero hc.1
    have h4 : h.filter (fun d => decide (d.dl ≤ now)) = ge h 0 :: (h.eraseIdx 0).filter (fun d => decide (d.dl ≤ now)) := by
      have e : h.filter (fun d => decide (d.dl ≤ now)) = (ge h 0 :: h.eraseIdx 0).filter (fun d => decide (d.dl ≤ now)) := congrArg (List.filter _) h3
      rw [e, List.filter_cons_of_pos (by simpa using hc.2)]
    rw [h4]
    exact (h1.trans h2).cons _
  | case2 h hc =>
    intro hh
    rw [unL, dif_neg hc]
    have : h.filter (fun d => decide (d.dl ≤ now)) = [] := by
      rw [List.filter_eq_nil_iff]
      intro d hd
      have h0 : 0 < h.length := List.length_pos_of_mem hd
      have := hp_late hh (now := now) (by have : ¬ (ge h 0).dl ≤ now := fun k => hc ⟨h0, k⟩; omega) hd
      simp
      omega
    rw [this]
/-- What is due of a heap, in order, is what is due of its sorted row. -/
theorem unF_sorted {h g : List Du} (hh : Hp h) (hp : g.Perm h) (hs : Srt g) (now : Int) : unF h now = (g.filter (fun d => decide (d.dl ≤ now))).map Du.id := by
  rw [unF_eq, srt_uniq (m := g.filter (fun d => decide (d.dl ≤ now))) ((unL_perm h now hh).trans (hp.symm.filter _)) (unL_srt h now hh) (List.Pairwise.filter _ hs)]

/-! Sifting, step by step. -/
theorem upF_step {h : List Du} {i : Nat} (h0 : 0 < i) (hb : bef (ge h i) (ge h ((i - 1) / 2)) = true) : upF h i = upF (swp h i ((i - 1) / 2)) ((i - 1) / 2) := by
  rw [upF, dif_pos ⟨h0, hb⟩]
theorem upF_stop {h : List Du} {i : Nat} (hb : bef (ge h i) (ge h ((i - 1) / 2)) = false) : upF h i = h := by
  rw [upF, dif_neg (fun hc => by rw [hb] at hc; exact absurd hc.2 (by decide))]
theorem upF_zero (h : List Du) : upF h 0 = h := upF_stop (bef_irr _)
theorem dnF_step {h : List Du} {i c : Nat} (hl : 2 * i + 1 < h.length) (hc : chF h i = c) (hb : bef (ge h c) (ge h i) = true) : dnF h i = dnF (swp h i c) c := by
  subst hc
  rw [dnF, dif_pos ⟨hl, hb⟩]
theorem dnF_stop {h : List Du} {i c : Nat} (hc : chF h i = c) (hb : bef (ge h c) (ge h i) = false) : dnF h i = h := by
  subst hc
  rw [dnF, dif_neg (fun hc => by rw [hb] at hc; exact absurd hc.2 (by decide))]
theorem dnF_leaf {h : List Du} {i : Nat} (hl : ¬ 2 * i + 1 < h.length) : dnF h i = h := by
  rw [dnF, dif_neg (fun hc => hl hc.1)]
theorem chF_two {h : List Du} {i : Nat} (hl : 2 * i + 2 < h.length) (hb : bef (ge h (2 * i + 2)) (ge h (2 * i + 1)) = true) : chF h i = 2 * i + 2 := if_pos ⟨hl, hb⟩
theorem chF_one {h : List Du} {i : Nat} (hb : ¬ (2 * i + 2 < h.length ∧ bef (ge h (2 * i + 2)) (ge h (2 * i + 1)) = true)) : chF h i = 2 * i + 1 := if_neg hb

/-! The booleans of Validate. -/
open Classical in
noncomputable def dpD (h : List Du) : Bool := decide (dupD h)
open Classical in
noncomputable def hpD (h : List Du) : Bool := decide (Hp h)
def snD (h : List Du) : Bool := h.all snd
open Classical in
theorem dpD_yes {h : List Du} (x : dupD h) : dpD h = true := decide_eq_true x
open Classical in
theorem dpD_no {h : List Du} (x : ¬ dupD h) : dpD h = false := decide_eq_false x
open Classical in
theorem dpD_iff (h : List Du) : dpD h = true ↔ dupD h := decide_eq_true_iff
open Classical in
theorem hpD_yes {h : List Du} (x : Hp h) : hpD h = true := decide_eq_true x
open Classical in
theorem hpD_no {h : List Du} (x : ¬ Hp h) : hpD h = false := decide_eq_false x
open Classical in
theorem hpD_iff (h : List Du) : hpD h = true ↔ Hp h := decide_eq_true_iff
theorem snD_iff (h : List Du) : snD h = true ↔ ∀ j, j < h.length → snd (ge h j) = true := by
  rw [snd_iff]; unfold snD; exact List.all_eq_true
theorem snD_no {h : List Du} {j : Nat} (hj : j < h.length) (hs : snd (ge h j) = false) : snD h = false := by
  rw [← Bool.not_eq_true, snD_iff]; intro k; rw [k j hj] at hs; cases hs
open Classical in
theorem vaF_eq (h : List Du) : vaF h = if 12 < h.length then 2 else if snD h = false then 1 else if dpD h = true then 10 else if hpD h = false then 11 else 0 := by
  have e1 : (snD h = false) ↔ ¬ ∀ j, j < h.length → snd (ge h j) = true := by rw [← snD_iff]; simp
  have e2 : (hpD h = false) ↔ ¬ Hp h := by rw [← hpD_iff]; simp
  unfold vaF
  simp only [e1, e2, dpD_iff]
  first | done | rfl | (split <;> (try rfl) <;> split <;> (try rfl) <;> congr)
theorem vaF_2 {h : List Du} (h1 : 12 < h.length) : vaF h = 2 := by rw [vaF_eq, if_pos h1]
theorem vaF_1 {h : List Du} (h1 : h.length ≤ 12) (h2 : snD h = false) : vaF h = 1 := by rw [vaF_eq, if_neg (by omega), if_pos h2]
theorem vaF_10 {h : List Du} (h1 : h.length ≤ 12) (h2 : snD h = true) (h3 : dpD h = true) : vaF h = 10 := by rw [vaF_eq, if_neg (by omega), if_neg (by simp [h2]), if_pos h3]
theorem vaF_11 {h : List Du} (h1 : h.length ≤ 12) (h2 : snD h = true) (h3 : dpD h = false) (h4 : hpD h = false) : vaF h = 11 := by rw [vaF_eq, if_neg (by omega), if_neg (by simp [h2]), if_neg (by simp [h3]), if_pos h4]
theorem vaF_0 {h : List Du} (h1 : h.length ≤ 12) (h2 : snD h = true) (h3 : dpD h = false) (h4 : hpD h = true) : vaF h = 0 := by rw [vaF_eq, if_neg (by omega), if_neg (by simp [h2]), if_neg (by simp [h3]), if_neg (by simp [h4])]

/-- The first error of a push, a pop, a removal. -/
noncomputable def puE (h : List Du) (d : Du) : Int := if vaF h ≠ 0 then vaF h else if snd d = false then 1 else if h.length = 12 then 3 else if 0 ≤ ixD h d.id then 10 else 0
noncomputable def poE (h : List Du) : Int := if vaF h ≠ 0 then vaF h else if h.length = 0 then 4 else 0
noncomputable def rmE (h : List Du) (id : Int) : Int := if vaF h ≠ 0 then vaF h else if ixD h id < 0 then 4 else 0
/-- What they return. -/
noncomputable def puR (h : List Du) (d : Du) : List Du := if puE h d = 0 then puF h d else []
noncomputable def poR (h : List Du) : List Du := if poE h = 0 then cuF h 0 else []
noncomputable def poX (h : List Du) : Du := if poE h = 0 then ge h 0 else zD
noncomputable def rmR (h : List Du) (id : Int) : List Du := if rmE h id = 0 then cuF h (ixD h id).toNat else []
noncomputable def unR (h : List Du) (now : Int) : List Int := if vaF h = 0 then unF h now else []
theorem poE_zero {h : List Du} (e : poE h = 0) : vaF h = 0 ∧ 0 < h.length := by
  unfold poE at e
  by_cases h1 : vaF h = 0
  · rw [if_neg (by simpa using h1)] at e
    by_cases h2 : h.length = 0
    · rw [if_pos h2] at e; exact absurd e (by decide)
    · exact ⟨h1, by omega⟩
  · rw [if_pos h1] at e; exact absurd e h1
theorem puE_zero {h : List Du} {d : Du} (e : puE h d = 0) : vaF h = 0 ∧ snd d = true ∧ h.length < 12 ∧ ∀ x ∈ h, x.id ≠ d.id := by
  unfold puE at e
  by_cases h1 : vaF h = 0
  · rw [if_neg (by simpa using h1)] at e
    cases h2 : snd d with
    | false => rw [if_pos h2] at e; exact absurd e (by decide)
    | true =>
      rw [if_neg (by simp [h2])] at e
      by_cases h3 : h.length = 12
      · rw [if_pos h3] at e; exact absurd e (by decide)
      · rw [if_neg h3] at e
        by_cases h4 : 0 ≤ ixD h d.id
        · rw [if_pos h4] at e; exact absurd e (by decide)
        · refine ⟨h1, rfl, ?_, fun x hx hid => h4 ((ixD_ge _ _).2 ⟨x, hx, hid⟩)⟩
          have := (vaF_zero h1).1
          omega
  · rw [if_pos h1] at e; exact absurd e h1
theorem rmE_zero {h : List Du} {id : Int} (e : rmE h id = 0) : vaF h = 0 ∧ ∃ k, k < h.length ∧ ixD h id = k ∧ (ge h k).id = id := by
  unfold rmE at e
  by_cases h1 : vaF h = 0
  · rw [if_neg (by simpa using h1)] at e
    by_cases h2 : ixD h id < 0
    · rw [if_pos h2] at e; exact absurd e (by decide)
    · rcases ixD_cases h id with ⟨e', _⟩ | ⟨k, hk, e', hi, _⟩
      · rw [e'] at h2; omega
      · exact ⟨h1, k, hk, e', hi⟩
  · rw [if_pos h1] at e; exact absurd e h1
end Go.Proofs.Ytobimcpkhgfliaa
