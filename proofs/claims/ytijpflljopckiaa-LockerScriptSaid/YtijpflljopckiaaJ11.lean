/- What is proved here: due.pushError and due.Push by contracts; due.Push by a contract; due.without by a contract; what a pop and a removal return: their posts, the box of an element; Tre. -/
import Derived.Test.YtijpflljopckiaaJ10
import Derived.Deep.CutRange
import Derived.Deep.QuietTactic
import Derived.BigQuiet
import Derived.Deep.DeepCutAuto
import Derived.Test.YtijpflljopckiaaJ03
import Derived.Deep.AppendLies
import Derived.BigFrame
import Derived.Test.YtijpflljopckiaaJ09
namespace Go.Proofs.Ytijpflljopckiaa
open Go.RowKit
set_option linter.unusedVariables false

/-- The two cells of an element in a box. -/
abbrev D2 (W : World) (p : Nat) (d : Du) : Prop := W.cell? ⟨p, 0, none⟩ = some (.int .i64 d.dl) ∧ W.cell? ⟨p, 1, none⟩ = some (.int .i64 d.id)
theorem D2.below {B : Nat} {W W' : World} {p : Nat} {d : Du} (h : D2 W p d) (hb : Below B W W') (hp : p < B) : D2 W' p d :=
  ⟨(hb.cell (p := ⟨p, 0, none⟩) hp).trans h.1, (hb.cell (p := ⟨p, 1, none⟩) hp).trans h.2⟩
theorem D2.start (w : World) (d : Du) (t : TypeId) : D2 (w.alloc (.cells #[.int .i64 d.dl, .int .i64 d.id] t)) w.heap.size d := by
  refine ⟨?_, ?_⟩ <;> (rw [World.cell?_alloc_new]; rfl)

end Go.Proofs.Ytijpflljopckiaa
namespace Go.Proofs.Ytijpflljopckiaa
open Go.RowKit
set_option linter.unusedVariables false

theorem D2.grown {W W' : World} {p base n : Nat} {d : Du} {v : Value} {xs : List Value} (h : D2 W p d) (ho : W.ownsRow base 157 2 v n xs) (hp : p < base) (hb : base ≤ W.heap.size) (hg : W.grownBy W' v.ownBlock) : D2 W' p d := by
  have hne : some p ≠ v.ownBlock := fun e => by have := (ho.lt p e.symm).1; omega
  exact ⟨(hg.cell_far ⟨p, 0, none⟩ (by show p < _; omega) hne).trans h.1, (hg.cell_far ⟨p, 1, none⟩ (by show p < _; omega) hne).trans h.2⟩
end Go.Proofs.Ytijpflljopckiaa
namespace Go.Proofs.Ytijpflljopckiaa
open Go.RowKit
set_option linter.unusedVariables false

/-- A heap as a result: it is new. -/
def DlV (w : World) (l : List Du) (e : Ending) (w' : World) : Prop := ∃ A c, e = .returned (.slice A l.length c) ∧ Nw w.heap.size A ∧ Dl w' w'.heap.size (.slice A l.length c) l ∧ Below w.heap.size w w'
theorem RwAt.put {w W : World} {q n i : Nat} {h : List Du} (r : RwAt w q n h W) (hi : i < n) (d : Du) : RwAt w q n (h.set i d) ((W.setCell ⟨q, i * 2, none⟩ (.int .i64 d.dl)).setCell ⟨q, i * 2 + 1, none⟩ (.int .i64 d.id)) :=
  ⟨(r.row.put hi d).congr fun t ht => by rw [ge_set _ _ _ _ (by rw [r.len]; exact hi)], by rw [List.length_set]; exact r.len, (r.bel.setCell (p := ⟨q, i * 2, none⟩) (Nat.le_refl _) _).setCell (p := ⟨q, i * 2 + 1, none⟩) (Nat.le_refl _) _⟩
end Go.Proofs.Ytijpflljopckiaa
namespace Go.Proofs.Ytijpflljopckiaa
open Go.RowKit
set_option linter.unusedVariables false


/-- A store before a list of elements leaves it. -/
theorem Dl.off {W : World} {B lo n c : Nat} {A : Option Addr} {l : List Du} (h : Dl W B (.slice A n c) l) (hA : Nw lo A) {p : Addr} (hp : p.block < lo) (v : Value) : Dl (W.setCell p v) B (.slice A n c) l := by
  obtain ⟨A', c', e, hl, hm, hr⟩ := h
  injection e with e1 e2 e3
  subst e1; subst e3
  refine ⟨A, c, by rw [e2], hl, hm, hr.1, fun h0 => ?_⟩
  obtain ⟨b, o, e, hb, hc⟩ := hr.2 h0
  have hlo := hA _ e
  exact ⟨b, o, e, hb, fun j u hu => (World.cell?_setCell_other W _ _ v (fun e' => by have e2 := congrArg Addr.block e'; simp at e2 hlo; omega)).trans (hc j u hu)⟩
/-- A box of an element that may be written. -/
abbrev D2F (W : World) (p : Nat) (d : Du) : Prop := W.cell? ⟨p, 0, none⟩ = some (.int .i64 d.dl) ∧ W.cell? ⟨p, 1, none⟩ = some (.int .i64 d.id) ∧ W.frozen? ⟨p, 0, none⟩ = false ∧ W.frozen? ⟨p, 1, none⟩ = false ∧ p < W.heap.size
theorem D2F.below {B : Nat} {W W' : World} {p : Nat} {d : Du} (h : D2F W p d) (hb : Below B W W') (hp : p < B) : D2F W' p d :=
  ⟨(hb.cell (p := ⟨p, 0, none⟩) hp).trans h.1, (hb.cell (p := ⟨p, 1, none⟩) hp).trans h.2.1, (hb.frozen (p := ⟨p, 0, none⟩) hp).trans h.2.2.1, (hb.frozen (p := ⟨p, 1, none⟩) hp).trans h.2.2.2.1, Nat.lt_of_lt_of_le h.2.2.2.2 hb.size⟩
theorem D2F.start (w : World) (d : Du) (t : TypeId) : D2F (w.alloc (.cells #[.int .i64 d.dl, .int .i64 d.id] t)) w.heap.size d := by
  have h := D2.start w d t
  exact ⟨h.1, h.2, by simp [go_sem], by simp [go_sem], by simp⟩

end Go.Proofs.Ytijpflljopckiaa
/- Plain: what Grant, Release, Extend of a table return; boxes of a table and of a message that may be written. -/
namespace Go.Proofs.Ytijpflljopckiaa
open Go.RowKit
set_option linter.unusedVariables false

/-- Behind a release. -/
noncomputable def rlH (l : List Le) (h : List Du) (id : Int) : List Du := if rlE l h id = 0 then rmR h id else []
noncomputable def rlL (l : List Le) (h : List Du) (id : Int) : List Le := if rlE l h id = 0 then l.eraseIdx (kAt Le.id l id) else []
noncomputable def rlM (l : List Le) (h : List Du) (id : Int) : Msg := if rlE l h id = 0 then (lg l (kAt Le.id l id)).m else zM
/-- Behind a grant. -/
noncomputable def grL (l : List Le) (h : List Du) (x : Le) : List Le := if grE l h x = 0 then kIns Le.id l x else []
noncomputable def grH (l : List Le) (h : List Du) (x : Le) : List Du := if grE l h x = 0 then hpu h x.du else []
section
variable {l : List Le} {h : List Du} {id dl : Int} {x : Le}
theorem hrm_tb (t : TbOk l h) : hrmE h id = if kFi Le.id l id < 0 then 4 else 0 := by
  rcases kFi_cases Le.id l id with ⟨e, _⟩ | ⟨k, hk, e, hi, _⟩
  · rw [if_pos (by omega)]
    unfold hrmE
    rw [if_neg (by simpa using t.va), if_pos (by rw [t.no (by omega)]; decide)]
  · rw [if_neg (by omega), ← hi]
    exact t.rm hk
theorem rlE_tb (t : TbOk l h) : rlE l h id = hrmE h id := by
  rw [hrm_tb t]
  unfold rlE
  rw [if_neg (by simpa using (tbV_iff l h).2 t)]
theorem rlH_tb (t : TbOk l h) : rlH l h id = rmR h id := by
  unfold rlH
  rw [rlE_tb t]
  by_cases e : hrmE h id = 0
  · rw [if_pos e]
  · rw [if_neg e]; unfold rmR; rw [if_neg e]
/-- A release that succeeds: where the lease is. -/
theorem rlE_at (e : rlE l h id = 0) : TbOk l h ∧ ∃ k, ∃ hk : k < l.length, kAt Le.id l id = k ∧ l[k].id = id ∧ rlH l h id = rmR h id ∧ rlL l h id = l.eraseIdx k ∧ rlM l h id = l[k].m := by
  obtain ⟨t, k, hk, e1, e2⟩ := rlE_zero e
  have e3 : kAt Le.id l id = k := by have := (kAt_fi t.asc (x := id) (by omega)).1; omega
  refine ⟨t, k, hk, e3, e2, rlH_tb t, ?_, ?_⟩
  · unfold rlL; rw [if_pos e, e3]
  · unfold rlM; rw [if_pos e, e3, lg_get hk]
end

/-- A box of a table that may be written. -/
structure RT (W : World) (r : Nat) (A : Option Addr) (n c : Nat) (A2 : Option Addr) (n2 c2 : Nat) : Prop where
  c0 : W.cell? ⟨r, 0, none⟩ = some (.slice A n c)
  c1 : W.cell? ⟨r, 1, none⟩ = some (.slice A2 n2 c2)
  f0 : W.frozen? ⟨r, 0, none⟩ = false
  f1 : W.frozen? ⟨r, 1, none⟩ = false
  lt : r < W.heap.size
section
variable {W W' w : World} {r n c n2 c2 : Nat} {A A2 : Option Addr}
theorem RT.below {B : Nat} (h : RT W r A n c A2 n2 c2) (hb : Below B W W') (hr : r < B) : RT W' r A n c A2 n2 c2 :=
  ⟨(hb.cell (p := ⟨r, 0, none⟩) hr).trans h.c0, (hb.cell (p := ⟨r, 1, none⟩) hr).trans h.c1, (hb.frozen (p := ⟨r, 0, none⟩) hr).trans h.f0, (hb.frozen (p := ⟨r, 1, none⟩) hr).trans h.f1, Nat.lt_of_lt_of_le h.lt hb.size⟩
theorem RT.start (w : World) (A : Option Addr) (n c : Nat) (A2 : Option Addr) (n2 c2 : Nat) (t : TypeId) : RT (w.alloc (.cells #[.slice A n c, .slice A2 n2 c2] t)) w.heap.size A n c A2 n2 c2 :=
  ⟨by simp [go_sem], by simp [go_sem], by simp [go_sem], by simp [go_sem], by simp⟩
/-- The two stores of a table. -/
abbrev set2 (W : World) (r : Nat) (v v2 : Value) : World := (W.setCell ⟨r, 0, none⟩ v).setCell ⟨r, 1, none⟩ v2
theorem set2_far {v v2 : Value} {p : Addr} (hp : p.block ≠ r) : (set2 W r v v2).cell? p = W.cell? p := by
  rw [World.cell?_setCell_other _ _ _ _ (fun e => hp (by rw [← e])), World.cell?_setCell_other _ _ _ _ (fun e => hp (by rw [← e]))]
theorem set2_frozen {v v2 : Value} {p : Addr} : (set2 W r v v2).frozen? p = W.frozen? p := by rw [World.frozen?_setCell, World.frozen?_setCell]
theorem set2_size {v v2 : Value} : (set2 W r v v2).heap.size = W.heap.size := by simp
theorem El.set2 {B lo m d : Nat} {D : Option Addr} {l : List Le} {v v2 : Value} (h : El W B (.slice D m d) l) (hA : Nw lo D) (hr : r < lo) : El (set2 W r v v2) B (.slice D m d) l := (h.off hA (p := ⟨r, 0, none⟩) hr _).off hA (p := ⟨r, 1, none⟩) hr _
theorem Dl.set2 {B lo m d : Nat} {D : Option Addr} {l : List Du} {v v2 : Value} (h : Dl W B (.slice D m d) l) (hA : Nw lo D) (hr : r < lo) : Dl (set2 W r v v2) B (.slice D m d) l := (h.off hA (p := ⟨r, 0, none⟩) hr _).off hA (p := ⟨r, 1, none⟩) hr _
theorem El.offs {B lo m d : Nat} {D : Option Addr} {l : List Le} {s : Nat} (hA : Nw lo D) (hr : s < lo) : ∀ (vs : List Value) (o : Nat) {W : World}, El W B (.slice D m d) l → El (W.setCells s o vs) B (.slice D m d) l
  | [], _, _, h => h
  | v :: vs, o, W, h => El.offs hA hr vs (o + 1) (h.off hA (p := ⟨s, o, none⟩) hr v)
theorem Dl.offs {B lo m d : Nat} {D : Option Addr} {l : List Du} {s : Nat} (hA : Nw lo D) (hr : s < lo) : ∀ (vs : List Value) (o : Nat) {W : World}, Dl W B (.slice D m d) l → Dl (W.setCells s o vs) B (.slice D m d) l
  | [], _, _, h => h
  | v :: vs, o, W, h => Dl.offs hA hr vs (o + 1) (h.off hA (p := ⟨s, o, none⟩) hr v)
end
end Go.Proofs.Ytijpflljopckiaa
