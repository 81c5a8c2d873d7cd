/- What is proved here: due.pushError and due.Push by contracts; due.Push by a contract; due.without by a contract; what a pop and a removal return: their posts, the box of an element. -/
import Derived.Test.YtdilgeabcacbdaaGreatJ15
import Derived.Test.YtdilgeabcacbdaaGreatJ03
import Derived.Deep.AppendLies
import Derived.BigFrame
namespace Go.Proofs.YtdilgeabcacbdaaGreat
open Go.RowKit
set_option linter.unusedVariables false

/-- The two cells of an element in a box. -/
abbrev D2 (W : World) (p : Nat) (d : Du) : Prop := W.cell? ⟨p, 0, none⟩ = some (.int .i64 d.dl) ∧ W.cell? ⟨p, 1, none⟩ = some (.int .i64 d.id)
theorem D2.below {B : Nat} {W W' : World} {p : Nat} {d : Du} (h : D2 W p d) (hb : Below B W W') (hp : p < B) : D2 W' p d :=
  ⟨(hb.cell (p := ⟨p, 0, none⟩) hp).trans h.1, (hb.cell (p := ⟨p, 1, none⟩) hp).trans h.2⟩
theorem D2.start (w : World) (d : Du) (t : TypeId) : D2 (w.alloc (.cells #[.int .i64 d.dl, .int .i64 d.id] t)) w.heap.size d := by
  refine ⟨?_, ?_⟩ <;> (rw [World.cell?_alloc_new]; rfl)

end Go.Proofs.YtdilgeabcacbdaaGreat
namespace Go.Proofs.YtdilgeabcacbdaaGreat
open Go.RowKit
set_option linter.unusedVariables false

/-- A heap and an error, as a result: the heap is new. -/
def DlE (w : World) (l : List Du) (x : Int) (e : Ending) (w' : World) : Prop := ∃ A c, e = .returned (.tuple #[.slice A l.length c, .int .i64 x]) ∧ Nw w.heap.size A ∧ Dl w' w'.heap.size (.slice A l.length c) l ∧ Below w.heap.size w w'
theorem RwAt.of_row {w W : World} {q n : Nat} {h : List Du} (r : DRow W q n (ge h)) (l : h.length = n) (b : Below q w W) : RwAt w q n h W := ⟨r, l, b⟩
theorem push_end {w W w1 : World} {h : List Du} {d : Du} {g cap base : Nat} {v : Value} (hB : Below w.heap.size w W) (hv : W.ownsRow base 88 2 v h.length (dcs h)) (hb : w.heap.size ≤ base)
    (hown : w1.ownsRow base 88 2 (.slice (some ⟨g, 0, none⟩) (h.length + 1) cap) (h.length + 1) (dcs h ++ d.l)) (hg : W.grownBy w1 v.ownBlock) :
    DRow w1 g (h.length + 1) (ge (h ++ [d])) ∧ w.heap.size ≤ g ∧ h.length + 1 ≤ cap ∧ cap ≤ maxLen ∧ Below w.heap.size w w1 := by
  have hown2 : w1.ownsRow base 88 2 (.slice (some ⟨g, 0, none⟩) (h.length + 1) cap) (h.length + 1) (dcs (h ++ [d])) := by
    rw [dcs_app, show dcs [d] = d.l by simp [dcs]]; exact hown
  have h1 := hown2.lt g rfl
  have h2 : h.length + 1 ≤ cap ∧ cap ≤ maxLen := by
    rcases hown2.2 with ⟨e, _⟩ | ⟨g', cap', cur, e, _, _, hl, hm, _⟩
    · cases e
    · injection e with _ _ e3
      subst e3
      exact ⟨hl, hm⟩
  exact ⟨DRow.of_own hown2, Nat.le_trans hb h1.1, h2.1, h2.2, hB.grown hg hB.size (fun k e => Nat.le_trans hb (hv.lt k e).1)⟩

theorem du_one (d : Du) : ∀ u ∈ d.l, u.oneCell' = true := by
  intro u hu
  simp only [Du.l, List.mem_cons, List.not_mem_nil, or_false] at hu
  rcases hu with rfl | rfl <;> rfl
theorem D2.grown {W W' : World} {p base n : Nat} {d : Du} {v : Value} {xs : List Value} (h : D2 W p d) (ho : W.ownsRow base 88 2 v n xs) (hp : p < base) (hb : base ≤ W.heap.size) (hg : W.grownBy W' v.ownBlock) : D2 W' p d := by
  have hne : some p ≠ v.ownBlock := fun e => by have := (ho.lt p e.symm).1; omega
  exact ⟨(hg.cell_far ⟨p, 0, none⟩ (by show p < _; omega) hne).trans h.1, (hg.cell_far ⟨p, 1, none⟩ (by show p < _; omega) hne).trans h.2⟩
/-- The copy first, then the block of the new element. -/
theorem push_pre0 {w w1 w2 : World} {l : List Du} {d : Du} {p : Nat} {v : Value} (hB : Below w.heap.size w w1) (hp : p < w1.heap.size) (hs : D2 w1.drew p d) (ho : w2.ownsRow w1.drew.heap.size 88 2 v l.length (dcs l)) (hb : Below w1.drew.heap.size w1.drew w2) :
    D2 w2 p d ∧ D2 (w2.alloc (.cells #[.int .i64 d.dl, .int .i64 d.id] 88)) p d ∧ (w2.alloc (.cells #[.int .i64 d.dl, .int .i64 d.id] 88)).ownsRow w1.heap.size 88 2 v l.length (dcs l) ∧ w1.heap.size ≤ (w2.alloc (.cells #[.int .i64 d.dl, .int .i64 d.id] 88)).heap.size ∧ Below w.heap.size w (w2.alloc (.cells #[.int .i64 d.dl, .int .i64 d.id] 88)) ∧ ∀ j u, d.l[j]? = some u → (w2.alloc (.cells #[.int .i64 d.dl, .int .i64 d.id] 88)).cell? ((⟨w2.heap.size, 0, none⟩ : Addr).add j) = some u := by
  have hs2 : D2 w2 p d := hs.below hb hp
  have hsz : w1.heap.size ≤ w2.heap.size := hb.size
  have hb2 : Below w.heap.size w w2 := hB.trans ((drew_bel hb).mono hB.size)
  refine ⟨hs2, hs2.below ((Below.refl w2.heap.size w2).alloc (Nat.le_refl _) _) (by omega), ho.alloc _, by simp; omega, hb2.alloc hb2.size _, fun j u hu => ?_⟩
  rw [add_mk, Nat.zero_add, World.cell?_alloc_new]
  rw [← hu]
  simp [Du.l]
/-- The block of the new element first, then the copy. -/
theorem push_pre1 {w w1 w2 : World} {l : List Du} {d : Du} {p : Nat} {v : Value} (hB : Below w.heap.size w w1) (hp : p < w1.heap.size) (hs : D2 (w1.alloc (.cells #[.int .i64 d.dl, .int .i64 d.id] 88)).drew p d) (ho : w2.ownsRow (w1.alloc (.cells #[.int .i64 d.dl, .int .i64 d.id] 88)).drew.heap.size 88 2 v l.length (dcs l)) (hb : Below (w1.alloc (.cells #[.int .i64 d.dl, .int .i64 d.id] 88)).drew.heap.size (w1.alloc (.cells #[.int .i64 d.dl, .int .i64 d.id] 88)).drew w2) :
    D2 w2 p d ∧ w2.ownsRow w1.heap.size 88 2 v l.length (dcs l) ∧ w1.heap.size ≤ w2.heap.size ∧ Below w.heap.size w w2 ∧ ∀ j u, d.l[j]? = some u → w2.cell? ((⟨w1.heap.size, 0, none⟩ : Addr).add j) = some u := by
  have hz : (w1.alloc (.cells #[.int .i64 d.dl, .int .i64 d.id] 88)).drew.heap.size = w1.heap.size + 1 := by simp
  have hb' := drew_bel hb
  have hz' : (w1.alloc (.cells #[.int .i64 d.dl, .int .i64 d.id] 88)).heap.size = w1.heap.size + 1 := by simp
  have hsz : w1.heap.size + 1 ≤ w2.heap.size := by rw [← hz]; exact hb.size
  refine ⟨hs.below hb (by rw [hz]; omega), own_low ho (by rw [hz]; omega), by omega, (hB.alloc hB.size _).trans (hb'.mono (by rw [hz']; have := hB.size; omega)), fun j u hu => ?_⟩
  rw [add_mk, Nat.zero_add, hb'.cell (p := ⟨w1.heap.size, j, none⟩) (by show w1.heap.size < _; rw [hz']; omega), World.cell?_alloc_new]
  rw [← hu]
  simp [Du.l]

end Go.Proofs.YtdilgeabcacbdaaGreat
namespace Go.Proofs.YtdilgeabcacbdaaGreat
open Go.RowKit
set_option linter.unusedVariables false

/-- A heap as a result: it is new. -/
def DlV (w : World) (l : List Du) (e : Ending) (w' : World) : Prop := ∃ A c, e = .returned (.slice A l.length c) ∧ Nw w.heap.size A ∧ Dl w' w'.heap.size (.slice A l.length c) l ∧ Below w.heap.size w w'
theorem DRow.dl' {W : World} {q n cap : Nat} {h : List Du} (r : DRow W q n (ge h)) (hn : h.length = n) (hc : n ≤ cap) (hm : cap ≤ maxLen) : Dl W W.heap.size (.slice (some ⟨q, 0, none⟩) n cap) h := by
  have h1 := r.dl n cap (Nat.le_refl _) hc hm
  have h2 : (List.range n).map (ge h) = h := by rw [← hn]; exact ge_row h
  rw [h2] at h1
  exact h1
/-- What the call owns, as a row. -/
theorem own_row {W : World} {base n : Nat} {l : List Du} {v : Value} (ho : W.ownsRow base 88 2 v n (dcs l)) (h0 : 0 < n) : ∃ q cap, v = .slice (some ⟨q, 0, none⟩) n cap ∧ base ≤ q ∧ n ≤ cap ∧ cap ≤ maxLen ∧ DRow W q n (ge l) := by
  rcases ho.2 with ⟨_, h⟩ | ⟨q, cap, cur, hv, hq, _, hl, hm, _⟩
  · omega
  · subst hv
    exact ⟨q, cap, rfl, hq, hl, hm, DRow.of_own ho⟩
theorem RwAt.put {w W : World} {q n i : Nat} {h : List Du} (r : RwAt w q n h W) (hi : i < n) (d : Du) : RwAt w q n (h.set i d) ((W.setCell ⟨q, i * 2, none⟩ (.int .i64 d.dl)).setCell ⟨q, i * 2 + 1, none⟩ (.int .i64 d.id)) :=
  ⟨(r.row.put hi d).congr fun t ht => by rw [ge_set _ _ _ _ (by rw [r.len]; exact hi)], by rw [List.length_set]; exact r.len, (r.bel.setCell (p := ⟨q, i * 2, none⟩) (Nat.le_refl _) _).setCell (p := ⟨q, i * 2 + 1, none⟩) (Nat.le_refl _) _⟩
end Go.Proofs.YtdilgeabcacbdaaGreat
namespace Go.Proofs.YtdilgeabcacbdaaGreat
open Go.RowKit
set_option linter.unusedVariables false


/-- A store before a list of elements leaves it. -/
theorem Dl.off {W : World} {B lo n c : Nat} {A : Option Addr} {l : List Du} (h : Dl W B (.slice A n c) l) (hA : Nw lo A) {p : Addr} (hp : p.block < lo) (v : Value) : Dl (W.setCell p v) B (.slice A n c) l := by
  obtain ⟨A', c', e, hl, hm, hr⟩ := h
  injection e with e1 e2 e3
  subst e1; subst e3
  refine ⟨A, c, by rw [e2], hl, hm, hr.1, fun h0 => ?_⟩
  obtain ⟨b, o, e, hb, hc⟩ := hr.2 h0
  have hlo := hA _ e
  exact ⟨b, o, e, hb, fun j u hu => (World.cell?_setCell_other W _ _ v (fun e' => by have e2 := congrArg Addr.block e'; simp at e2 hlo; omega)).trans (hc j u hu)⟩
/-- A box of an element that may be written. -/
abbrev D2F (W : World) (p : Nat) (d : Du) : Prop := W.cell? ⟨p, 0, none⟩ = some (.int .i64 d.dl) ∧ W.cell? ⟨p, 1, none⟩ = some (.int .i64 d.id) ∧ W.frozen? ⟨p, 0, none⟩ = false ∧ W.frozen? ⟨p, 1, none⟩ = false ∧ p < W.heap.size
theorem D2F.below {B : Nat} {W W' : World} {p : Nat} {d : Du} (h : D2F W p d) (hb : Below B W W') (hp : p < B) : D2F W' p d :=
  ⟨(hb.cell (p := ⟨p, 0, none⟩) hp).trans h.1, (hb.cell (p := ⟨p, 1, none⟩) hp).trans h.2.1, (hb.frozen (p := ⟨p, 0, none⟩) hp).trans h.2.2.1, (hb.frozen (p := ⟨p, 1, none⟩) hp).trans h.2.2.2.1, Nat.lt_of_lt_of_le h.2.2.2.2 hb.size⟩
theorem D2F.start (w : World) (d : Du) (t : TypeId) : D2F (w.alloc (.cells #[.int .i64 d.dl, .int .i64 d.id] t)) w.heap.size d := by
  have h := D2.start w d t
  exact ⟨h.1, h.2, by simp [go_sem], by simp [go_sem], by simp⟩

end Go.Proofs.YtdilgeabcacbdaaGreat
