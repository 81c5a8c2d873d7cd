/- What is proved here: shard.Take of a valid live shard; slices.Values of deadlines gives its elements in order to whatever loop; slices.Collect collects them; due.Until by a contract; lease.Lapsed's function value, slices.IndexFunc of numbers with it by contracts; slices.DeleteFunc of numbers with lease.Lapsed's function value, lease.Lapsed by contracts. -/
import Derived.Test.YtijpflljopckiaaJ28
import Derived.RangeFuncNested
import Derived.RangeFuncBound
import Derived.RangeFuncCalls
import Derived.RangeFuncLeaves
import Derived.RangeFuncBox
import Derived.Shelf.Abstract
import Derived.Shelf.RegionOpen
import Derived.WalkKit
import Derived.OwnWalkIn
import Derived.TacticsInMore
import Derived.LoopNIn
import Derived.LoopIn
import Derived.Maps.AppendAt
import Derived.Test.YtijpflljopckiaaJ10
import Derived.Deep.CutRange
import Derived.Deep.QuietTactic
import Derived.BigQuiet
import Derived.Deep.DeepCutAuto
import Derived.Test.YtijpflljopckiaaRows
import Derived.Test.YtijpflljopckiaaJ02
import Derived.Outline
import Derived.IntWalk
import Derived.Test.YtijpflljopckiaaJ11
import Derived.Test.YtijpflljopckiaaJ12
import Derived.Test.YtijpflljopckiaaJ19
import Derived.Test.YtijpflljopckiaaJ20
import Derived.Lib.SliceRun
import Derived.Laws.OwnMore
namespace Go.Proofs.Ytijpflljopckiaa
open Go.RowKit
set_option linter.unusedVariables false

/-- The work of Take: the shard, the result box, the messages that are leased, the leases. -/
structure TkAt (w : World) (p r B : Nat) (S : Sh) (D : Sx) (A0 : Option Addr) (c0 : Nat) (L : List Msg) (lv : Value) (K : List Le) (W : World) : Prop where
  sa : SAt w p S D W
  rs : SB8 W r zS zX
  l0 : Ls W B (.slice A0 L.length c0) L
  o0 : OffB p L.length A0
  own : W.ownsRow B 154 8 lv K.length (ecs K)
  dj : ∀ q, lv.ownBlock = some q → SOff S D q
  dr : D.nw (r + 1)
  ne : p < r ∧ r < B ∧ B ≤ W.heap.size
section
variable {w W W' : World} {p r B c0 : Nat} {S : Sh} {D : Sx} {A0 : Option Addr} {L : List Msg} {K K' : List Le} {lv : Value}
theorem TkAt.below (h : TkAt w p r B S D A0 c0 L lv K W) (hb : Below W.heap.size W W') : TkAt w p r B S D A0 c0 L lv K W' :=
  ⟨h.sa.below hb, h.rs.up hb, h.l0.below (hb.mono h.ne.2.2), h.o0, own_below h.own hb, h.dj, h.dr, h.ne.1, h.ne.2.1, Nat.le_trans h.ne.2.2 hb.size⟩
/-- Stores into a box behind all lists. -/
theorem TkAt.box (h : TkAt w p r B S D A0 c0 L lv K W) {q : Addr} (hq : B ≤ q.block) (hrow : ∀ x, lv.ownBlock = some x → x ≠ q.block) (ho : SOff S D q.block) (v : Value) : TkAt w p r B S D A0 c0 L lv K (W.setCell q v) := by
  have hne := h.ne
  refine ⟨h.sa.other (by omega) ho (by have := h.sa.old; omega) v, h.rs.other (by omega) v, h.l0.setCell hq v, h.o0, ?_, h.dj, h.dr, hne.1, hne.2.1, by simpa using hne.2.2⟩
  refine ⟨h.own.1, h.own.2.imp_right fun ⟨g, cap, cur, hv, hg, hh, rr⟩ => ⟨g, cap, cur, hv, hg, ?_, rr⟩⟩
  rw [← hh]
  exact Below.heap_setCell W q v g (fun e => hrow g (by rw [hv]; rfl) e)
/-- A lease more. -/
theorem TkAt.app {lv' : Value} (h : TkAt w p r B S D A0 c0 L lv K W) (ho : W'.ownsRow B 154 8 lv' K'.length (ecs K')) (hg : W.grownBy W' lv.ownBlock) (hw : ∀ q, lv'.ownBlock = some q → lv.ownBlock = some q ∨ W.heap.size ≤ q) : TkAt w p r B S D A0 c0 L lv' K' W' := by
  have hne := h.ne
  have hlt : ∀ q, lv.ownBlock = some q → B ≤ q := fun q e => (h.own.lt q e).1
  refine ⟨h.sa.grown hg (fun q e => ⟨h.dj q e, by have := hlt q e; omega⟩), h.rs.grown hg (fun q e => by have := hlt q e; omega), h.l0.grownR hne.2.2 hg (fun q e => ?_), h.o0, ho, fun q e => ?_, h.dr, hne.1, hne.2.1, Nat.le_trans hne.2.2 hg.size⟩
  · exact rd_off h.l0.rd (hlt q e)
  · rcases hw q e with e' | e'
    · exact h.dj q e'
    · exact h.sa.sr.offs e'
end
theorem Ls.setsP {W : World} {p B n c : Nat} {A : Option Addr} {l : List Msg} (ho : OffB p n A) : ∀ (vs : List Value) (m : Nat) (W : World), Ls W B (.slice A n c) l → Ls (W.setCells p m vs) B (.slice A n c) l
  | [], _, _, h => h
  | v :: r, m, W, h => Ls.setsP (W := W) ho r (m + 1) _ (h.offp (p := ⟨p, m, none⟩) ho v)
end Go.Proofs.Ytijpflljopckiaa
namespace Go.Proofs.Ytijpflljopckiaa
open Go.RowKit Go.Shelf
set_option linter.unusedVariables false
attribute [local go_sem] Oper.semAt_some

/-- Block B is the box of an element. -/
def Bx2 (W : World) (B : Nat) (d : Du) : Prop := W.heap[B]? = some (.cells #[.int .i64 d.dl, .int .i64 d.id] 157 (0, 0))
theorem Bx2.new (W : World) (d : Du) : Bx2 (W.alloc (.cells #[.int .i64 d.dl, .int .i64 d.id] 157)) W.heap.size d := World.alloc_heap_new W _
theorem Bx2.cells {W : World} {B : Nat} {d : Du} (h : Bx2 W B d) : W.cell? ⟨B, 0, none⟩ = some (.int .i64 d.dl) ∧ W.cell? ⟨B, 1, none⟩ = some (.int .i64 d.id) := by
  constructor <;> simp [World.cell?, show W.heap[B]? = _ from h]

end Go.Proofs.Ytijpflljopckiaa
namespace Go.Proofs.Ytijpflljopckiaa
open Go.RowKit
set_option linter.unusedVariables false

/-- A slice that reads as these numbers. -/
def Nr (w : World) (B : Nat) (v : Value) (zs : List Int) : Prop := ∃ A c, v = .slice A zs.length c ∧ zs.length ≤ c ∧ c ≤ maxLen ∧ Rd w B 1 A zs.length (zs.map i64v)
section
variable {w w' : World} {B B' : Nat} {v : Value} {zs : List Int} {A : Option Addr} {n c : Nat}
theorem Nr.nil : Nr w B (.slice none 0 0) [] := ⟨none, 0, rfl, Nat.le_refl _, Nat.zero_le _, Rd.nil none⟩
theorem Nr.below (h : Nr w B v zs) (hb : Below B w w') : Nr w' B v zs := by
  obtain ⟨A, c, e, h1, h2, h3⟩ := h; exact ⟨A, c, e, h1, h2, h3.below hb⟩
theorem Nr.more (h : Nr w B v zs) (hB : B ≤ B') : Nr w B' v zs := by
  obtain ⟨A, c, e, h1, h2, h3⟩ := h; exact ⟨A, c, e, h1, h2, h3.more hB⟩
theorem Nr.up (h : Nr w w.heap.size v zs) (hb : Below w.heap.size w w') : Nr w' w'.heap.size v zs := (h.below hb).more hb.size
theorem Nr.drewN (h : Nr w B v zs) (k : Nat) : Nr (w.drewN k) B v zs := h
theorem Nr.form (h : Nr w B v zs) : ∃ A c, v = .slice A zs.length c := by obtain ⟨A, c, e, _⟩ := h; exact ⟨A, c, e⟩
theorem Nr.len (h : Nr w B (.slice A n c) zs) : n = zs.length ∧ n ≤ c ∧ c ≤ maxLen := by
  obtain ⟨A', c', e, h1, h2, _⟩ := h
  injection e with e1 e2 e3
  subst e2; subst e3
  exact ⟨rfl, h1, h2⟩
theorem Nr.at_ {k : Nat} (h : Nr w B (.slice A n c) zs) (hk : k < zs.length) : ∃ b o, A = some ⟨b, o, none⟩ ∧ b < B ∧ w.cell? ⟨b, o + k, none⟩ = some (.int .i64 zs[k]) := by
  obtain ⟨A', c', e, h1, h2, h3⟩ := h
  injection e with e1 e2 e3
  subst e1; subst e2
  obtain ⟨b, o, e, hb, hc⟩ := h3.2 (by omega)
  exact ⟨b, o, e, hb, hc k _ (by simp [hk, i64v])⟩
theorem Nr.of_own {base : Nat} {e : TypeId} (h : w.ownsRow base e 1 v zs.length (zs.map i64v)) : Nr w w.heap.size v zs := by
  rcases h.2 with ⟨hv, h0⟩ | ⟨g, cap, cur, hv, _, _, hl, hm, _⟩
  · subst hv; exact ⟨none, 0, by rw [h0], by omega, Nat.zero_le _, by rw [show zs = [] from List.length_eq_zero_iff.1 h0]; exact Rd.nil _⟩
  · subst hv; exact ⟨_, cap, rfl, hl, hm, Rd.of_own h⟩
end

end Go.Proofs.Ytijpflljopckiaa
namespace Go.Proofs.Ytijpflljopckiaa
open Go.RowKit
set_option linter.unusedVariables false

/-- The work of Lapsed: the table, the epoch. -/
structure LpW (w : World) (p q : Nat) (A : Option Addr) (c : Nat) (l : List Le) (A2 : Option Addr) (c2 : Nat) (h : List Du) (ep : Int) (W : World) : Prop where
  va : VaA w p A c l A2 c2 h W
  ce : W.cell? ⟨q, 0, none⟩ = some (.int .i64 ep)
  lt : q < W.heap.size
theorem LpW.below {w W W' : World} {p q c c2 : Nat} {A A2 : Option Addr} {l : List Le} {h : List Du} {ep : Int} (k : LpW w p q A c l A2 c2 h ep W) (hb : Below W.heap.size W W') : LpW w p q A c l A2 c2 h ep W' :=
  ⟨k.va.below hb, (hb.cell (p := ⟨q, 0, none⟩) k.lt).trans k.ce, Nat.lt_of_lt_of_le k.lt hb.size⟩
end Go.Proofs.Ytijpflljopckiaa
namespace Go.Proofs.Ytijpflljopckiaa
open Go.RowKit
set_option linter.unusedVariables false

/-- What is kept. -/
def kpI (p : Int → Bool) (zs : List Int) : List Int := zs.filter (fun x => !p x)
theorem kpI_all {p : Int → Bool} {zs : List Int} (hn : ∀ j (hj : j < zs.length), p zs[j] = false) : kpI p zs = zs := by
  unfold kpI
  rw [List.filter_eq_self]
  intro x hx
  obtain ⟨j, hj, e⟩ := List.mem_iff_getElem.1 hx
  rw [← e, hn j hj]; rfl
theorem kpI_take_all {p : Int → Bool} {zs : List Int} {k : Nat} (hn : ∀ j (hj : j < zs.length), j < k → p zs[j] = false) : kpI p (zs.take k) = zs.take k :=
  kpI_all fun j hj => by rw [List.getElem_take]; exact hn j (by rw [List.length_take] at hj; omega) (by rw [List.length_take] at hj; omega)
theorem kpI_succ (p : Int → Bool) {zs : List Int} {j : Nat} (hj : j < zs.length) : kpI p (zs.take (j + 1)) = kpI p (zs.take j) ++ if p zs[j] = true then [] else [zs[j]] := by
  unfold kpI
  rw [List.take_succ_eq_append_getElem hj, List.filter_append]
  congr 1
  cases e : p zs[j] with
  | true => rw [if_pos rfl]; simp [e]
  | false => rw [if_neg (by decide)]; simp [e]
/-- A row while it is worked on: what is kept in front, what is left from place j on. -/
structure DfI (p : Int → Bool) (zs : List Int) (i j : Nat) (ys : List Int) : Prop where
  len : ys.length = zs.length
  kept : ys.take i = kpI p (zs.take j)
  left : ys.drop j = zs.drop j
  lt : i < j
  le : j ≤ zs.length
  il : i = (kpI p (zs.take j)).length
theorem DfI.start {p : Int → Bool} {zs : List Int} {k : Nat} (hk : k < zs.length) (h1 : p zs[k] = true) (hn : ∀ j (hj : j < zs.length), j < k → p zs[j] = false) : DfI p zs k (k + 1) zs := by
  have e : kpI p (zs.take (k + 1)) = zs.take k := by rw [kpI_succ p hk, kpI_take_all hn, if_pos h1, List.append_nil]
  exact ⟨rfl, e.symm, rfl, Nat.lt_succ_self _, hk, by rw [e, List.length_take]; omega⟩
theorem DfI.at_ {p : Int → Bool} {zs ys : List Int} {i j : Nat} (h : DfI p zs i j ys) (hj : j < zs.length) : ys[j]'(by rw [h.len]; exact hj) = zs[j] := by
  have e := h.left
  rw [List.drop_eq_getElem_cons (by rw [h.len]; exact hj), List.drop_eq_getElem_cons hj] at e
  injection e
theorem DfI.skip {p : Int → Bool} {zs ys : List Int} {i j : Nat} (h : DfI p zs i j ys) (hj : j < zs.length) (hp : p zs[j] = true) : DfI p zs i (j + 1) ys := by
  have e : kpI p (zs.take (j + 1)) = kpI p (zs.take j) := by rw [kpI_succ p hj, if_pos hp, List.append_nil]
  have hl := h.left
  rw [List.drop_eq_getElem_cons (by rw [h.len]; exact hj), List.drop_eq_getElem_cons hj] at hl
  injection hl with _ hl
  exact ⟨h.len, by rw [e]; exact h.kept, hl, Nat.lt_succ_of_lt h.lt, hj, by rw [e]; exact h.il⟩
theorem DfI.keep {p : Int → Bool} {zs ys : List Int} {i j : Nat} (h : DfI p zs i j ys) (hj : j < zs.length) (hp : p zs[j] = false) : DfI p zs (i + 1) (j + 1) (ys.set i zs[j]) := by
  have e : kpI p (zs.take (j + 1)) = kpI p (zs.take j) ++ [zs[j]] := by rw [kpI_succ p hj, if_neg (by rw [hp]; decide)]
  have hl := h.left
  rw [List.drop_eq_getElem_cons (by rw [h.len]; exact hj), List.drop_eq_getElem_cons hj] at hl
  injection hl with _ hl
  have hi : i < ys.length := by have := h.lt; have := h.len; omega
  refine ⟨by rw [List.length_set]; exact h.len, ?_, ?_, Nat.succ_lt_succ h.lt, hj, by rw [e, List.length_append, ← h.il]; rfl⟩
  · rw [e, ← h.kept, List.take_succ_eq_append_getElem (by rw [List.length_set]; exact hi), List.take_set_of_le (Nat.le_refl _), List.getElem_set_self]
  · rw [List.drop_set_of_lt (by have := h.lt; omega)]
    exact hl
theorem DfI.done {p : Int → Bool} {zs ys : List Int} {i j : Nat} (h : DfI p zs i j ys) (hj : ¬ j < zs.length) : ys.take i = kpI p zs ∧ i = (kpI p zs).length ∧ i < zs.length := by
  have e : j = zs.length := by have := h.le; omega
  have h1 := h.kept
  have h2 := h.il
  have h3 := h.lt
  rw [e, List.take_length] at h1 h2
  exact ⟨h1, h2, by omega⟩

end Go.Proofs.Ytijpflljopckiaa
