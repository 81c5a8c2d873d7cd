/- What is proved here: Wnp. -/
import Derived.Test.YtbeafcjbldnkhaaJ04
import Derived.Test.YtbeafcjbldnkhaaJ13
import Derived.ArgAppend
import Derived.BigFrame
/- Plain: a list of messages that is cut at both ends and appended to. -/
namespace Go.Proofs.Ytbeafcjbldnkhaa
open Go.RowKit
set_option linter.unusedVariables false

/-- A list of messages from block 'base' on, below Bd: it may be appended to in place. -/
def Wn (W : World) (base Bd : Nat) (v : Value) (l : List Msg) : Prop := ∃ A c, v = .slice A l.length c ∧ l.length ≤ c ∧ c ≤ maxLen ∧ (A = none → c = 0) ∧
  (0 < c → ∃ b o, A = some ⟨b, o, none⟩ ∧ base ≤ b ∧ b < Bd ∧ (∀ j u, (lcs l)[j]? = some u → W.cell? ⟨b, o + j, none⟩ = some u) ∧ ∀ j, j < c * 7 → (W.cell? ⟨b, o + j, none⟩).isSome = true ∧ W.frozen? ⟨b, o + j, none⟩ = false)
section
variable {W W' : World} {base Bd Bd' : Nat} {v : Value} {l : List Msg} {A : Option Addr} {n c : Nat}
theorem Wn.nil : Wn W base Bd (.slice none 0 0) [] := ⟨none, 0, rfl, Nat.le_refl _, Nat.zero_le _, fun _ => rfl, fun h => absurd h (by omega)⟩
theorem Wn.more (h : Wn W base Bd v l) (hB : Bd ≤ Bd') : Wn W base Bd' v l := by
  obtain ⟨A, c, e, h1, h2, h3, h4⟩ := h
  exact ⟨A, c, e, h1, h2, h3, fun h0 => by obtain ⟨b, o, e, k1, k2, k3⟩ := h4 h0; exact ⟨b, o, e, k1, by omega, k3⟩⟩
theorem Wn.keep (h : Wn W base Bd v l) (hc : ∀ b o, base ≤ b → b < Bd → W'.cell? ⟨b, o, none⟩ = W.cell? ⟨b, o, none⟩ ∧ W'.frozen? ⟨b, o, none⟩ = W.frozen? ⟨b, o, none⟩) : Wn W' base Bd v l := by
  obtain ⟨A, c, e, h1, h2, h3, h4⟩ := h
  refine ⟨A, c, e, h1, h2, h3, fun h0 => ?_⟩
  obtain ⟨b, o, e, k1, k2, k3, k4⟩ := h4 h0
  exact ⟨b, o, e, k1, k2, fun j u hu => (hc b _ k1 k2).1.trans (k3 j u hu), fun j hj => ⟨by rw [(hc b (o + j) k1 k2).1]; exact (k4 j hj).1, (hc b (o + j) k1 k2).2.trans (k4 j hj).2⟩⟩
theorem Wn.below (h : Wn W base Bd v l) (hB : Bd ≤ W.heap.size) (hb : Below W.heap.size W W') : Wn W' base Bd v l :=
  h.keep fun b o _ h2 => ⟨hb.cell (p := ⟨b, o, none⟩) (by show b < _; omega), hb.frozen (p := ⟨b, o, none⟩) (by show b < _; omega)⟩
theorem Wn.grown (h : Wn W base Bd v l) (hB : Bd ≤ W.heap.size) {row : Option Nat} (hg : W.grownBy W' row) (hr : ∀ x, row = some x → x < base ∨ Bd ≤ x) : Wn W' base Bd v l :=
  h.keep fun b o h1 h2 => ⟨hg.cell_far ⟨b, o, none⟩ (by show b < _; omega) (fun e => by have := hr b e.symm; omega), hg.frozen_far ⟨b, o, none⟩ (by show b < _; omega) (fun e => by have := hr b e.symm; omega)⟩
theorem Wn.alloc (h : Wn W base Bd v l) (hB : Bd ≤ W.heap.size) (o : Obj) : Wn (W.alloc o) base Bd v l := h.below hB ((Below.refl _ _).alloc (Nat.le_refl _) o)
theorem Wn.drewN (h : Wn W base Bd v l) (k : Nat) : Wn (W.drewN k) base Bd v l := h
theorem Wn.set (h : Wn W base Bd v l) {p : Addr} (hp : p.block < base ∨ Bd ≤ p.block) (u : Value) : Wn (W.setCell p u) base Bd v l :=
  h.keep fun b o h1 h2 => ⟨World.cell?_setCell_other W p ⟨b, o, none⟩ u (fun e => by subst e; simp at hp; omega), by rw [World.frozen?_setCell]⟩
theorem Wn.set3 (h : Wn W base Bd v l) {q : Nat} (hp : q < base ∨ Bd ≤ q) (x y z : Value) : Wn (((W.setCell ⟨q, 0, none⟩ x).setCell ⟨q, 1, none⟩ y).setCell ⟨q, 2, none⟩ z) base Bd v l :=
  ((h.set (p := ⟨q, 0, none⟩) hp x).set (p := ⟨q, 1, none⟩) hp y).set (p := ⟨q, 2, none⟩) hp z
theorem Wn.set7 (h : Wn W base Bd v l) {q : Nat} (hp : q < base ∨ Bd ≤ q) (X : Msg) : Wn (set7 W q 0 X) base Bd v l :=
  ((((((h.set (p := ⟨q, 0, none⟩) hp _).set (p := ⟨q, 1, none⟩) hp _).set (p := ⟨q, 2, none⟩) hp _).set (p := ⟨q, 3, none⟩) hp _).set (p := ⟨q, 4, none⟩) hp _).set (p := ⟨q, 5, none⟩) hp _).set (p := ⟨q, 6, none⟩) hp _
theorem Wn.ls (h : Wn W base Bd v l) : Ls W Bd v l := by
  obtain ⟨A, c, e, h1, h2, h3, h4⟩ := h
  refine ⟨A, c, e, h1, h2, by rw [lcs_len], fun h0 => ?_⟩
  obtain ⟨b, o, e, k1, k2, k3, _⟩ := h4 (by omega)
  exact ⟨b, o, e, k2, k3⟩
theorem Wn.form (h : Wn W base Bd v l) : ∃ A c, v = .slice A l.length c := by obtain ⟨A, c, e, _⟩ := h; exact ⟨A, c, e⟩
theorem Wn.own {base' : Nat} {e : TypeId} (h : W.ownsRow base' e 7 v l.length (lcs l)) (hb : base ≤ base') : Wn W base W.heap.size v l := by
  rcases h.2 with ⟨hv, h0⟩ | ⟨g, cap, cur, hv, hg, hh, hl, hm, hs, ht⟩
  · have hl : l = [] := List.length_eq_zero_iff.1 h0
    subst hl
    subst hv
    exact Wn.nil
  · subst hv
    refine ⟨_, cap, rfl, hl, hm, fun h => by simp at h, fun _ => ⟨g, 0, rfl, by omega, (Array.getElem?_eq_some_iff.1 hh).1, fun j u hu => by have := h.cells (g := g) rfl j u hu; rwa [add_mk] at this, fun j hj => ⟨?_, by rw [Nat.zero_add]; exact h.frozenAt j⟩⟩⟩
    rw [Nat.zero_add]
    have hj' : j < cur.size := by omega
    simp [World.cell?, hh, hj']
/-- Its first message is cut off. -/
theorem Wn.tail {M : Msg} {r : List Msg} (h : Wn W base Bd (.slice A n c) (M :: r)) : Wn W base Bd (.slice (if c = 1 then A else A.map (·.add (1 * 7))) (n - 1) (c - 1)) r := by
  obtain ⟨A', c', e, h1, h2, h3, h4⟩ := h
  injection e with e1 e2 e3
  subst e1; subst e3
  simp only [List.length_cons] at e2 h1
  refine ⟨(if c = 1 then A else A.map (·.add (1 * 7))), c - 1, by rw [e2, Nat.add_sub_cancel], by omega, by omega, fun h => ?_, fun h0 => ?_⟩
  · by_cases hc : c = 1
    · omega
    · rw [if_neg hc] at h
      have : A = none := by cases A with | none => rfl | some a => simp at h
      have := h3 this
      omega
  · obtain ⟨b, o, e, k1, k2, k3, k4⟩ := h4 (by omega)
    subst e
    rw [if_neg (by omega)]
    refine ⟨b, o + 7, by rw [Option.map_some, add_mk], k1, k2, fun j u hu => ?_, fun j hj => ?_⟩
    · rw [Nat.add_assoc]
      refine k3 (7 + j) u ?_
      rw [lcs_cons, List.getElem?_append_right (by rw [Msg.l_len]; omega), Msg.l_len, Nat.add_sub_cancel_left]
      exact hu
    · rw [Nat.add_assoc]
      exact k4 (7 + j) (by omega)
/-- It is cut at its end. -/
theorem Wn.upto (h : Wn W base Bd (.slice A n c) l) (j : Nat) (hj : j ≤ n) : Wn W base Bd (.slice A j c) (l.take j) := by
  obtain ⟨A', c', e, h1, h2, h3, h4⟩ := h
  injection e with e1 e2 e3
  subst e1; subst e3
  have hl : (l.take j).length = j := by rw [List.length_take]; omega
  refine ⟨A, c, by rw [hl], by omega, h2, h3, fun h0 => ?_⟩
  obtain ⟨b, o, e, k1, k2, k3, k4⟩ := h4 h0
  refine ⟨b, o, e, k1, k2, fun i u hu => k3 i u ?_, k4⟩
  rw [← lcs_take] at hu
  rw [List.getElem?_take] at hu
  split at hu
  · exact hu
  · simp at hu
theorem only_sets {a w : World} {g : Nat} : ∀ (vs : List Value) (m : Nat) (w : World), a.grownBy w (some g) → a.grownBy (w.setCells g m vs) (some g)
  | [], _, _, h => h
  | v :: r, m, w, h => only_sets (w := w) r (m + 1) _ (only_set h (p := ⟨g, m, none⟩) (.inl rfl) v)
/-- In place. -/
theorem Wn.room (h : Wn W base Bd (.slice A l.length c) l) (hc : l.length + 1 ≤ c) {b o : Nat} (hA : A = some ⟨b, o, none⟩) (M : Msg) : Wn (W.setCells b (o + l.length * 7) M.l) base Bd (.slice A (l.length + 1) c) (l ++ [M]) := by
  obtain ⟨A', c', e, h1, h2, h3, h4⟩ := h
  injection e with e1 e2 e3
  subst e1; subst e3
  refine ⟨A, c, by simp, by simpa using hc, h2, h3, fun h0 => ?_⟩
  obtain ⟨b', o', e, k1, k2, k3, k4⟩ := h4 h0
  rw [hA] at e
  injection e with e
  injection e with e1 e2 _
  subst e1; subst e2
  refine ⟨b, o, hA, k1, k2, fun j u hu => ?_, fun j hj => ⟨?_, by rw [World.frozen?_setCells]; exact (k4 j hj).2⟩⟩
  · have hll := lcs_len l
    rw [lcs_app] at hu
    by_cases hj : j < (lcs l).length
    · rw [List.getElem?_append_left hj] at hu
      rw [World.cell?_setCells_out b M.l (o + l.length * 7) W ⟨b, o + j, none⟩ (fun _ _ => by left; show o + j < o + l.length * 7; omega)]
      exact k3 j u hu
    · rw [List.getElem?_append_right (by omega)] at hu
      have hM : lcs [M] = M.l := by simp [lcs]
      rw [hM] at hu
      have hjl : j - (lcs l).length < 7 := (List.getElem?_eq_some_iff.1 hu).1
      have e : o + j = o + l.length * 7 + (j - (lcs l).length) := by omega
      rw [e, World.cell?_setCells_in b M.l (o + l.length * 7) W (fun i hi => by rw [Nat.add_assoc]; exact (k4 (l.length * 7 + i) (by rw [Msg.l_len] at hi; omega)).1) (j - (lcs l).length) (by rw [Msg.l_len]; exact hjl)]
      rw [← hu]
      exact (List.getElem?_eq_getElem _).symm
  · by_cases hj2 : l.length * 7 ≤ j ∧ j < l.length * 7 + 7
    · have e : o + j = o + l.length * 7 + (j - l.length * 7) := by omega
      rw [e, World.cell?_setCells_in b M.l (o + l.length * 7) W (fun i hi => by rw [Nat.add_assoc]; exact (k4 (l.length * 7 + i) (by rw [Msg.l_len] at hi; omega)).1) (j - l.length * 7) (by rw [Msg.l_len]; omega)]
      rfl
    · rw [World.cell?_setCells_out b M.l (o + l.length * 7) W ⟨b, o + j, none⟩ (fun _ _ => by rw [Msg.l_len]; show o + j < o + l.length * 7 ∨ o + l.length * 7 + 7 ≤ o + j; omega)]
      exact (k4 j hj).1
end
/-- A message is appended: in place or not. -/
theorem wpList_append_wn {P : Program} (w : World) {ops : Array Oper} {rest : List Oper} {o : Oper} {a : Act} {Q : Exit → Act → World → Prop}
    (hg : o.guard = none) (s x : Operand) (t : TypeId) (hop : o.op = Op.call { callee := Callee.builtin Builtin.append, args := #[s, x], argTypes := #[t, t] })
    (e : TypeId) (i : TypeInfo) (z : Value) (bytes : Nat) (h1 : P.underlying t = some (.slice e)) (h2 : P.info? e = some i) (h3 : i.zero = some z) (h4 : i.size = 7) (h5 : i.bytes = bytes) (h6 : z.cells.size = 7)
    (base Bd : Nat) (A : Option Addr) (c : Nat) (l : List Msg) (hs : a.eval s = .slice A l.length c) (hw : Wn w base Bd (.slice A l.length c) l) (hbs : base ≤ w.heap.size) (hBd : Bd ≤ w.heap.size)
    (ad : Addr) (cx : Nat) (M : Msg) (hx : a.eval x = .slice (some ad) 1 cx) (hc : ∀ j u, M.l[j]? = some u → w.cell? (ad.add j) = some u)
    (b1 : l.length + 1 ≤ maxLen) (b2 : (l.length + 1) * bytes ≤ 140737488355328)
    (h : ∀ v' w', Wn w' base w'.heap.size v' (l ++ [M]) → (∃ row, w.grownBy w' row ∧ ∀ q, row = some q → base ≤ q ∧ q < Bd) → wpList P ops Q rest (a.put o.dst v') w') :
    wpList P ops Q (o :: rest) a w := by
  have hM : M.l.length = 1 * 7 := rfl
  have hnone : ∀ q, (none : Option Nat) = some q → base ≤ q ∧ q < Bd := fun q e => by cases e
  have hown : ∀ v' w', w'.ownsRow w.heap.size e 7 v' (l.length + 1) (lcs l ++ M.l) → Wn w' base w'.heap.size v' (l ++ [M]) := fun v' w' h => by
    refine Wn.own (base' := w.heap.size) (e := e) ?_ hbs
    have hM1 : lcs [M] = M.l := by simp [lcs]
    rw [lcs_app, hM1, List.length_append]
    exact h
  obtain ⟨A', c', e', k1, k2, k3, k4⟩ := id hw
  injection e' with e1 _ e3
  subst e1; subst e3
  by_cases h0 : 0 < c
  · obtain ⟨b, off, rfl, p1, p2, p3, p4⟩ := k4 h0
    refine wpList_append_arg w hg s x t hop e i z 7 bytes h1 h2 h3 h4 h5 h6 (by omega) b off l.length c (lcs l) hs (lcs_len l) p3 ad 1 cx M.l hx hM hc M.l_one (fun hr j hj => by rw [Nat.add_assoc]; exact p4 (l.length * 7 + j) (by rw [Msg.l_len] at hj; omega)) b1 b2 (fun hr => ?_) (fun hr v' w' ho hgr => h v' w' (hown v' w' ho) ⟨none, hgr, hnone⟩)
    refine h _ _ ?_ ⟨some b, only_sets (w := w) _ _ _ (World.grownBy.refl w (some b)), fun q e => by injection e with e; subst e; exact ⟨p1, p2⟩⟩
    exact (hw.room hr rfl M).more (by rw [sets_size]; exact hBd)
  · have hl0 : l = [] := List.length_eq_zero_iff.1 (by omega)
    subst hl0
    refine wpList_append_grows w hg s x t hop e i z 7 bytes h1 h2 h3 h4 h5 h6 (by omega) A 0 c [] hs (fun hn => ⟨rfl, k3 hn⟩) rfl (fun b _ j u hu => by simp at hu) ad 1 cx M.l hx hM hc M.l_one (by omega) b1 b2 (fun v' w' ho hgr => h v' w' (hown v' w' (by simpa [lcs] using ho)) ⟨none, hgr, hnone⟩)
/-- The same at the operation. -/
theorem wp_append_wn {P : Program} (w : World) {o : Oper} {a : Act} {K : Act → World → Prop} {Q : Exit → Act → World → Prop}
    (s x : Operand) (t : TypeId) (hop : o.op = Op.call { callee := Callee.builtin Builtin.append, args := #[s, x], argTypes := #[t, t] })
    (e : TypeId) (i : TypeInfo) (z : Value) (bytes : Nat) (h1 : P.underlying t = some (.slice e)) (h2 : P.info? e = some i) (h3 : i.zero = some z) (h4 : i.size = 7) (h5 : i.bytes = bytes) (h6 : z.cells.size = 7)
    (base Bd : Nat) (A : Option Addr) (c : Nat) (l : List Msg) (hs : a.eval s = .slice A l.length c) (hw : Wn w base Bd (.slice A l.length c) l) (hbs : base ≤ w.heap.size) (hBd : Bd ≤ w.heap.size)
    (ad : Addr) (cx : Nat) (M : Msg) (hx : a.eval x = .slice (some ad) 1 cx) (hc : ∀ j u, M.l[j]? = some u → w.cell? (ad.add j) = some u)
    (b1 : l.length + 1 ≤ maxLen) (b2 : (l.length + 1) * bytes ≤ 140737488355328)
    (h : ∀ v' w', Wn w' base w'.heap.size v' (l ++ [M]) → (∃ row, w.grownBy w' row ∧ ∀ q, row = some q → base ≤ q ∧ q < Bd) → K (a.put o.dst v') w') :
    o.wp P a w K Q := by
  have hM : M.l.length = 1 * 7 := rfl
  have hnone : ∀ q, (none : Option Nat) = some q → base ≤ q ∧ q < Bd := fun q e => by cases e
  have hown : ∀ v' w', w'.ownsRow w.heap.size e 7 v' (l.length + 1) (lcs l ++ M.l) → Wn w' base w'.heap.size v' (l ++ [M]) := fun v' w' h => by
    refine Wn.own (base' := w.heap.size) (e := e) ?_ hbs
    have hM1 : lcs [M] = M.l := by simp [lcs]
    rw [lcs_app, hM1, List.length_append]
    exact h
  obtain ⟨A', c', e', k1, k2, k3, k4⟩ := id hw
  injection e' with e1 _ e3
  subst e1; subst e3
  by_cases h0 : 0 < c
  · obtain ⟨b, off, rfl, p1, p2, p3, p4⟩ := k4 h0
    by_cases hr : l.length + 1 ≤ c
    · have hrun := run_append_room_cells (P := P) w t o.type e i h1 h2 b off l.length c ad 1 cx M.l (by rw [h4]; exact hM) hc M.l_one hr (fun j hj => by rw [h4, Nat.add_assoc]; exact (p4 (l.length * 7 + j) (by rw [Msg.l_len] at hj; omega)).1) (fun j hj => by rw [h4, Nat.add_assoc]; exact (p4 (l.length * 7 + j) (by rw [Msg.l_len] at hj; omega)).2)
      rw [h4] at hrun
      unfold Oper.wp
      simp [execOp, hop, resolve, invoke, builtin, hs, hx, hrun, Result.andThen]
      refine h _ _ ?_ ⟨some b, only_sets (w := w) _ _ _ (World.grownBy.refl w (some b)), fun q e => by injection e with e; subst e; exact ⟨p1, p2⟩⟩
      exact (hw.room hr rfl M).more (by rw [sets_size]; exact hBd)
    · obtain ⟨v', w', hrun, r1, r2⟩ := run_append_arg_grows (P := P) w t o.type e i z 7 bytes h1 h2 h3 h4 h5 h6 (by omega) ⟨b, off, none⟩ l.length c (lcs l) (lcs_len l) (fun j u hj => by rw [Addr.add_lit]; exact p3 j u hj) ad 1 cx M.l hM hc (by omega) b1 b2
      unfold Oper.wp
      simp [execOp, hop, resolve, invoke, builtin, hs, hx, hrun, Result.andThen]
      exact h _ _ (hown v' w' r1) ⟨none, r2, hnone⟩
  · have hl0 : l = [] := List.length_eq_zero_iff.1 (by omega)
    subst hl0
    have hc0 : c = 0 := by omega
    subst hc0
    cases A with
    | some b =>
      obtain ⟨v', w', hrun, r1, r2⟩ := run_append_arg_grows (P := P) w t o.type e i z 7 bytes h1 h2 h3 h4 h5 h6 (by omega) b 0 0 [] rfl (fun j u hj => by simp at hj) ad 1 cx M.l hM hc (by omega) b1 b2
      unfold Oper.wp
      simp at hs
      simp [execOp, hop, resolve, invoke, builtin, hs, hx, hrun, Result.andThen]
      exact h _ _ (hown v' w' (by simpa [lcs] using r1)) ⟨none, r2, hnone⟩
    | none =>
      obtain ⟨v', w', hrun, r1, r2, _⟩ := run_append_own (P := P) w w.heap.size t o.type e i z 7 bytes h1 h2 h3 h4 h5 h6 (by omega) (.slice none 0 0) 0 [] (World.ownsRow_nil w _ e 7) ad 1 cx M.l hM hc M.l_one b1 b2 (Nat.le_refl _)
      unfold Oper.wp
      simp at hs
      simp [execOp, hop, resolve, invoke, builtin, hs, hx, hrun, Result.andThen]
      exact h _ _ (hown v' w' (by simpa [lcs] using r1)) ⟨none, r2, hnone⟩
/-- The same as a step of a region that draws its order. -/
theorem step_append_wn {P : Program} (w : World) {ops : Array Oper} {o : Oper} {a : Act} {K : Act → World → Prop} {Q : Exit → Act → World → Prop} {E : Prop} (hgd : o.guard = none)
    (s x : Operand) (t : TypeId) (hop : o.op = Op.call { callee := Callee.builtin Builtin.append, args := #[s, x], argTypes := #[t, t] })
    (e : TypeId) (i : TypeInfo) (z : Value) (bytes : Nat) (h1 : P.underlying t = some (.slice e)) (h2 : P.info? e = some i) (h3 : i.zero = some z) (h4 : i.size = 7) (h5 : i.bytes = bytes) (h6 : z.cells.size = 7)
    (base Bd : Nat) (A : Option Addr) (c : Nat) (l : List Msg) (hs : a.eval s = .slice A l.length c) (hw : Wn w base Bd (.slice A l.length c) l) (hbs : base ≤ w.heap.size) (hBd : Bd ≤ w.heap.size)
    (ad : Addr) (cx : Nat) (M : Msg) (hx : a.eval x = .slice (some ad) 1 cx) (hc : ∀ j u, M.l[j]? = some u → w.cell? (ad.add j) = some u)
    (b1 : l.length + 1 ≤ maxLen) (b2 : (l.length + 1) * bytes ≤ 140737488355328)
    (h : ∀ v' w', Wn w' base w'.heap.size v' (l ++ [M]) → (∃ row, w.grownBy w' row ∧ ∀ q, row = some q → base ≤ q ∧ q < Bd) → K (a.put o.dst v') w') :
    if Region.wanted o (yielded ops a.tmps) = true then Oper.wp P o a w K Q else E := by
  have hwt : Region.wanted o (yielded ops a.tmps) = true := by simp [Region.wanted, hgd]
  rw [if_pos hwt]
  exact wp_append_wn w s x t hop e i z bytes h1 h2 h3 h4 h5 h6 base Bd A c l hs hw hbs hBd ad cx M hx hc b1 b2 h
end Go.Proofs.Ytbeafcjbldnkhaa
