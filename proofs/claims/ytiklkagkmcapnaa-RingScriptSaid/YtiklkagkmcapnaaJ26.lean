/- What is proved here: More and Range of the statements' base, the latter from a number below zero on; what a statement about rings holds beside its source; (plain) a list of messages that is cut at both ends and appended to; what pops and failing pushes of filled rings give. -/
import Derived.Test.YtiklkagkmcapnaaJ18
import Derived.Test.YtiklkagkmcapnaaJ15
import Derived.Test.YtiklkagkmcapnaaJ14
import Derived.Test.YtiklkagkmcapnaaJ07
import Derived.Test.YtiklkagkmcapnaaJ12
import Derived.ArgAppend
namespace Go.Proofs.Ytiklkagkmcapnaa
open Go.RowKit
set_option linter.unusedVariables false

set_option maxHeartbeats 2000000 in
theorem range2_any (B g : Nat) (w : World) (h : SrcAt w B g) (lo hi : Int) (h0 : -1000 ≤ lo) (h1 : lo ≤ hi) (h2 : hi ≤ 1000000) : Calls Try.prog 17 #[.pointer (some ⟨g, 0, none⟩), .int .i64 lo, .int .i64 hi] w (SrInt B g lo hi w) := by
  have HC := Lib.hid (n_any B g w h (hi - lo + 1) (by omega) (by omega))
  clear h
  go_enter Try.func17, Try.ntmps17
  go_wp2_with fail
  refine HC.out.mono ?_
  rintro e w1 ⟨x, rfl, hx1, hx2, hs, hg⟩
  have HS := Lib.hid hs
  have HG := Lib.hid hg
  clear hs hg
  go_wp2
  go_ret
  exact ⟨lo + x, rfl, by omega, by omega, HS.out, HG.out⟩

/-- A yes or no of a source. -/
def SrBool (B g : Nat) (w : World) (e : Ending) (w' : World) : Prop := ∃ b : Bool, e = .returned (.bool b) ∧ SrcAt w' B g ∧ w.grownBy w' (some g)
set_option maxHeartbeats 2000000 in
theorem more_any (B g : Nat) (w : World) (h : SrcAt w B g) : Calls Try.prog 19 #[.pointer (some ⟨g, 0, none⟩)] w (SrBool B g w) := by
  have H := Lib.hid h
  obtain ⟨hB, hg, A, n, c, k, zs, a1, a2, a3, a4, a5, a6, a7, a8, a9⟩ := h
  have HK := Lib.hid (show ∀ b : Bool, decide ((k : Int) < (n : Int)) = b → True from fun _ _ => trivial)
  clear hB hg a2 a3 a4 a8 a9
  go_enter Try.func19, Try.ntmps19
  go_wp2
  go_quiet (fail)
  go_wp2
  go_ret
  exact ⟨_, rfl, H.out.drewN _, only_drewN (World.grownBy.refl _ _) _⟩

theorem rd_msg (w : World) (M : Msg) (t : TypeId) : Rd (w.alloc (.cells M.cs t)) (w.heap.size + 1) 7 (some ⟨w.heap.size, 0, none⟩) 1 (lcs [M]) := by
  refine ⟨by rw [lcs_len]; rfl, fun _ => ⟨w.heap.size, 0, rfl, Nat.lt_succ_self _, fun j u hu => ?_⟩⟩
  rw [Nat.zero_add, World.cell?_alloc_new]
  have e : lcs [M] = M.l := by simp [lcs]
  rw [e] at hu
  show (M.l.toArray)[j]? = some u
  simpa using hu
theorem off_own {W : World} {base b n : Nat} {e : TypeId} {A : Option Addr} {m c size : Nat} {xs : List Value} (h : W.ownsRow base e size (.slice A m c) n xs) (hb : b < base) : Off b A := fun a e => by
  subst e
  have := (h.lt a.block rfl).1
  omega

/-- A source, and a ring whose cells lie below a bound. -/
structure BuAt (w : World) (g p Bd : Nat) (A : Option Addr) (k c : Nat) (hd sz : Int) (cs : List Msg) (W : World) : Prop where
  src : SrcAt W w.heap.size g
  rb : RB W p A k c hd sz
  ls : Ls W Bd (.slice A k c) cs
  offg : Off g A
  offp : Off p A
  bel : Below w.heap.size w W
  old : w.heap.size ≤ g ∧ g < p ∧ Bd ≤ W.heap.size
section
variable {w W W' : World} {g p Bd k c : Nat} {A : Option Addr} {hd sz : Int} {cs : List Msg}
theorem BuAt.below (h : BuAt w g p Bd A k c hd sz cs W) (hb : Below W.heap.size W W') : BuAt w g p Bd A k c hd sz cs W' :=
  ⟨h.src.below hb, h.rb.below hb h.rb.lt, h.ls.below (hb.mono h.old.2.2), h.offg, h.offp, btrl h.bel h.bel.size hb, h.old.1, h.old.2.1, Nat.le_trans h.old.2.2 hb.size⟩
theorem BuAt.grownG (h : BuAt w g p Bd A k c hd sz cs W) (hs : SrcAt W' w.heap.size g) (hg : W.grownBy W' (some g)) : BuAt w g p Bd A k c hd sz cs W' :=
  ⟨hs, h.rb.grownG hg (by have := h.old; omega), h.ls.grownG hg h.old.2.2 h.offg, h.offg, h.offp, below_only h.bel hg h.old.1 (Nat.le_refl _), h.old.1, h.old.2.1, Nat.le_trans h.old.2.2 hg.size⟩
theorem BuAt.alloc (h : BuAt w g p Bd A k c hd sz cs W) (o : Obj) : BuAt w g p Bd A k c hd sz cs (W.alloc o) := h.below ((Below.refl _ _).alloc (Nat.le_refl _) o)
theorem BuAt.drew (h : BuAt w g p Bd A k c hd sz cs W) : BuAt w g p Bd A k c hd sz cs W.drew := ⟨h.src.drew, h.rb.drew, h.ls, h.offg, h.offp, h.bel.drew, h.old⟩
/-- A row that the call owns grows. -/
theorem BuAt.row (h : BuAt w g p Bd A k c hd sz cs W) {row : Option Nat} (hg : W.grownBy W' row) (hr : ∀ x, row = some x → p < x ∧ Bd ≤ x) : BuAt w g p Bd A k c hd sz cs W' := by
  have hne : ∀ b, b ≤ p → some b ≠ row := fun b hb e => by have := hr b e.symm; omega
  refine ⟨h.src.keep hg.size (fun o => hg.cell_far _ h.src.2.1 (hne g (by have := h.old; omega))) (fun o => hg.frozen_far _ h.src.2.1 (hne g (by have := h.old; omega))) (fun q hq => hg.cell_far q (by have := h.bel.size; omega) (hne _ (by have := h.old; omega))), ⟨Nat.lt_of_lt_of_le h.rb.lt hg.size, (hg.cell_far _ h.rb.lt (hne p (Nat.le_refl _))).trans h.rb.c0, (hg.cell_far _ h.rb.lt (hne p (Nat.le_refl _))).trans h.rb.c1, (hg.cell_far _ h.rb.lt (hne p (Nat.le_refl _))).trans h.rb.c2, fun o => (hg.frozen_far _ h.rb.lt (hne p (Nat.le_refl _))).trans (h.rb.fr o)⟩, h.ls.keep fun q hq => hg.cell_far q (by have := h.old; omega) (fun e => by have := (hr _ e.symm).2; omega), h.offg, h.offp, ?_, h.old.1, h.old.2.1, Nat.le_trans h.old.2.2 hg.size⟩
  exact h.bel.grown hg h.bel.size (fun x e => by have := hr x e; have := h.old; omega)
theorem BuAt.s3 (h : BuAt w g p Bd A k c hd sz cs W) : W.cell? ⟨p, 0, none⟩ = some (.slice A k c) ∧ W.cell? ⟨p, 1, none⟩ = some (.int .i64 hd) ∧ W.cell? ⟨p, 2, none⟩ = some (.int .i64 sz) := ⟨h.rb.c0, h.rb.c1, h.rb.c2⟩
theorem BuAt.here (h : BuAt w g p Bd A k c hd sz cs W) : Ls W W.heap.size (.slice A k c) cs := h.ls.more h.old.2.2
end
end Go.Proofs.Ytiklkagkmcapnaa
namespace Go.Proofs.Ytiklkagkmcapnaa
open Go.RowKit
set_option linter.unusedVariables false

section
variable {n hd : Nat} {l : List Msg}
theorem po_fil (h1 : 1 ≤ n) (h2 : n ≤ 12) (hh : hd < n) (hl : l.length ≤ n) (hg : Gd l) : poE (fil n hd l) (hd : Int) (l.length : Int) = if l.length = 0 then 4 else 0 := by
  have hv := rgV_fil h1 h2 hh hl hg
  unfold poE
  rw [if_neg (by simpa using hv)]
  by_cases h0 : l.length = 0
  · rw [if_pos h0, if_pos (by omega)]
  · rw [if_neg h0, if_neg (by omega)]
theorem qf_fil (h1 : 1 ≤ n) (h2 : n ≤ 12) (hh : hd < n) {M : Msg} {r : List Msg} (hl : (M :: r).length ≤ n) (hg : Gd (M :: r)) :
    poE (fil n hd (M :: r)) (hd : Int) ((M :: r).length : Int) = 0 ∧ qfC (fil n hd (M :: r)) (hd : Int) ((M :: r).length : Int) = fil n ((hd + 1) % n) r ∧ qfH (fil n hd (M :: r)) (hd : Int) ((M :: r).length : Int) = ((hd + 1) % n : Nat) ∧ qfM (fil n hd (M :: r)) (hd : Int) ((M :: r).length : Int) = M := by
  have hp : poE (fil n hd (M :: r)) (hd : Int) ((M :: r).length : Int) = 0 := by rw [po_fil h1 h2 hh hl hg, if_neg (by simp)]
  have ho : ord (fil n hd (M :: r)) (hd : Int).toNat ((M :: r).length : Int).toNat = M :: r := by simp only [Int.toNat_natCast]; exact ord_fil _ hh hl
  refine ⟨hp, ?_, ?_, ?_⟩
  · unfold qfC
    rw [if_pos hp, ho, fil_len]
    simp only [Int.toNat_natCast, List.drop_succ_cons, List.drop_zero]
  · unfold qfH
    rw [if_pos hp, fil_len]
    simp only [Int.toNat_natCast]
  · unfold qfM
    rw [if_pos hp]
    simp only [Int.toNat_natCast]
    rw [cel_fil _ hh (by omega)]
    rfl
theorem qb_fil (h1 : 1 ≤ n) (h2 : n ≤ 12) (hh : hd < n) (hl : l.length ≤ n) (hg : Gd l) (h0 : 0 < l.length) :
    poE (fil n hd l) (hd : Int) (l.length : Int) = 0 ∧ qbC (fil n hd l) (hd : Int) (l.length : Int) = fil n hd (l.take (l.length - 1)) ∧ qbM (fil n hd l) (hd : Int) (l.length : Int) = l[l.length - 1]'(by omega) := by
  have hp : poE (fil n hd l) (hd : Int) (l.length : Int) = 0 := by rw [po_fil h1 h2 hh hl hg, if_neg (by omega)]
  have ho : ord (fil n hd l) (hd : Int).toNat (l.length : Int).toNat = l := by simp only [Int.toNat_natCast]; exact ord_fil _ hh hl
  refine ⟨hp, ?_, ?_⟩
  · unfold qbC
    rw [if_pos hp, ho, fil_len]
    simp only [Int.toNat_natCast]
    rw [List.eraseIdx_eq_take_drop_succ, List.drop_eq_nil_of_le (by omega), List.append_nil]
  · unfold qbM
    rw [if_pos hp]
    simp only [Int.toNat_natCast]
    rw [cel_fil _ hh (by omega), List.getD_eq_getElem?_getD, List.getElem?_eq_getElem (by omega)]
    rfl
end

/-- A list of messages from block 'base' on, below Bd: it may be appended to in place. -/
def Wn (W : World) (base Bd : Nat) (v : Value) (l : List Msg) : Prop := ∃ A c, v = .slice A l.length c ∧ l.length ≤ c ∧ c ≤ maxLen ∧ (A = none → c = 0) ∧
  (0 < c → ∃ b o, A = some ⟨b, o, none⟩ ∧ base ≤ b ∧ b < Bd ∧ (∀ j u, (lcs l)[j]? = some u → W.cell? ⟨b, o + j, none⟩ = some u) ∧ ∀ j, j < c * 7 → (W.cell? ⟨b, o + j, none⟩).isSome = true ∧ W.frozen? ⟨b, o + j, none⟩ = false)
section
variable {W W' : World} {base Bd Bd' : Nat} {v : Value} {l : List Msg} {A : Option Addr} {n c : Nat}
theorem Wn.nil : Wn W base Bd (.slice none 0 0) [] := ⟨none, 0, rfl, Nat.le_refl _, Nat.zero_le _, fun _ => rfl, fun h => absurd h (by omega)⟩
theorem Wn.more (h : Wn W base Bd v l) (hB : Bd ≤ Bd') : Wn W base Bd' v l := by
  obtain ⟨A, c, e, h1, h2, h3, h4⟩ := h
  exact ⟨A, c, e, h1, h2, h3, fun h0 => by obtain ⟨b, o, e, k1, k2, k3⟩ := h4 h0; exact ⟨b, o, e, k1, by omega, k3⟩⟩
theorem Wn.keep (h : Wn W base Bd v l) (hc : ∀ b o, base ≤ b → b < Bd → W'.cell? ⟨b, o, none⟩ = W.cell? ⟨b, o, none⟩ ∧ W'.frozen? ⟨b, o, none⟩ = W.frozen? ⟨b, o, none⟩) : Wn W' base Bd v l := by
  obtain ⟨A, c, e, h1, h2, h3, h4⟩ := h
  refine ⟨A, c, e, h1, h2, h3, fun h0 => ?_⟩
  obtain ⟨b, o, e, k1, k2, k3, k4⟩ := h4 h0
  exact ⟨b, o, e, k1, k2, fun j u hu => (hc b _ k1 k2).1.trans (k3 j u hu), fun j hj => ⟨by rw [(hc b (o + j) k1 k2).1]; exact (k4 j hj).1, (hc b (o + j) k1 k2).2.trans (k4 j hj).2⟩⟩
theorem Wn.below (h : Wn W base Bd v l) (hB : Bd ≤ W.heap.size) (hb : Below W.heap.size W W') : Wn W' base Bd v l :=
  h.keep fun b o _ h2 => ⟨hb.cell (p := ⟨b, o, none⟩) (by show b < _; omega), hb.frozen (p := ⟨b, o, none⟩) (by show b < _; omega)⟩
theorem Wn.grown (h : Wn W base Bd v l) (hB : Bd ≤ W.heap.size) {row : Option Nat} (hg : W.grownBy W' row) (hr : ∀ x, row = some x → x < base ∨ Bd ≤ x) : Wn W' base Bd v l :=
  h.keep fun b o h1 h2 => ⟨hg.cell_far ⟨b, o, none⟩ (by show b < _; omega) (fun e => by have := hr b e.symm; omega), hg.frozen_far ⟨b, o, none⟩ (by show b < _; omega) (fun e => by have := hr b e.symm; omega)⟩
theorem Wn.alloc (h : Wn W base Bd v l) (hB : Bd ≤ W.heap.size) (o : Obj) : Wn (W.alloc o) base Bd v l := h.below hB ((Below.refl _ _).alloc (Nat.le_refl _) o)
theorem Wn.drewN (h : Wn W base Bd v l) (k : Nat) : Wn (W.drewN k) base Bd v l := h
theorem Wn.set (h : Wn W base Bd v l) {p : Addr} (hp : p.block < base ∨ Bd ≤ p.block) (u : Value) : Wn (W.setCell p u) base Bd v l :=
  h.keep fun b o h1 h2 => ⟨World.cell?_setCell_other W p ⟨b, o, none⟩ u (fun e => by subst e; simp at hp; omega), by rw [World.frozen?_setCell]⟩
theorem Wn.set3 (h : Wn W base Bd v l) {q : Nat} (hp : q < base ∨ Bd ≤ q) (x y z : Value) : Wn (((W.setCell ⟨q, 0, none⟩ x).setCell ⟨q, 1, none⟩ y).setCell ⟨q, 2, none⟩ z) base Bd v l :=
  ((h.set (p := ⟨q, 0, none⟩) hp x).set (p := ⟨q, 1, none⟩) hp y).set (p := ⟨q, 2, none⟩) hp z
theorem Wn.set7 (h : Wn W base Bd v l) {q : Nat} (hp : q < base ∨ Bd ≤ q) (X : Msg) : Wn (set7 W q 0 X) base Bd v l :=
  ((((((h.set (p := ⟨q, 0, none⟩) hp _).set (p := ⟨q, 1, none⟩) hp _).set (p := ⟨q, 2, none⟩) hp _).set (p := ⟨q, 3, none⟩) hp _).set (p := ⟨q, 4, none⟩) hp _).set (p := ⟨q, 5, none⟩) hp _).set (p := ⟨q, 6, none⟩) hp _
theorem Wn.ls (h : Wn W base Bd v l) : Ls W Bd v l := by
  obtain ⟨A, c, e, h1, h2, h3, h4⟩ := h
  refine ⟨A, c, e, h1, h2, by rw [lcs_len], fun h0 => ?_⟩
  obtain ⟨b, o, e, k1, k2, k3, _⟩ := h4 (by omega)
  exact ⟨b, o, e, k2, k3⟩
theorem Wn.form (h : Wn W base Bd v l) : ∃ A c, v = .slice A l.length c := by obtain ⟨A, c, e, _⟩ := h; exact ⟨A, c, e⟩
theorem Wn.own {base' : Nat} {e : TypeId} (h : W.ownsRow base' e 7 v l.length (lcs l)) (hb : base ≤ base') : Wn W base W.heap.size v l := by
  rcases h.2 with ⟨hv, h0⟩ | ⟨g, cap, cur, hv, hg, hh, hl, hm, hs, ht⟩
  · have hl : l = [] := List.length_eq_zero_iff.1 h0
    subst hl
    subst hv
    exact Wn.nil
  · subst hv
    refine ⟨_, cap, rfl, hl, hm, fun h => by simp at h, fun _ => ⟨g, 0, rfl, by omega, (Array.getElem?_eq_some_iff.1 hh).1, fun j u hu => by have := h.cells (g := g) rfl j u hu; rwa [add_mk] at this, fun j hj => ⟨?_, by rw [Nat.zero_add]; exact h.frozenAt j⟩⟩⟩
    rw [Nat.zero_add]
    have hj' : j < cur.size := by omega
    simp [World.cell?, hh, hj']
/-- Its first message is cut off. -/
theorem Wn.tail {M : Msg} {r : List Msg} (h : Wn W base Bd (.slice A n c) (M :: r)) : Wn W base Bd (.slice (if c = 1 then A else A.map (·.add (1 * 7))) (n - 1) (c - 1)) r := by
  obtain ⟨A', c', e, h1, h2, h3, h4⟩ := h
  injection e with e1 e2 e3
  subst e1; subst e3
  simp only [List.length_cons] at e2 h1
  refine ⟨(if c = 1 then A else A.map (·.add (1 * 7))), c - 1, by rw [e2, Nat.add_sub_cancel], by omega, by omega, fun h => ?_, fun h0 => ?_⟩
  · by_cases hc : c = 1
    · omega
    · rw [if_neg hc] at h
      have : A = none := by cases A with | none => rfl | some a => simp at h
      have := h3 this
      omega
  · obtain ⟨b, o, e, k1, k2, k3, k4⟩ := h4 (by omega)
    subst e
    rw [if_neg (by omega)]
    refine ⟨b, o + 7, by rw [Option.map_some, add_mk], k1, k2, fun j u hu => ?_, fun j hj => ?_⟩
    · rw [Nat.add_assoc]
      refine k3 (7 + j) u ?_
      rw [lcs_cons, List.getElem?_append_right (by rw [Msg.l_len]; omega), Msg.l_len, Nat.add_sub_cancel_left]
      exact hu
    · rw [Nat.add_assoc]
      exact k4 (7 + j) (by omega)
/-- It is cut at its end. -/
theorem Wn.upto (h : Wn W base Bd (.slice A n c) l) (j : Nat) (hj : j ≤ n) : Wn W base Bd (.slice A j c) (l.take j) := by
  obtain ⟨A', c', e, h1, h2, h3, h4⟩ := h
  injection e with e1 e2 e3
  subst e1; subst e3
  have hl : (l.take j).length = j := by rw [List.length_take]; omega
  refine ⟨A, c, by rw [hl], by omega, h2, h3, fun h0 => ?_⟩
  obtain ⟨b, o, e, k1, k2, k3, k4⟩ := h4 h0
  refine ⟨b, o, e, k1, k2, fun i u hu => k3 i u ?_, k4⟩
  rw [← lcs_take] at hu
  rw [List.getElem?_take] at hu
  split at hu
  · exact hu
  · simp at hu
theorem only_sets {a w : World} {g : Nat} : ∀ (vs : List Value) (m : Nat) (w : World), a.grownBy w (some g) → a.grownBy (w.setCells g m vs) (some g)
  | [], _, _, h => h
  | v :: r, m, w, h => only_sets (w := w) r (m + 1) _ (only_set h (p := ⟨g, m, none⟩) (.inl rfl) v)
/-- In place. -/
theorem Wn.room (h : Wn W base Bd (.slice A l.length c) l) (hc : l.length + 1 ≤ c) {b o : Nat} (hA : A = some ⟨b, o, none⟩) (M : Msg) : Wn (W.setCells b (o + l.length * 7) M.l) base Bd (.slice A (l.length + 1) c) (l ++ [M]) := by
  obtain ⟨A', c', e, h1, h2, h3, h4⟩ := h
  injection e with e1 e2 e3
  subst e1; subst e3
  refine ⟨A, c, by simp, by simpa using hc, h2, h3, fun h0 => ?_⟩
  obtain ⟨b', o', e, k1, k2, k3, k4⟩ := h4 h0
  rw [hA] at e
  injection e with e
  injection e with e1 e2 _
  subst e1; subst e2
  refine ⟨b, o, hA, k1, k2, fun j u hu => ?_, fun j hj => ⟨?_, by rw [World.frozen?_setCells]; exact (k4 j hj).2⟩⟩
  · have hll := lcs_len l
    rw [lcs_app] at hu
    by_cases hj : j < (lcs l).length
    · rw [List.getElem?_append_left hj] at hu
      rw [World.cell?_setCells_out b M.l (o + l.length * 7) W ⟨b, o + j, none⟩ (fun _ _ => by left; show o + j < o + l.length * 7; omega)]
      exact k3 j u hu
    · rw [List.getElem?_append_right (by omega)] at hu
      have hM : lcs [M] = M.l := by simp [lcs]
      rw [hM] at hu
      have hjl : j - (lcs l).length < 7 := (List.getElem?_eq_some_iff.1 hu).1
      have e : o + j = o + l.length * 7 + (j - (lcs l).length) := by omega
      rw [e, World.cell?_setCells_in b M.l (o + l.length * 7) W (fun i hi => by rw [Nat.add_assoc]; exact (k4 (l.length * 7 + i) (by rw [Msg.l_len] at hi; omega)).1) (j - (lcs l).length) (by rw [Msg.l_len]; exact hjl)]
      rw [← hu]
      exact (List.getElem?_eq_getElem _).symm
  · by_cases hj2 : l.length * 7 ≤ j ∧ j < l.length * 7 + 7
    · have e : o + j = o + l.length * 7 + (j - l.length * 7) := by omega
      rw [e, World.cell?_setCells_in b M.l (o + l.length * 7) W (fun i hi => by rw [Nat.add_assoc]; exact (k4 (l.length * 7 + i) (by rw [Msg.l_len] at hi; omega)).1) (j - l.length * 7) (by rw [Msg.l_len]; omega)]
      rfl
    · rw [World.cell?_setCells_out b M.l (o + l.length * 7) W ⟨b, o + j, none⟩ (fun _ _ => by rw [Msg.l_len]; show o + j < o + l.length * 7 ∨ o + l.length * 7 + 7 ≤ o + j; omega)]
      exact (k4 j hj).1
end
/-- A message is appended: in place or not. -/
theorem wpList_append_wn {P : Program} (w : World) {ops : Array Oper} {rest : List Oper} {o : Oper} {a : Act} {Q : Exit → Act → World → Prop}
    (hg : o.guard = none) (s x : Operand) (t : TypeId) (hop : o.op = Op.call { callee := Callee.builtin Builtin.append, args := #[s, x], argTypes := #[t, t] })
    (e : TypeId) (i : TypeInfo) (z : Value) (bytes : Nat) (h1 : P.underlying t = some (.slice e)) (h2 : P.info? e = some i) (h3 : i.zero = some z) (h4 : i.size = 7) (h5 : i.bytes = bytes) (h6 : z.cells.size = 7)
    (base Bd : Nat) (A : Option Addr) (c : Nat) (l : List Msg) (hs : a.eval s = .slice A l.length c) (hw : Wn w base Bd (.slice A l.length c) l) (hbs : base ≤ w.heap.size) (hBd : Bd ≤ w.heap.size)
    (ad : Addr) (cx : Nat) (M : Msg) (hx : a.eval x = .slice (some ad) 1 cx) (hc : ∀ j u, M.l[j]? = some u → w.cell? (ad.add j) = some u)
    (b1 : l.length + 1 ≤ maxLen) (b2 : (l.length + 1) * bytes ≤ 140737488355328)
    (h : ∀ v' w', Wn w' base w'.heap.size v' (l ++ [M]) → (∃ row, w.grownBy w' row ∧ ∀ q, row = some q → base ≤ q ∧ q < Bd) → wpList P ops Q rest (a.put o.dst v') w') :
    wpList P ops Q (o :: rest) a w := by
  have hM : M.l.length = 1 * 7 := rfl
  have hnone : ∀ q, (none : Option Nat) = some q → base ≤ q ∧ q < Bd := fun q e => by cases e
  have hown : ∀ v' w', w'.ownsRow w.heap.size e 7 v' (l.length + 1) (lcs l ++ M.l) → Wn w' base w'.heap.size v' (l ++ [M]) := fun v' w' h => by
    refine Wn.own (base' := w.heap.size) (e := e) ?_ hbs
    have hM1 : lcs [M] = M.l := by simp [lcs]
    rw [lcs_app, hM1, List.length_append]
    exact h
  obtain ⟨A', c', e', k1, k2, k3, k4⟩ := id hw
  injection e' with e1 _ e3
  subst e1; subst e3
  by_cases h0 : 0 < c
  · obtain ⟨b, off, rfl, p1, p2, p3, p4⟩ := k4 h0
    refine wpList_append_arg w hg s x t hop e i z 7 bytes h1 h2 h3 h4 h5 h6 (by omega) b off l.length c (lcs l) hs (lcs_len l) p3 ad 1 cx M.l hx hM hc M.l_one (fun hr j hj => by rw [Nat.add_assoc]; exact p4 (l.length * 7 + j) (by rw [Msg.l_len] at hj; omega)) b1 b2 (fun hr => ?_) (fun hr v' w' ho hgr => h v' w' (hown v' w' ho) ⟨none, hgr, hnone⟩)
    refine h _ _ ?_ ⟨some b, only_sets (w := w) _ _ _ (World.grownBy.refl w (some b)), fun q e => by injection e with e; subst e; exact ⟨p1, p2⟩⟩
    exact (hw.room hr rfl M).more (by rw [sets_size]; exact hBd)
  · have hl0 : l = [] := List.length_eq_zero_iff.1 (by omega)
    subst hl0
    refine wpList_append_grows w hg s x t hop e i z 7 bytes h1 h2 h3 h4 h5 h6 (by omega) A 0 c [] hs (fun hn => ⟨rfl, k3 hn⟩) rfl (fun b _ j u hu => by simp at hu) ad 1 cx M.l hx hM hc M.l_one (by omega) b1 b2 (fun v' w' ho hgr => h v' w' (hown v' w' (by simpa [lcs] using ho)) ⟨none, hgr, hnone⟩)
end Go.Proofs.Ytiklkagkmcapnaa
