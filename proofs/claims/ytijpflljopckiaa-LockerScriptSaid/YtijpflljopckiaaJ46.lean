/- What is proved here: Jtv; Jtw; Jnx; Jd1; Jtx. -/
import Derived.Test.YtijpflljopckiaaJ42
import Derived.Test.YtijpflljopckiaaJ45
import Derived.Test.YtijpflljopckiaaJ20
import Derived.Test.YtijpflljopckiaaJ31
import Derived.Deep.DeepCutAuto
import Derived.Deep.RegionHeld3
import Derived.Test.YtijpflljopckiaaJ40
import Derived.Test.YtijpflljopckiaaJ41
/- Plain: a row of lockers that grows; an arena and a locker in new boxes behind a step. -/
namespace Go.Proofs.Ytijpflljopckiaa
open Go.RowKit
set_option linter.unusedVariables false

theorem info_lk : (Try.prog.info? 60).map (fun i => (i.zero, i.size, i.bytes)) = some (some (.agg #[.slice none 0 0, .int .i64 0, .int .i64 0, .int .i64 0, .int .i64 0]), 5, 56) := by kernel_rfl
/-- An arena in a box, a row of lockers that may be appended to, a source. -/
structure Jb1 (w : World) (g pa : Nat) (a : Ar) (Y : Ax) (A : Option Addr) (c : Nat) (Q : List Lc) (W : World) : Prop where
  src : SrcAt W w.heap.size g
  qb : QB W pa a Y
  ar : AR W W.heap.size a Y
  ao : AOff a Y pa ∧ AOff a Y g
  own : W.ownsRow (pa + 1) 60 5 (.slice A Q.length c) Q.length (kcs Q)
  lx : ∀ t ∈ Q, Fl W W.heap.size (.slice t.A t.l.cs.length t.c) t.l.cs ∧ OffB pa t.l.cs.length t.A ∧ OffB g t.l.cs.length t.A
  x1 : ∀ b, (Value.slice A Q.length c).ownBlock = some b → (∀ t ∈ Q, OffB b t.l.cs.length t.A) ∧ AOff a Y b
  ne : w.heap.size ≤ g ∧ g < pa
  bel : Below w.heap.size w W
section
variable {w W W' : World} {g pa c : Nat} {a : Ar} {Y : Ax} {A : Option Addr} {Q : List Lc}
theorem Jb1.below (h : Jb1 w g pa a Y A c Q W) (hb : Below W.heap.size W W') : Jb1 w g pa a Y A c Q W' :=
  ⟨h.src.below hb, h.qb.up hb, h.ar.up hb, h.ao, own_upT h.own hb, fun t ht => ⟨(h.lx t ht).1.up hb, (h.lx t ht).2⟩, h.x1, h.ne, h.bel.trans (hb.mono h.bel.size)⟩
theorem Jb1.turn (h : Jb1 w g pa a Y A c Q W) (hs : SrcAt W' w.heap.size g) (hg : W.grownBy W' (some g)) : Jb1 w g pa a Y A c Q W' :=
  ⟨hs, h.qb.grown hg (by have := h.ne; omega), h.ar.grown13 hg h.ao.2, h.ao, own_farT h.own hg (fun k hk e => by injection e with e; have := (h.own.lt k hk).1; have := h.ne; omega), fun t ht => ⟨(h.lx t ht).1.grownC hg (h.lx t ht).2.2, (h.lx t ht).2⟩, h.x1, h.ne, h.bel.grown hg h.bel.size (fun x e => by injection e with e; have := h.ne; omega)⟩
theorem Jb1.app (h : Jb1 w g pa a Y A c Q W) {T : Lc} (hf : Fl W W.heap.size (.slice T.A T.l.cs.length T.c) T.l.cs) (ho : OffB pa T.l.cs.length T.A ∧ OffB g T.l.cs.length T.A) (hob : ∀ b, (Value.slice A Q.length c).ownBlock = some b → OffB b T.l.cs.length T.A)
    {g1 c1 : Nat} (hown : W'.ownsRow (pa + 1) 60 5 (.slice (some ⟨g1, 0, none⟩) (Q.length + 1) c1) (Q.length + 1) (kcs Q ++ T.v)) (hg : W.grownBy W' (Value.slice A Q.length c).ownBlock) (hat : (Value.slice A Q.length c).ownBlock = some g1 ∨ g1 = W.heap.size) :
    Jb1 w g pa a Y (some ⟨g1, 0, none⟩) c1 (Q ++ [T]) W' := by
  have hlt : ∀ x, (Value.slice A Q.length c).ownBlock = some x → pa + 1 ≤ x := fun x e => (h.own.lt x e).1
  have hne := h.ne
  have hsz := hg.size
  have hs : SrcAt W' w.heap.size g := by
    have hB := h.src.1
    have h2 := h.src.2.1
    refine h.src.keep hg.size (fun o => hg.cell_far ⟨g, o, none⟩ h2 (fun e => by have := hlt g e.symm; omega)) (fun o => hg.frozen_far ⟨g, o, none⟩ h2 (fun e => by have := hlt g e.symm; omega)) (fun x hx => hg.cell_far x (by omega) (fun e => by have := hlt _ e.symm; omega))
  have e1 : (Q ++ [T]).length = Q.length + 1 := by simp
  have e2 : kcs (Q ++ [T]) = kcs Q ++ T.v := by simp [kcs]
  refine ⟨hs, h.qb.grownN hg (fun x e => by have := hlt x e; omega), h.ar.grown13N hg (fun b e => (h.x1 b e).2), h.ao, by rw [e1, e2]; exact hown, fun t ht => ?_, fun b hb => ?_, hne, h.bel.grown hg h.bel.size (fun x e => by have := hlt x e; omega)⟩
  · rcases List.mem_append.1 ht with h1 | h1
    · exact ⟨(h.lx t h1).1.grownN hg (fun b e => (h.x1 b e).1 t h1), (h.lx t h1).2⟩
    · obtain rfl : t = T := by simpa using h1
      exact ⟨hf.grownN hg hob, ho⟩
  · obtain rfl : g1 = b := by simpa [Value.ownBlock] using hb
    rcases hat with h1 | h1
    · refine ⟨fun t ht => ?_, (h.x1 _ h1).2⟩
      rcases List.mem_append.1 ht with h2 | h2
      · exact (h.x1 _ h1).1 t h2
      · obtain rfl : t = T := by simpa using h2
        exact hob _ h1
    · refine ⟨fun t ht => ?_, h.ar.offs (by omega)⟩
      rcases List.mem_append.1 ht with h2 | h2
      · exact rd_off (h.lx t h2).1.rd (by omega)
      · obtain rfl : t = T := by simpa using h2
        exact rd_off hf.rd (by omega)
theorem Jb1.end_ (h : Jb1 w g pa a Y A c Q W) (h0 : 0 < Q.length) : ∃ b cap, Value.slice A Q.length c = .slice (some ⟨b, 0, none⟩) Q.length cap ∧ Jt2 w g pa b a Y Q W := by
  obtain ⟨b, cap, e, h1, h2, h3, h4⟩ := own_rb h.own h0
  have hb : (Value.slice A Q.length c).ownBlock = some b := by rw [e]; rfl
  have hne := h.ne
  exact ⟨b, cap, e, h.src, h.qb, h.ar, ⟨h.ao.1, (h.x1 b hb).2, h.ao.2⟩, h4, fun t ht => ⟨(h.lx t ht).1, (h.lx t ht).2.1, (h.x1 b hb).1 t ht, (h.lx t ht).2.2⟩, ⟨hne.1, hne.2, by omega⟩, h.bel⟩
end
theorem okc_new {N : Nat} {cs : List Int} (h : OkC N cs) (h1 : 1 ≤ cs.length) (hN : N ≤ 6) : nwE13 cs = 0 ∧ nwL13 cs = ⟨cs, 0, 0, 0, 0⟩ := by
  have h3 := h.l3
  have ha : ascB (-1) cs = true := by
    match cs, h, h1, h3 with
    | [x], h, _, _ =>
      have r0 := h.rng 0 (by simp)
      simp [ig] at r0
      simp [ascB]; omega
    | [x, y], h, _, _ =>
      have r0 := h.rng 0 (by simp)
      have r1 := h.rng 1 (by simp)
      have a0 := h.asc 0 1 (by omega) (by simp)
      simp [ig] at r0 r1 a0
      simp [ascB]; omega
    | [x, y, z], h, _, _ =>
      have r0 := h.rng 0 (by simp)
      have r1 := h.rng 1 (by simp)
      have r2 := h.rng 2 (by simp)
      have a0 := h.asc 0 1 (by omega) (by simp)
      have a1 := h.asc 1 2 (by omega) (by simp)
      simp [ig] at r0 r1 r2 a0 a1
      simp [ascB]; omega
    | _ :: _ :: _ :: _ :: _, _, _, h3 => simp at h3
  have e : nwE13 cs = 0 := by
    unfold nwE13
    rw [if_neg (by omega), if_pos ha]
  exact ⟨e, if_pos e⟩
/-- A new locker. -/
def Ok0 (N : Nat) (l : Lk) : Prop := Ok13 N 0 l ∧ l.ph = 0 ∧ l.hv = 0
theorem ok0_new {N : Nat} {cs : List Int} (h : OkC N cs) (h1 : 1 ≤ cs.length) : Ok0 N ⟨cs, 0, 0, 0, 0⟩ :=
  ⟨⟨h1, h.l3, h.asc, h.rng, rfl, ⟨Int.le_refl 0, Int.le_refl 0⟩, ⟨Int.le_refl 0, by show (0 : Int) ≤ 3; omega⟩, .inl ⟨rfl, by show 0 < cs.length; omega⟩⟩, rfl, rfl⟩
theorem iv_start {N : Nat} {o : Nat → Int} {L : List Lk} (hL : ∀ l ∈ L, Ok0 N l) (ho : ∀ c, c ≤ N → o c = 0) : Iv13 N 0 o L :=
  ⟨fun j l hj => (hL l (List.mem_of_getElem? hj)).1, fun j l c hj hc => by
    have := hL l (List.mem_of_getElem? hj)
    rw [ho c hc]
    constructor
    · intro h; omega
    · rintro ⟨i, hi, _⟩
      have h2 := this.2.2
      unfold Lk.h at hi
      omega, fun c hc => .inl (ho c hc)⟩
theorem un_le (L : List Lk) : Un13 L ≤ L.length := by
  induction L with
  | nil => exact Nat.le_refl _
  | cons l L ih =>
    simp only [Un13, List.map_cons, List.sum_cons, List.length_cons] at ih ⊢
    have : un13 l ≤ 1 := by unfold un13; split <;> omega
    omega
/-- Behind a step: its arena and its locker in boxes of their own. -/
structure Jt3 (w : World) (g pa b u v : Nat) (a : Ar) (Y : Ax) (Q : List Lc) (a' : Ar) (Z : Ax) (t : Lc) (W : World) : Prop where
  j2 : Jt2 w g pa b a Y Q W
  ub : QB W u a' Z
  vb : LB W v t.l t.A t.c
  ar : AR W W.heap.size a' Z
  ao : AOff a' Z pa ∧ AOff a' Z b ∧ AOff a' Z g
  lx : Lx W pa b g t
  ne : b < u ∧ b < v ∧ u ≠ v
section
variable {w wr W w4 : World} {g pa b : Nat} {a a' : Ar} {Y Z : Ax} {Q : List Lc} {l' : Lk} {A' : Option Addr} {c' : Nat}
end
end Go.Proofs.Ytijpflljopckiaa
/- Plain: what the statements about several lockers hold from turn to turn. -/
namespace Go.Proofs.Ytijpflljopckiaa
open Go.RowKit
set_option linter.unusedVariables false

/-- Lockers and their arena. -/
structure Tv13 (n m : Nat) (a : Ar) (Q : List Lc) (T : Int) : Prop where
  ql : Q.length = m
  sl : a.sl.length = n
  fw : a.Few
  iv : Iv13 n T a.own (Q.map Lc.l)
theorem map_at {Q : List Lc} {k : Nat} {t : Lc} (h : Q[k]? = some t) : (Q.map Lc.l)[k]? = some t.l := by rw [List.getElem?_map, h]; rfl
section
variable {n m k : Nat} {a : Ar} {Q : List Lc} {T T' : Int} {t : Lc} {A : Option Addr} {c : Nat}
theorem Tv13.mono (h : Tv13 n m a Q T) (ht : T ≤ T') : Tv13 n m a Q T' := ⟨h.ql, h.sl, h.fw, ⟨fun j l hj => (h.iv.ok j l hj).mono ht, h.iv.own, h.iv.fr⟩⟩
theorem Tv13.sm (h : Tv13 n m a Q T) (ht : T ≤ 1000000) (hk : Q[k]? = some t) : t.l.sm := (h.iv.ok _ _ (map_at hk)).sm ht
theorem Tv13.ph (h : Tv13 n m a Q T) (hk : Q[k]? = some t) : (t.l.ph = 0 → 0 ≤ t.l.hv ∧ t.l.hv < t.l.cs.length) ∧ (t.l.ph = 1 ∨ t.l.ph = 4 → 1 ≤ t.l.hv ∧ t.l.hv ≤ t.l.cs.length) := by
  have g := h.iv.ok _ _ (map_at hk)
  have h1 := g.hv
  have h2 := g.p
  exact ⟨fun h0 => by omega, fun h0 => by omega⟩
theorem Tv13.free (h : Tv13 n m a Q T) (hk : Q[k]? = some t) (h3 : t.l.ph = 3) : Tv13 n m a (Q.set k ⟨frL t.l, A, c⟩) T := by
  refine ⟨by rw [List.length_set]; exact h.ql, h.sl, h.fw, ?_⟩
  rw [List.map_set]
  exact h.iv.free (map_at hk) h3
/-- A step of the locker k. -/
theorem Tv13.step (h : Tv13 n m a Q T) (hk : Q[k]? = some t) (hp : t.l.ph ≠ 3 ∧ t.l.ph ≠ 5) (hm : m ≤ 6) :
    stE13 a t.l ((k : Int) + 1) = 0 ∧ St13 n a.own k t.l (stA13 a t.l ((k : Int) + 1)).own (stL13 a t.l ((k : Int) + 1)) ∧ Tv13 n m (stA13 a t.l ((k : Int) + 1)) (Q.set k ⟨stL13 a t.l ((k : Int) + 1), A, c⟩) (T + 1) := by
  have hkl := (List.getElem?_eq_some_iff.1 hk).1
  have hq := h.ql
  obtain ⟨e1, e2, e3, e4⟩ := step_st h.iv h.sl h.fw (map_at hk) (by omega) hp
  refine ⟨e1, e2, by rw [List.length_set]; exact h.ql, e3, e4, ?_⟩
  rw [List.map_set]
  exact h.iv.step (map_at hk) e2
end
/-- At the head of a round. -/
structure Out13 (n m r lf : Nat) (a : Ar) (Q : List Lc) : Prop where
  tv : Tv13 n m a Q ((6 * r : Nat) : Int)
  br : (0 < lf ∧ ((∃ P j, Pot13 n a.own (Q.map Lc.l) P j ∧ r + P ≤ 150) ∨ (Done13 (Q.map Lc.l) ∧ r ≤ 151))) ∨ (lf = 0 ∧ Done13 (Q.map Lc.l) ∧ r ≤ 152)
  lm : lf ≤ m
section
variable {n m r k lf : Nat} {a : Ar} {Q : List Lc} {t : Lc} {A : Option Addr} {c : Nat}
theorem Out13.lt (h : Out13 n m r lf a Q) (h0 : 0 < lf) : r ≤ 151 := by
  rcases h.br with ⟨_, ⟨P, j, _, hp⟩ | ⟨_, hr⟩⟩ | ⟨h1, _⟩ <;> omega
theorem Out13.le (h : Out13 n m r lf a Q) : r ≤ 152 := by
  rcases h.br with ⟨_, ⟨P, j, _, hp⟩ | ⟨_, hr⟩⟩ | ⟨_, _, h1⟩ <;> omega
theorem Out13.done (h : Out13 n m r 0 a Q) : Done13 (Q.map Lc.l) := by
  rcases h.br with ⟨h1, _⟩ | ⟨_, h2, _⟩
  · omega
  · exact h2
theorem out_start {hQ : ∀ t ∈ Q, Ok0 n t.l} (hq : Q.length = m) (hm : 1 ≤ m) (hm6 : m ≤ 6) (hs : a.sl.length = n) (hf : a.Few) (ho : ∀ c, c ≤ n → a.own c = 0) : Out13 n m 0 m a Q := by
  have hL : ∀ l ∈ Q.map Lc.l, Ok0 n l := fun l hl => by
    obtain ⟨t, ht, rfl⟩ := List.mem_map.1 hl
    exact hQ t ht
  refine ⟨⟨hq, hs, hf, iv_start hL ho⟩, .inl ⟨by omega, .inl ?_⟩, Nat.le_refl _⟩
  have h0 : 0 < (Q.map Lc.l).length := by rw [List.length_map]; omega
  have hu := un_le (Q.map Lc.l)
  rw [List.length_map] at hu
  have hx := hL _ (List.getElem_mem h0)
  exact ⟨_, 0, .none _ (List.getElem?_eq_getElem h0) ho (.inl ⟨hx.2.1, rfl⟩), by omega⟩
theorem Jt3.put {w W : World} {g pa b u v : Nat} {Y Z : Ax} {a' : Ar} (h : Jt3 w g pa b u v a Y Q a' Z t W) (hk : k < Q.length) : Jt2 w g pa b a' Z (Q.set k t) (sets5 (set11 W pa a' Z) b (k * 5) t) :=
  (h.j2.putA h.ar h.ao).putK hk ⟨(h.lx.fl.set11 h.lx.oa a' Z).more (by rw [set11_size]; exact Nat.le_refl _), h.lx.oa, h.lx.ob, h.lx.og⟩
theorem Jt2.drew {w W : World} {g pa b : Nat} {Y : Ax} (h : Jt2 w g pa b a Y Q W) : Jt2 w g pa b a Y Q W.drew := h.below (Below.refl _ _).drew
end
end Go.Proofs.Ytijpflljopckiaa
/- Plain: an arena and a locker in new boxes behind a step, whatever else there is; two arenas and two rows of lockers. -/
namespace Go.Proofs.Ytijpflljopckiaa
open Go.RowKit
set_option linter.unusedVariables false

/-- Behind a step: its arena and its locker in boxes of their own. -/
structure Nx13 (wr : World) (u v : Nat) (a' : Ar) (Z : Ax) (l' : Lk) (A' : Option Addr) (c' : Nat) (W : World) : Prop where
  bel : Below wr.heap.size wr W
  ub : QB W u a' Z
  vb : LB W v l' A' c'
  ar : AR W W.heap.size a' Z
  fl : Fl W W.heap.size (.slice A' l'.cs.length c') l'.cs
  ne : wr.heap.size ≤ u ∧ wr.heap.size ≤ v ∧ u ≠ v
section
variable {wr W w4 : World} {a' : Ar} {Z : Ax} {l' : Lk} {A' : Option Addr} {c' : Nat}
/-- Both boxes are made behind the call. -/
theorem nx_1 (h1 : Below wr.heap.size wr W) (hr : AR w4 w4.heap.size a' Z) (hf : Fl w4 w4.heap.size (.slice A' l'.cs.length c') l'.cs) (hb : Below W.heap.size W w4) :
    Nx13 wr w4.heap.size (w4.heap.size + 1) a' Z l' A' c' ((w4.alloc (.cells #[.slice Z.A a'.sl.length Z.c, .slice Z.A2 a'.st.length Z.c2, .int .i64 a'.ow, .int .i64 a'.cap, .slice Z.A3 a'.dl.length Z.c3, .int .i64 a'.dir.vn, .slice Z.D.A a'.dir.l.length Z.D.c, .slice Z.D.A2 a'.dir.F.length Z.D.c2, .int .i64 a'.ep, .int .i64 a'.ck, .int .i64 a'.ni] 36)).alloc (.cells #[.slice A' l'.cs.length c', .int .i64 l'.ph, .int .i64 l'.hv, .int .i64 l'.tr, .int .i64 l'.wt] 60)) ∧ Nx13 wr (w4.heap.size + 1) w4.heap.size a' Z l' A' c' ((w4.alloc (.cells #[.slice A' l'.cs.length c', .int .i64 l'.ph, .int .i64 l'.hv, .int .i64 l'.tr, .int .i64 l'.wt] 60)).alloc (.cells #[.slice Z.A a'.sl.length Z.c, .slice Z.A2 a'.st.length Z.c2, .int .i64 a'.ow, .int .i64 a'.cap, .slice Z.A3 a'.dl.length Z.c3, .int .i64 a'.dir.vn, .slice Z.D.A a'.dir.l.length Z.D.c, .slice Z.D.A2 a'.dir.F.length Z.D.c2, .int .i64 a'.ep, .int .i64 a'.ck, .int .i64 a'.ni] 36)) := by
  have h4 := h1.trans (hb.mono h1.size)
  have hsz := h4.size
  have e1 : (w4.alloc (.cells #[.slice Z.A a'.sl.length Z.c, .slice Z.A2 a'.st.length Z.c2, .int .i64 a'.ow, .int .i64 a'.cap, .slice Z.A3 a'.dl.length Z.c3, .int .i64 a'.dir.vn, .slice Z.D.A a'.dir.l.length Z.D.c, .slice Z.D.A2 a'.dir.F.length Z.D.c2, .int .i64 a'.ep, .int .i64 a'.ck, .int .i64 a'.ni] 36)).heap.size = w4.heap.size + 1 := by simp
  have e2 : (w4.alloc (.cells #[.slice A' l'.cs.length c', .int .i64 l'.ph, .int .i64 l'.hv, .int .i64 l'.tr, .int .i64 l'.wt] 60)).heap.size = w4.heap.size + 1 := by simp
  have k1 := LB.start (w4.alloc (.cells #[.slice Z.A a'.sl.length Z.c, .slice Z.A2 a'.st.length Z.c2, .int .i64 a'.ow, .int .i64 a'.cap, .slice Z.A3 a'.dl.length Z.c3, .int .i64 a'.dir.vn, .slice Z.D.A a'.dir.l.length Z.D.c, .slice Z.D.A2 a'.dir.F.length Z.D.c2, .int .i64 a'.ep, .int .i64 a'.ck, .int .i64 a'.ni] 36)) l' A' c' 60
  have k2 := QB.start (w4.alloc (.cells #[.slice A' l'.cs.length c', .int .i64 l'.ph, .int .i64 l'.hv, .int .i64 l'.tr, .int .i64 l'.wt] 60)) a' Z 36
  rw [e1] at k1
  rw [e2] at k2
  exact ⟨⟨bal (bal h4 _) _, (QB.start w4 a' Z _).alloc _, k1, (hr.alloc _).alloc _, (hf.alloc2 _).alloc2 _, by omega, by omega, by omega⟩,
    ⟨bal (bal h4 _) _, k2, (LB.start w4 l' A' c' _).alloc _, (hr.alloc _).alloc _, (hf.alloc2 _).alloc2 _, by omega, by omega, by omega⟩⟩
/-- The arena's box was made before the call. -/
theorem nx_2 (ho : ∀ q, wr.heap.size ≤ q → q < (wr.alloc (.cells #[.slice none 0 0, .slice none 0 0, .int .i64 0, .int .i64 0, .slice none 0 0, .int .i64 0, .slice none 0 0, .slice none 0 0, .int .i64 0, .int .i64 0, .int .i64 0] 36)).drew.heap.size → AOff a' Z q ∧ OffB q l'.cs.length A') (hr : AR w4 w4.heap.size a' Z) (hf : Fl w4 w4.heap.size (.slice A' l'.cs.length c') l'.cs) (hb : Below (wr.alloc (.cells #[.slice none 0 0, .slice none 0 0, .int .i64 0, .int .i64 0, .slice none 0 0, .int .i64 0, .slice none 0 0, .slice none 0 0, .int .i64 0, .int .i64 0, .int .i64 0] 36)).drew.heap.size (wr.alloc (.cells #[.slice none 0 0, .slice none 0 0, .int .i64 0, .int .i64 0, .slice none 0 0, .int .i64 0, .slice none 0 0, .slice none 0 0, .int .i64 0, .int .i64 0, .int .i64 0] 36)).drew w4) :
    QB w4 wr.heap.size zA zAx ∧ Nx13 wr wr.heap.size w4.heap.size a' Z l' A' c' ((set11 w4 wr.heap.size a' Z).alloc (.cells #[.slice A' l'.cs.length c', .int .i64 l'.ph, .int .i64 l'.hv, .int .i64 l'.tr, .int .i64 l'.wt] 60)) := by
  have h1 : Below wr.heap.size wr (wr.alloc (.cells #[.slice none 0 0, .slice none 0 0, .int .i64 0, .int .i64 0, .slice none 0 0, .int .i64 0, .slice none 0 0, .slice none 0 0, .int .i64 0, .int .i64 0, .int .i64 0] 36)).drew := ((Below.refl _ _).alloc (Nat.le_refl _) _).drew
  have h4 := h1.trans (hb.mono h1.size)
  have e : (wr.alloc (.cells #[.slice none 0 0, .slice none 0 0, .int .i64 0, .int .i64 0, .slice none 0 0, .int .i64 0, .slice none 0 0, .slice none 0 0, .int .i64 0, .int .i64 0, .int .i64 0] 36)).drew.heap.size = wr.heap.size + 1 := by simp
  have hq : QB w4 wr.heap.size zA zAx := ((QB.start wr zA zAx _).up ((Below.refl _ _).drew)).up hb
  have hu : wr.heap.size < w4.heap.size := hq.lt
  obtain ⟨hof, hfo⟩ := ho wr.heap.size (Nat.le_refl _) (by omega)
  have k1 := LB.start (set11 w4 wr.heap.size a' Z) l' A' c' 60
  rw [set11_size] at k1
  have hr' : AR (set11 w4 wr.heap.size a' Z) (set11 w4 wr.heap.size a' Z).heap.size a' Z := (hr.set11 hof a' Z).more (by rw [set11_size]; exact Nat.le_refl _)
  have hf' : Fl (set11 w4 wr.heap.size a' Z) (set11 w4 wr.heap.size a' Z).heap.size (.slice A' l'.cs.length c') l'.cs := (hf.set11 hfo a' Z).more (by rw [set11_size]; exact Nat.le_refl _)
  exact ⟨hq, bal (set11_below h4 (Nat.le_refl _) a' Z) _, (hq.set a' Z).alloc _, k1, hr'.alloc _, hf'.alloc2 _, Nat.le_refl _, by omega, by omega⟩
/-- The locker's box was made before the call. -/
theorem nx_3 (ho : ∀ q, wr.heap.size ≤ q → q < (wr.alloc (.cells #[.slice none 0 0, .int .i64 0, .int .i64 0, .int .i64 0, .int .i64 0] 60)).drew.heap.size → AOff a' Z q ∧ OffB q l'.cs.length A') (hr : AR w4 w4.heap.size a' Z) (hf : Fl w4 w4.heap.size (.slice A' l'.cs.length c') l'.cs) (hb : Below (wr.alloc (.cells #[.slice none 0 0, .int .i64 0, .int .i64 0, .int .i64 0, .int .i64 0] 60)).drew.heap.size (wr.alloc (.cells #[.slice none 0 0, .int .i64 0, .int .i64 0, .int .i64 0, .int .i64 0] 60)).drew w4) :
    LB w4 wr.heap.size zK none 0 ∧ Nx13 wr w4.heap.size wr.heap.size a' Z l' A' c' ((set5 w4 wr.heap.size l' A' c').alloc (.cells #[.slice Z.A a'.sl.length Z.c, .slice Z.A2 a'.st.length Z.c2, .int .i64 a'.ow, .int .i64 a'.cap, .slice Z.A3 a'.dl.length Z.c3, .int .i64 a'.dir.vn, .slice Z.D.A a'.dir.l.length Z.D.c, .slice Z.D.A2 a'.dir.F.length Z.D.c2, .int .i64 a'.ep, .int .i64 a'.ck, .int .i64 a'.ni] 36)) := by
  have h1 : Below wr.heap.size wr (wr.alloc (.cells #[.slice none 0 0, .int .i64 0, .int .i64 0, .int .i64 0, .int .i64 0] 60)).drew := ((Below.refl _ _).alloc (Nat.le_refl _) _).drew
  have h4 := h1.trans (hb.mono h1.size)
  have e : (wr.alloc (.cells #[.slice none 0 0, .int .i64 0, .int .i64 0, .int .i64 0, .int .i64 0] 60)).drew.heap.size = wr.heap.size + 1 := by simp
  have hq : LB w4 wr.heap.size zK none 0 := ((LB.start wr zK none 0 _).up ((Below.refl _ _).drew)).up hb
  have hu : wr.heap.size < w4.heap.size := hq.lt
  obtain ⟨hof, hfo⟩ := ho wr.heap.size (Nat.le_refl _) (by omega)
  have k1 := QB.start (set5 w4 wr.heap.size l' A' c') a' Z 36
  rw [set5_size] at k1
  have hr' : AR (set5 w4 wr.heap.size l' A' c') (set5 w4 wr.heap.size l' A' c').heap.size a' Z := (hr.set5 hof l' A' c').more (by rw [set5_size]; exact Nat.le_refl _)
  have hf' : Fl (set5 w4 wr.heap.size l' A' c') (set5 w4 wr.heap.size l' A' c').heap.size (.slice A' l'.cs.length c') l'.cs := (hf.set5 hfo l' A' c').more (by rw [set5_size]; exact Nat.le_refl _)
  exact ⟨hq, bal (set5_below h4 (Nat.le_refl _) l' A' c') _, k1, (hq.set l' A' c').alloc _, hr'.alloc _, hf'.alloc2 _, by omega, Nat.le_refl _, by omega⟩
/-- Both were. -/
theorem nx_both {u v : Nat} (h1 : Below wr.heap.size wr W) (ho : ∀ q, wr.heap.size ≤ q → q < W.heap.size → AOff a' Z q ∧ OffB q l'.cs.length A') (hr : AR w4 w4.heap.size a' Z) (hf : Fl w4 w4.heap.size (.slice A' l'.cs.length c') l'.cs) (hb : Below W.heap.size W w4) (hqu : QB w4 u zA zAx) (hqv : LB w4 v zK none 0) (hu : wr.heap.size ≤ u ∧ u < W.heap.size) (hv : wr.heap.size ≤ v ∧ v < W.heap.size) (hne : u ≠ v) :
    Nx13 wr u v a' Z l' A' c' (set5 (set11 w4 u a' Z) v l' A' c') := by
  have h4 := h1.trans (hb.mono h1.size)
  obtain ⟨ou, fu⟩ := ho u hu.1 hu.2
  obtain ⟨ov, fv⟩ := ho v hv.1 hv.2
  exact ⟨set5_below (set11_below h4 hu.1 a' Z) hv.1 l' A' c', (hqu.set a' Z).set5 (fun e => hne e.symm) l' A' c', (hqv.set11 hne a' Z).set l' A' c', ((hr.set11 ou a' Z).set5 ov l' A' c').more (by rw [set5_size, set11_size]; exact Nat.le_refl _), ((hf.set11 fu a' Z).set5 fv l' A' c').more (by rw [set5_size, set11_size]; exact Nat.le_refl _), hu.1, hv.1, hne⟩
theorem nx_4 (ho : ∀ q, wr.heap.size ≤ q → q < ((wr.alloc (.cells #[.slice none 0 0, .slice none 0 0, .int .i64 0, .int .i64 0, .slice none 0 0, .int .i64 0, .slice none 0 0, .slice none 0 0, .int .i64 0, .int .i64 0, .int .i64 0] 36)).alloc (.cells #[.slice none 0 0, .int .i64 0, .int .i64 0, .int .i64 0, .int .i64 0] 60)).drew.heap.size → AOff a' Z q ∧ OffB q l'.cs.length A') (hr : AR w4 w4.heap.size a' Z) (hf : Fl w4 w4.heap.size (.slice A' l'.cs.length c') l'.cs) (hb : Below ((wr.alloc (.cells #[.slice none 0 0, .slice none 0 0, .int .i64 0, .int .i64 0, .slice none 0 0, .int .i64 0, .slice none 0 0, .slice none 0 0, .int .i64 0, .int .i64 0, .int .i64 0] 36)).alloc (.cells #[.slice none 0 0, .int .i64 0, .int .i64 0, .int .i64 0, .int .i64 0] 60)).drew.heap.size ((wr.alloc (.cells #[.slice none 0 0, .slice none 0 0, .int .i64 0, .int .i64 0, .slice none 0 0, .int .i64 0, .slice none 0 0, .slice none 0 0, .int .i64 0, .int .i64 0, .int .i64 0] 36)).alloc (.cells #[.slice none 0 0, .int .i64 0, .int .i64 0, .int .i64 0, .int .i64 0] 60)).drew w4) :
    QB w4 wr.heap.size zA zAx ∧ LB w4 (wr.heap.size + 1) zK none 0 ∧ Nx13 wr wr.heap.size (wr.heap.size + 1) a' Z l' A' c' (set5 (set11 w4 wr.heap.size a' Z) (wr.heap.size + 1) l' A' c') := by
  have h1 : Below wr.heap.size wr ((wr.alloc (.cells #[.slice none 0 0, .slice none 0 0, .int .i64 0, .int .i64 0, .slice none 0 0, .int .i64 0, .slice none 0 0, .slice none 0 0, .int .i64 0, .int .i64 0, .int .i64 0] 36)).alloc (.cells #[.slice none 0 0, .int .i64 0, .int .i64 0, .int .i64 0, .int .i64 0] 60)).drew := (((Below.refl _ _).alloc (Nat.le_refl _) _).alloc (by simp) _).drew
  have k1 := LB.start (wr.alloc (.cells #[.slice none 0 0, .slice none 0 0, .int .i64 0, .int .i64 0, .slice none 0 0, .int .i64 0, .slice none 0 0, .slice none 0 0, .int .i64 0, .int .i64 0, .int .i64 0] 36)) zK none 0 60
  rw [show (wr.alloc (.cells #[.slice none 0 0, .slice none 0 0, .int .i64 0, .int .i64 0, .slice none 0 0, .int .i64 0, .slice none 0 0, .slice none 0 0, .int .i64 0, .int .i64 0, .int .i64 0] 36)).heap.size = wr.heap.size + 1 by simp] at k1
  have hq := (((QB.start wr zA zAx 36).alloc (.cells #[.slice none 0 0, .int .i64 0, .int .i64 0, .int .i64 0, .int .i64 0] 60)).up ((Below.refl _ _).drew)).up hb
  have hv := (k1.up ((Below.refl _ _).drew)).up hb
  have e : ((wr.alloc (.cells #[.slice none 0 0, .slice none 0 0, .int .i64 0, .int .i64 0, .slice none 0 0, .int .i64 0, .slice none 0 0, .slice none 0 0, .int .i64 0, .int .i64 0, .int .i64 0] 36)).alloc (.cells #[.slice none 0 0, .int .i64 0, .int .i64 0, .int .i64 0, .int .i64 0] 60)).drew.heap.size = wr.heap.size + 2 := by simp
  exact ⟨hq, hv, nx_both h1 ho hr hf hb hq hv ⟨Nat.le_refl _, by omega⟩ ⟨by omega, by omega⟩ (by omega)⟩
theorem nx_5 (ho : ∀ q, wr.heap.size ≤ q → q < ((wr.alloc (.cells #[.slice none 0 0, .int .i64 0, .int .i64 0, .int .i64 0, .int .i64 0] 60)).alloc (.cells #[.slice none 0 0, .slice none 0 0, .int .i64 0, .int .i64 0, .slice none 0 0, .int .i64 0, .slice none 0 0, .slice none 0 0, .int .i64 0, .int .i64 0, .int .i64 0] 36)).drew.heap.size → AOff a' Z q ∧ OffB q l'.cs.length A') (hr : AR w4 w4.heap.size a' Z) (hf : Fl w4 w4.heap.size (.slice A' l'.cs.length c') l'.cs) (hb : Below ((wr.alloc (.cells #[.slice none 0 0, .int .i64 0, .int .i64 0, .int .i64 0, .int .i64 0] 60)).alloc (.cells #[.slice none 0 0, .slice none 0 0, .int .i64 0, .int .i64 0, .slice none 0 0, .int .i64 0, .slice none 0 0, .slice none 0 0, .int .i64 0, .int .i64 0, .int .i64 0] 36)).drew.heap.size ((wr.alloc (.cells #[.slice none 0 0, .int .i64 0, .int .i64 0, .int .i64 0, .int .i64 0] 60)).alloc (.cells #[.slice none 0 0, .slice none 0 0, .int .i64 0, .int .i64 0, .slice none 0 0, .int .i64 0, .slice none 0 0, .slice none 0 0, .int .i64 0, .int .i64 0, .int .i64 0] 36)).drew w4) :
    QB w4 (wr.heap.size + 1) zA zAx ∧ LB w4 wr.heap.size zK none 0 ∧ Nx13 wr (wr.heap.size + 1) wr.heap.size a' Z l' A' c' (set5 (set11 w4 (wr.heap.size + 1) a' Z) wr.heap.size l' A' c') := by
  have h1 : Below wr.heap.size wr ((wr.alloc (.cells #[.slice none 0 0, .int .i64 0, .int .i64 0, .int .i64 0, .int .i64 0] 60)).alloc (.cells #[.slice none 0 0, .slice none 0 0, .int .i64 0, .int .i64 0, .slice none 0 0, .int .i64 0, .slice none 0 0, .slice none 0 0, .int .i64 0, .int .i64 0, .int .i64 0] 36)).drew := (((Below.refl _ _).alloc (Nat.le_refl _) _).alloc (by simp) _).drew
  have k1 := QB.start (wr.alloc (.cells #[.slice none 0 0, .int .i64 0, .int .i64 0, .int .i64 0, .int .i64 0] 60)) zA zAx 36
  rw [show (wr.alloc (.cells #[.slice none 0 0, .int .i64 0, .int .i64 0, .int .i64 0, .int .i64 0] 60)).heap.size = wr.heap.size + 1 by simp] at k1
  have hq := (k1.up ((Below.refl _ _).drew)).up hb
  have hv := (((LB.start wr zK none 0 60).alloc (.cells #[.slice none 0 0, .slice none 0 0, .int .i64 0, .int .i64 0, .slice none 0 0, .int .i64 0, .slice none 0 0, .slice none 0 0, .int .i64 0, .int .i64 0, .int .i64 0] 36)).up ((Below.refl _ _).drew)).up hb
  have e : ((wr.alloc (.cells #[.slice none 0 0, .int .i64 0, .int .i64 0, .int .i64 0, .int .i64 0] 60)).alloc (.cells #[.slice none 0 0, .slice none 0 0, .int .i64 0, .int .i64 0, .slice none 0 0, .int .i64 0, .slice none 0 0, .slice none 0 0, .int .i64 0, .int .i64 0, .int .i64 0] 36)).drew.heap.size = wr.heap.size + 2 := by simp
  exact ⟨hq, hv, nx_both h1 ho hr hf hb hq hv ⟨by omega, by omega⟩ ⟨Nat.le_refl _, by omega⟩ (by omega)⟩
end
/-- A locker's cells lie, and in none of these blocks. -/
structure Ly (W : World) (S : List Nat) (t : Lc) : Prop where
  fl : Fl W W.heap.size (.slice t.A t.l.cs.length t.c) t.l.cs
  o : ∀ q ∈ S, OffB q t.l.cs.length t.A
/-- Two boxes of one arena, two rows of lockers, a source. -/
structure Jd (w : World) (g pa pb b1 b2 : Nat) (a : Ar) (Y V : Ax) (Q K : List Lc) (W : World) : Prop where
  src : SrcAt W w.heap.size g
  qa : QB W pa a Y
  qb : QB W pb a V
  ra : AR W W.heap.size a Y
  rv : AR W W.heap.size a V
  oy : ∀ q ∈ [g, pa, pb, b1, b2], AOff a Y q
  ov : ∀ q ∈ [g, pa, pb, b1, b2], AOff a V q
  r1 : Rb W b1 (kcs Q)
  r2 : Rb W b2 (kcs K)
  l1 : ∀ t ∈ Q, Ly W [g, pa, pb, b1, b2] t
  l2 : ∀ t ∈ K, Ly W [g, pa, pb, b1, b2] t
  ne : w.heap.size ≤ g ∧ g < pa ∧ pa < pb ∧ pb < b1 ∧ pb < b2 ∧ b1 ≠ b2
  bel : Below w.heap.size w W
theorem Ly.up {W W' : World} {S : List Nat} {t : Lc} (h : Ly W S t) (hb : Below W.heap.size W W') : Ly W' S t := ⟨h.fl.up hb, h.o⟩
theorem Ly.set11 {W : World} {S : List Nat} {t : Lc} {p : Nat} (h : Ly W S t) (hp : p ∈ S) (a : Ar) (Y : Ax) : Ly (Go.Proofs.Ytijpflljopckiaa.set11 W p a Y) S t := ⟨(h.fl.set11 (h.o p hp) a Y).more (by rw [set11_size]; exact Nat.le_refl _), h.o⟩
theorem Ly.putK {W : World} {S : List Nat} {t s : Lc} {b o : Nat} (h : Ly W S t) (hp : b ∈ S) : Ly (sets5 W b o s) S t := ⟨(h.fl.putK (h.o b hp)).more (by rw [sets5_size]; exact Nat.le_refl _), h.o⟩
theorem Rb.putKo {W : World} {b c o : Nat} {t : Lc} {xs : List Value} (h : Rb W c xs) (hp : b ≠ c) : Rb (sets5 W b o t) c xs :=
  ((((h.other (a := ⟨b, o, none⟩) hp _).other (a := ⟨b, o + 1, none⟩) hp _).other (a := ⟨b, o + 2, none⟩) hp _).other (a := ⟨b, o + 3, none⟩) hp _).other (a := ⟨b, o + 4, none⟩) hp _
section
variable {w W W' : World} {g pa pb b1 b2 k : Nat} {a a' : Ar} {Y V Z X : Ax} {Q K : List Lc} {t s : Lc}
theorem Jd.below (h : Jd w g pa pb b1 b2 a Y V Q K W) (hb : Below W.heap.size W W') : Jd w g pa pb b1 b2 a Y V Q K W' :=
  ⟨h.src.below hb, h.qa.up hb, h.qb.up hb, h.ra.up hb, h.rv.up hb, h.oy, h.ov, h.r1.up hb, h.r2.up hb, fun t ht => (h.l1 t ht).up hb, fun t ht => (h.l2 t ht).up hb, h.ne, h.bel.trans (hb.mono h.bel.size)⟩
theorem Jd.turn (h : Jd w g pa pb b1 b2 a Y V Q K W) (hs : SrcAt W' w.heap.size g) (hg : W.grownBy W' (some g)) : Jd w g pa pb b1 b2 a Y V Q K W' := by
  have hne := h.ne
  exact ⟨hs, h.qa.grown hg (by omega), h.qb.grown hg (by omega), h.ra.grown13 hg (h.oy g (by simp)), h.rv.grown13 hg (h.ov g (by simp)), h.oy, h.ov, h.r1.grown hg (by omega), h.r2.grown hg (by omega), fun t ht => ⟨(h.l1 t ht).fl.grownC hg ((h.l1 t ht).o g (by simp)), (h.l1 t ht).o⟩, fun t ht => ⟨(h.l2 t ht).fl.grownC hg ((h.l2 t ht).o g (by simp)), (h.l2 t ht).o⟩, hne, h.bel.grown hg h.bel.size (fun x e => by injection e with e; omega)⟩
/-- Both arenas are stored. -/
theorem Jd.putA (h : Jd w g pa pb b1 b2 a Y V Q K W) (hz : AR W W.heap.size a' Z) (hx : AR W W.heap.size a' X) (oz : ∀ q ∈ [g, pa, pb, b1, b2], AOff a' Z q) (ox : ∀ q ∈ [g, pa, pb, b1, b2], AOff a' X q) : Jd w g pa pb b1 b2 a' Z X Q K (set11 (set11 W pa a' Z) pb a' X) := by
  have hne := h.ne
  exact ⟨(h.src.set11 (by omega) (by omega) a' Z).set11 (by omega) (by omega) a' X, (h.qa.set a' Z).set11o (by omega) a' X, (h.qb.set11o (by omega) a' Z).set a' X, ((hz.set11 (oz pa (by simp)) a' Z).set11 (oz pb (by simp)) a' X).more (by rw [set11_size, set11_size]; exact Nat.le_refl _), ((hx.set11 (ox pa (by simp)) a' Z).set11 (ox pb (by simp)) a' X).more (by rw [set11_size, set11_size]; exact Nat.le_refl _), oz, ox, (h.r1.set11 (by omega) a' Z).set11 (by omega) a' X, (h.r2.set11 (by omega) a' Z).set11 (by omega) a' X, fun t ht => ((h.l1 t ht).set11 (by simp) a' Z).set11 (by simp) a' X, fun t ht => ((h.l2 t ht).set11 (by simp) a' Z).set11 (by simp) a' X, hne, set11_below (set11_below h.bel (by omega) a' Z) (by omega) a' X⟩
/-- Both lockers are stored. -/
theorem Jd.putK (h : Jd w g pa pb b1 b2 a Y V Q K W) (hk : k < Q.length) (hk2 : k < K.length) (ht : Ly W [g, pa, pb, b1, b2] t) (hs : Ly W [g, pa, pb, b1, b2] s) : Jd w g pa pb b1 b2 a Y V (Q.set k t) (K.set k s) (sets5 (sets5 W b1 (k * 5) t) b2 (k * 5) s) := by
  have hne := h.ne
  refine ⟨(h.src.putK (by omega) (by omega)).putK (by omega) (by omega), (h.qa.putK (by omega)).putK (by omega), (h.qb.putK (by omega)).putK (by omega), ((h.ra.putK (h.oy b1 (by simp))).putK (h.oy b2 (by simp))).more (by rw [sets5_size, sets5_size]; exact Nat.le_refl _), ((h.rv.putK (h.ov b1 (by simp))).putK (h.ov b2 (by simp))).more (by rw [sets5_size, sets5_size]; exact Nat.le_refl _), h.oy, h.ov, (h.r1.putK hk).putKo (by omega), (h.r2.putKo (by omega)).putK hk2, fun x hx => ?_, fun x hx => ?_, hne, sets5_below (sets5_below h.bel (by omega)) (by omega)⟩
  · rcases List.mem_or_eq_of_mem_set hx with h1 | rfl
    · exact ((h.l1 x h1).putK (by simp)).putK (by simp)
    · exact (ht.putK (by simp)).putK (by simp)
  · rcases List.mem_or_eq_of_mem_set hx with h1 | rfl
    · exact ((h.l2 x h1).putK (by simp)).putK (by simp)
    · exact (hs.putK (by simp)).putK (by simp)
end
end Go.Proofs.Ytijpflljopckiaa
/- Plain: two rows of lockers that grow beside two boxes of an arena and a source. -/
namespace Go.Proofs.Ytijpflljopckiaa
open Go.RowKit
set_option linter.unusedVariables false

/-- Two boxes of one arena, two rows of lockers that may be appended to, a source. -/
structure Jd1 (w : World) (g pa pb : Nat) (a : Ar) (Y V : Ax) (A A2 : Option Addr) (c c2 : Nat) (Q K : List Lc) (W : World) : Prop where
  src : SrcAt W w.heap.size g
  qa : QB W pa a Y
  qb : QB W pb a V
  ra : AR W W.heap.size a Y
  rv : AR W W.heap.size a V
  oy : ∀ q ∈ [g, pa, pb], AOff a Y q
  ov : ∀ q ∈ [g, pa, pb], AOff a V q
  o1 : W.ownsRow (pb + 1) 60 5 (.slice A Q.length c) Q.length (kcs Q)
  o2 : W.ownsRow (pb + 1) 60 5 (.slice A2 K.length c2) K.length (kcs K)
  l1 : ∀ t ∈ Q, Ly W [g, pa, pb] t
  l2 : ∀ t ∈ K, Ly W [g, pa, pb] t
  x1 : ∀ b, (Value.slice A Q.length c).ownBlock = some b → (∀ t ∈ Q, OffB b t.l.cs.length t.A) ∧ (∀ t ∈ K, OffB b t.l.cs.length t.A) ∧ AOff a Y b ∧ AOff a V b ∧ (Value.slice A2 K.length c2).ownBlock ≠ some b
  x2 : ∀ b, (Value.slice A2 K.length c2).ownBlock = some b → (∀ t ∈ Q, OffB b t.l.cs.length t.A) ∧ (∀ t ∈ K, OffB b t.l.cs.length t.A) ∧ AOff a Y b ∧ AOff a V b
  ne : w.heap.size ≤ g ∧ g < pa ∧ pa < pb
  bel : Below w.heap.size w W
section
variable {w W W' : World} {g pa pb c c2 : Nat} {a : Ar} {Y V : Ax} {A A2 : Option Addr} {Q K : List Lc}
theorem Jd1.below (h : Jd1 w g pa pb a Y V A A2 c c2 Q K W) (hb : Below W.heap.size W W') : Jd1 w g pa pb a Y V A A2 c c2 Q K W' :=
  ⟨h.src.below hb, h.qa.up hb, h.qb.up hb, h.ra.up hb, h.rv.up hb, h.oy, h.ov, own_upT h.o1 hb, own_upT h.o2 hb, fun t ht => (h.l1 t ht).up hb, fun t ht => (h.l2 t ht).up hb, h.x1, h.x2, h.ne, h.bel.trans (hb.mono h.bel.size)⟩
theorem Jd1.turn (h : Jd1 w g pa pb a Y V A A2 c c2 Q K W) (hs : SrcAt W' w.heap.size g) (hg : W.grownBy W' (some g)) : Jd1 w g pa pb a Y V A A2 c c2 Q K W' := by
  have hne := h.ne
  exact ⟨hs, h.qa.grown hg (by omega), h.qb.grown hg (by omega), h.ra.grown13 hg (h.oy g (by simp)), h.rv.grown13 hg (h.ov g (by simp)), h.oy, h.ov, own_farT h.o1 hg (fun k hk e => by injection e with e; have := (h.o1.lt k hk).1; omega), own_farT h.o2 hg (fun k hk e => by injection e with e; have := (h.o2.lt k hk).1; omega), fun t ht => ⟨(h.l1 t ht).fl.grownC hg ((h.l1 t ht).o g (by simp)), (h.l1 t ht).o⟩, fun t ht => ⟨(h.l2 t ht).fl.grownC hg ((h.l2 t ht).o g (by simp)), (h.l2 t ht).o⟩, h.x1, h.x2, hne, h.bel.grown hg h.bel.size (fun x e => by injection e with e; omega)⟩
/-- A locker whose cells lie in none of the blocks that are written. -/
structure Lz (g pa pb : Nat) (A A2 : Option Addr) (n n2 c c2 : Nat) (t : Lc) (W : World) : Prop where
  ly : Ly W [g, pa, pb] t
  b1 : ∀ b, (Value.slice A n c).ownBlock = some b → OffB b t.l.cs.length t.A
  b2 : ∀ b, (Value.slice A2 n2 c2).ownBlock = some b → OffB b t.l.cs.length t.A
theorem Lz.below {n n2 : Nat} {t : Lc} (h : Lz g pa pb A A2 n n2 c c2 t W) (hb : Below W.heap.size W W') : Lz g pa pb A A2 n n2 c c2 t W' := ⟨h.ly.up hb, h.b1, h.b2⟩
theorem src_own {n : Nat} {v : Value} {xs : List Value} (h : SrcAt W w.heap.size g) (ho : W.ownsRow (pb + 1) 60 5 v n xs) (hne : w.heap.size ≤ g ∧ g < pa ∧ pa < pb) (hg : W.grownBy W' v.ownBlock) : SrcAt W' w.heap.size g := by
  have hlt : ∀ x, v.ownBlock = some x → pb + 1 ≤ x := fun x e => (ho.lt x e).1
  have hB := h.1
  have h2 := h.2.1
  exact h.keep hg.size (fun o => hg.cell_far ⟨g, o, none⟩ h2 (fun e => by have := hlt g e.symm; omega)) (fun o => hg.frozen_far ⟨g, o, none⟩ h2 (fun e => by have := hlt g e.symm; omega)) (fun x hx => hg.cell_far x (by omega) (fun e => by have := hlt _ e.symm; omega))
theorem own_eq {g1 n c b : Nat} (h : (Value.slice (some ⟨g1, 0, none⟩) n c).ownBlock = some b) : g1 = b := by simpa [Value.ownBlock] using h
/-- The first row is appended to. -/
theorem Jd1.app1 (h : Jd1 w g pa pb a Y V A A2 c c2 Q K W) {T : Lc} (ht : Lz g pa pb A A2 Q.length K.length c c2 T W) {g1 c1 : Nat} (hown : W'.ownsRow (pb + 1) 60 5 (.slice (some ⟨g1, 0, none⟩) (Q.length + 1) c1) (Q.length + 1) (kcs Q ++ T.v)) (hg : W.grownBy W' (Value.slice A Q.length c).ownBlock) (hat : (Value.slice A Q.length c).ownBlock = some g1 ∨ g1 = W.heap.size) :
    Jd1 w g pa pb a Y V (some ⟨g1, 0, none⟩) A2 c1 c2 (Q ++ [T]) K W' := by
  have hlt : ∀ x, (Value.slice A Q.length c).ownBlock = some x → pb + 1 ≤ x := fun x e => (h.o1.lt x e).1
  have hne := h.ne
  have hsz := hg.size
  have e1 : (Q ++ [T]).length = Q.length + 1 := by simp
  have e2 : kcs (Q ++ [T]) = kcs Q ++ T.v := by simp [kcs]
  have hmem : ∀ t ∈ Q ++ [T], t ∈ Q ∨ t = T := fun t ht => by
    rcases List.mem_append.1 ht with h1 | h1
    · exact .inl h1
    · exact .inr (by simpa using h1)
  refine ⟨src_own h.src h.o1 hne hg, h.qa.grownN hg (fun x e => by have := hlt x e; omega), h.qb.grownN hg (fun x e => by have := hlt x e; omega), h.ra.grown13N hg (fun b e => (h.x1 b e).2.2.1), h.rv.grown13N hg (fun b e => (h.x1 b e).2.2.2.1), h.oy, h.ov, by rw [e1, e2]; exact hown, own_farN h.o2 hg (fun b e => (h.x1 b e).2.2.2.2), fun t hm => ?_, fun t hm => ⟨(h.l2 t hm).fl.grownN hg (fun b e => (h.x1 b e).2.1 t hm), (h.l2 t hm).o⟩, fun b hb => ?_, fun b hb => ?_, hne, h.bel.grown hg h.bel.size (fun x e => by have := hlt x e; omega)⟩
  · rcases hmem t hm with h1 | rfl
    · exact ⟨(h.l1 t h1).fl.grownN hg (fun b e => (h.x1 b e).1 t h1), (h.l1 t h1).o⟩
    · exact ⟨ht.ly.fl.grownN hg ht.b1, ht.ly.o⟩
  · rw [e1] at hb
    obtain rfl := own_eq hb
    rcases hat with h1 | h1
    · obtain ⟨k1, k2, k3, k4, k5⟩ := h.x1 _ h1
      refine ⟨fun t hm => ?_, k2, k3, k4, k5⟩
      rcases hmem t hm with h2 | rfl
      · exact k1 t h2
      · exact ht.b1 _ h1
    · refine ⟨fun t hm => ?_, fun t hm => rd_off (h.l2 t hm).fl.rd (by omega), h.ra.offs (by omega), h.rv.offs (by omega), fun e => ?_⟩
      · rcases hmem t hm with h2 | rfl
        · exact rd_off (h.l1 t h2).fl.rd (by omega)
        · exact rd_off ht.ly.fl.rd (by omega)
      · have := (h.o2.lt _ e).2
        omega
  · obtain ⟨k1, k2, k3, k4⟩ := h.x2 b hb
    refine ⟨fun t hm => ?_, k2, k3, k4⟩
    rcases hmem t hm with h2 | rfl
    · exact k1 t h2
    · exact ht.b2 _ hb
/-- The second row is appended to. -/
theorem Jd1.app2 (h : Jd1 w g pa pb a Y V A A2 c c2 Q K W) {T : Lc} (ht : Lz g pa pb A A2 Q.length K.length c c2 T W) {g1 c1 : Nat} (hown : W'.ownsRow (pb + 1) 60 5 (.slice (some ⟨g1, 0, none⟩) (K.length + 1) c1) (K.length + 1) (kcs K ++ T.v)) (hg : W.grownBy W' (Value.slice A2 K.length c2).ownBlock) (hat : (Value.slice A2 K.length c2).ownBlock = some g1 ∨ g1 = W.heap.size) :
    Jd1 w g pa pb a Y V A (some ⟨g1, 0, none⟩) c c1 Q (K ++ [T]) W' := by
  have hlt : ∀ x, (Value.slice A2 K.length c2).ownBlock = some x → pb + 1 ≤ x := fun x e => (h.o2.lt x e).1
  have hne := h.ne
  have hsz := hg.size
  have e1 : (K ++ [T]).length = K.length + 1 := by simp
  have e2 : kcs (K ++ [T]) = kcs K ++ T.v := by simp [kcs]
  have hmem : ∀ t ∈ K ++ [T], t ∈ K ∨ t = T := fun t ht => by
    rcases List.mem_append.1 ht with h1 | h1
    · exact .inl h1
    · exact .inr (by simpa using h1)
  refine ⟨src_own h.src h.o2 hne hg, h.qa.grownN hg (fun x e => by have := hlt x e; omega), h.qb.grownN hg (fun x e => by have := hlt x e; omega), h.ra.grown13N hg (fun b e => (h.x2 b e).2.2.1), h.rv.grown13N hg (fun b e => (h.x2 b e).2.2.2), h.oy, h.ov, own_farN h.o1 hg (fun b e e' => (h.x1 b e').2.2.2.2 e), by rw [e1, e2]; exact hown, fun t hm => ⟨(h.l1 t hm).fl.grownN hg (fun b e => (h.x2 b e).1 t hm), (h.l1 t hm).o⟩, fun t hm => ?_, fun b hb => ?_, fun b hb => ?_, hne, h.bel.grown hg h.bel.size (fun x e => by have := hlt x e; omega)⟩
  · rcases hmem t hm with h1 | rfl
    · exact ⟨(h.l2 t h1).fl.grownN hg (fun b e => (h.x2 b e).2.1 t h1), (h.l2 t h1).o⟩
    · exact ⟨ht.ly.fl.grownN hg ht.b2, ht.ly.o⟩
  · obtain ⟨k1, k2, k3, k4, k5⟩ := h.x1 b hb
    refine ⟨k1, fun t hm => ?_, k3, k4, fun e => ?_⟩
    · rcases hmem t hm with h2 | rfl
      · exact k2 t h2
      · exact ht.b1 _ hb
    · rw [e1] at e
      obtain rfl := own_eq e
      rcases hat with h1 | h1
      · exact k5 h1
      · have := (h.o1.lt _ hb).2
        omega
  · rw [e1] at hb
    obtain rfl := own_eq hb
    rcases hat with h1 | h1
    · obtain ⟨k1, k2, k3, k4⟩ := h.x2 _ h1
      refine ⟨k1, fun t hm => ?_, k3, k4⟩
      rcases hmem t hm with h2 | rfl
      · exact k2 t h2
      · exact ht.b2 _ h1
    · refine ⟨fun t hm => rd_off (h.l1 t hm).fl.rd (by omega), fun t hm => ?_, h.ra.offs (by omega), h.rv.offs (by omega)⟩
      rcases hmem t hm with h2 | rfl
      · exact rd_off (h.l2 t h2).fl.rd (by omega)
      · exact rd_off ht.ly.fl.rd (by omega)
/-- Another locker stays so behind an append. -/
theorem Lz.app1 (h : Jd1 w g pa pb a Y V A A2 c c2 Q K W) {t : Lc} (ht : Lz g pa pb A A2 Q.length K.length c c2 t W) {g1 c1 : Nat} (hg : W.grownBy W' (Value.slice A Q.length c).ownBlock) (hat : (Value.slice A Q.length c).ownBlock = some g1 ∨ g1 = W.heap.size) : Lz g pa pb (some ⟨g1, 0, none⟩) A2 (Q.length + 1) K.length c1 c2 t W' := by
  refine ⟨⟨ht.ly.fl.grownN hg ht.b1, ht.ly.o⟩, fun b hb => ?_, ht.b2⟩
  obtain rfl := own_eq hb
  rcases hat with h1 | h1
  · exact ht.b1 _ h1
  · exact rd_off ht.ly.fl.rd (by omega)
theorem Lz.app2 (h : Jd1 w g pa pb a Y V A A2 c c2 Q K W) {t : Lc} (ht : Lz g pa pb A A2 Q.length K.length c c2 t W) {g1 c1 : Nat} (hg : W.grownBy W' (Value.slice A2 K.length c2).ownBlock) (hat : (Value.slice A2 K.length c2).ownBlock = some g1 ∨ g1 = W.heap.size) : Lz g pa pb A (some ⟨g1, 0, none⟩) Q.length (K.length + 1) c c1 t W' := by
  refine ⟨⟨ht.ly.fl.grownN hg ht.b2, ht.ly.o⟩, ht.b1, fun b hb => ?_⟩
  obtain rfl := own_eq hb
  rcases hat with h1 | h1
  · exact ht.b2 _ h1
  · exact rd_off ht.ly.fl.rd (by omega)
theorem Jd1.end_ (h : Jd1 w g pa pb a Y V A A2 c c2 Q K W) (h0 : 0 < Q.length) (h2 : 0 < K.length) : ∃ b1 cap b2 cap2, Value.slice A Q.length c = .slice (some ⟨b1, 0, none⟩) Q.length cap ∧ Value.slice A2 K.length c2 = .slice (some ⟨b2, 0, none⟩) K.length cap2 ∧ Jd w g pa pb b1 b2 a Y V Q K W := by
  obtain ⟨b1, cap, e, p1, p2, p3, p4⟩ := own_rb h.o1 h0
  obtain ⟨b2, cap2, e', q1, q2, q3, q4⟩ := own_rb h.o2 h2
  have hb : (Value.slice A Q.length c).ownBlock = some b1 := by rw [e]; rfl
  have hb2 : (Value.slice A2 K.length c2).ownBlock = some b2 := by rw [e']; rfl
  obtain ⟨k1, k2, k3, k4, k5⟩ := h.x1 _ hb
  obtain ⟨m1, m2, m3, m4⟩ := h.x2 _ hb2
  have hne := h.ne
  have hbb : b1 ≠ b2 := fun e => k5 (by rw [e]; exact hb2)
  have s5 : ∀ (P : Nat → Prop), (∀ q ∈ [g, pa, pb], P q) → P b1 → P b2 → ∀ q ∈ [g, pa, pb, b1, b2], P q := fun P h3 h4 h5 q hq => by
    simp only [List.mem_cons, List.not_mem_nil, or_false] at hq
    rcases hq with rfl | rfl | rfl | rfl | rfl
    · exact h3 _ (by simp)
    · exact h3 _ (by simp)
    · exact h3 _ (by simp)
    · exact h4
    · exact h5
  exact ⟨b1, cap, b2, cap2, e, e', h.src, h.qa, h.qb, h.ra, h.rv, s5 _ h.oy k3 m3, s5 _ h.ov k4 m4, p4, q4, fun t ht => ⟨(h.l1 t ht).fl, s5 _ (h.l1 t ht).o (k1 t ht) (m1 t ht)⟩, fun t ht => ⟨(h.l2 t ht).fl, s5 _ (h.l2 t ht).o (k2 t ht) (m2 t ht)⟩, ⟨hne.1, hne.2.1, hne.2.2, by omega, by omega, hbb⟩, h.bel⟩
/-- The cells of a locker in a row of their own. -/
structure Ns13 (W : World) (B : Nat) (t : Lc) : Prop where
  c : ∀ (j : Nat) u, t.v[j]? = some u → W.cell? ⟨B, j, none⟩ = some u
  lt : B < W.heap.size
theorem Ns13.up {B : Nat} {t : Lc} (h : Ns13 W B t) (hb : Below W.heap.size W W') : Ns13 W' B t := ⟨fun j u hu => (hb.cell (p := ⟨B, j, none⟩) h.lt).trans (h.c j u hu), Nat.lt_of_lt_of_le h.lt hb.size⟩
theorem Ns13.news {B : Nat} {t : Lc} (h : Ns13 W B t) : ∀ (j : Nat) u, t.v[j]? = some u → W.cell? ((⟨B, 0, none⟩ : Addr).add j) = some u := fun j u hu => by
  rw [add_mk, Nat.zero_add]
  exact h.c j u hu
theorem Ns13.new (W : World) (t : Lc) (ty : TypeId) : Ns13 (W.alloc (.cells t.v.toArray ty)) W.heap.size t := ⟨fun j u hu => by
  have := World.news_of_block (cs := t.v.toArray) (t := ty) (fr := (0, 0)) (heap_alloc_new W _) j u hu
  rw [add_mk, Nat.zero_add] at this
  exact this, by simp⟩
theorem Ns13.grown {B : Nat} {t : Lc} {ob : Option Nat} (h : Ns13 W B t) (hg : W.grownBy W' ob) (hne : ob ≠ some B) : Ns13 W' B t := ⟨fun j u hu => (hg.cell_far ⟨B, j, none⟩ h.lt (fun e => hne e.symm)).trans (h.c j u hu), Nat.lt_of_lt_of_le h.lt hg.size⟩
end
end Go.Proofs.Ytijpflljopckiaa
/- Plain: a row of lockers begins. -/
namespace Go.Proofs.Ytijpflljopckiaa
open Go.RowKit
set_option linter.unusedVariables false

theorem Jb1.start {w W W' : World} {g : Nat} {a : Ar} {Y : Ax} (hs : SrcAt W w.heap.size g) (hn : Y.nw W.heap.size) (hr : AR W' W'.heap.size a Y) (hb : Below W.heap.size W W') (hB : Below w.heap.size w W) : Jb1 w g W'.heap.size a Y none 0 [] (W'.alloc (.cells #[.slice Y.A a.sl.length Y.c, .slice Y.A2 a.st.length Y.c2, .int .i64 a.ow, .int .i64 a.cap, .slice Y.A3 a.dl.length Y.c3, .int .i64 a.dir.vn, .slice Y.D.A a.dir.l.length Y.D.c, .slice Y.D.A2 a.dir.F.length Y.D.c2, .int .i64 a.ep, .int .i64 a.ck, .int .i64 a.ni] 36)) := by
  have hsz := hb.size
  have hg := hs.2.1
  have hal := (Below.refl W'.heap.size W').alloc (Nat.le_refl _) (.cells #[.slice Y.A a.sl.length Y.c, .slice Y.A2 a.st.length Y.c2, .int .i64 a.ow, .int .i64 a.cap, .slice Y.A3 a.dl.length Y.c3, .int .i64 a.dir.vn, .slice Y.D.A a.dir.l.length Y.D.c, .slice Y.D.A2 a.dir.F.length Y.D.c2, .int .i64 a.ep, .int .i64 a.ck, .int .i64 a.ni] 36)
  exact ⟨(hs.below hb).below hal, QB.start W' a Y _, hr.alloc _, ⟨hr.offs (Nat.le_refl _), hn.off hg⟩, World.ownsRow_nil _ _ _ _, fun t ht => absurd ht (by simp), fun b e => by simp [Value.ownBlock] at e, ⟨hs.1, by omega⟩, (hB.trans (hb.mono hB.size)).alloc (Nat.le_trans hB.size hb.size) _⟩
theorem nw_ow {s : Su} (hs : s.Ok) : (nwA s).ow = 0 := by
  rw [show nwA s = grA s s.sl.toNat s.sl.toNat s.dd from if_pos (suB_iff.2 hs)]
  rfl
theorem own_all {A0 : Ar} {n : Nat} (h : Ca12 A0 n) (h0 : A0.ow = 0) (c : Nat) (hc : c ≤ n) : A0.own c = 0 := by
  rcases Nat.lt_or_ge c n with h1 | h1
  · exact h.ow c h1
  · unfold Ar.own
    rw [if_pos (by rw [h.sl]; omega)]
    exact h0
theorem LB.z {w : World} (t : TypeId) : LB (w.alloc (.cells #[.slice none 0 0, .int .i64 0, .int .i64 0, .int .i64 0, .int .i64 0] t)) w.heap.size zK none 0 := LB.start w zK none 0 t
end Go.Proofs.Ytijpflljopckiaa
