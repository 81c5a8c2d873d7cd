/- What is proved here: Jtv; Jtw; Jtx. -/
import Derived.Test.YtommkhjgockpfaaJ40
import Derived.Test.YtommkhjgockpfaaJ43
import Derived.Test.YtommkhjgockpfaaJ19
import Derived.Test.YtommkhjgockpfaaJ30
import Derived.Deep.DeepCutAuto
import Derived.Deep.RegionHeld3
import Derived.Test.YtommkhjgockpfaaJ39
/- Plain: a row of lockers that grows; an arena and a locker in new boxes behind a step. -/
namespace Go.Proofs.Ytommkhjgockpfaa
open Go.RowKit
set_option linter.unusedVariables false

theorem info_lk : (Try.prog.info? 28).map (fun i => (i.zero, i.size, i.bytes)) = some (some (.agg #[.slice none 0 0, .int .i64 0, .int .i64 0, .int .i64 0, .int .i64 0]), 5, 56) := by kernel_rfl
/-- An arena in a box, a row of lockers that may be appended to, a source. -/
structure Jb1 (w : World) (g pa : Nat) (a : Ar) (Y : Ax) (A : Option Addr) (c : Nat) (Q : List Lc) (W : World) : Prop where
  src : SrcAt W w.heap.size g
  qb : QB W pa a Y
  ar : AR W W.heap.size a Y
  ao : AOff a Y pa ∧ AOff a Y g
  own : W.ownsRow (pa + 1) 28 5 (.slice A Q.length c) Q.length (kcs Q)
  lx : ∀ t ∈ Q, Fl W W.heap.size (.slice t.A t.l.cs.length t.c) t.l.cs ∧ OffB pa t.l.cs.length t.A ∧ OffB g t.l.cs.length t.A
  x1 : ∀ b, (Value.slice A Q.length c).ownBlock = some b → (∀ t ∈ Q, OffB b t.l.cs.length t.A) ∧ AOff a Y b
  ne : w.heap.size ≤ g ∧ g < pa
  bel : Below w.heap.size w W
section
variable {w W W' : World} {g pa c : Nat} {a : Ar} {Y : Ax} {A : Option Addr} {Q : List Lc}
theorem Jb1.below (h : Jb1 w g pa a Y A c Q W) (hb : Below W.heap.size W W') : Jb1 w g pa a Y A c Q W' :=
  ⟨h.src.below hb, h.qb.up hb, h.ar.up hb, h.ao, own_upT h.own hb, fun t ht => ⟨(h.lx t ht).1.up hb, (h.lx t ht).2⟩, h.x1, h.ne, h.bel.trans (hb.mono h.bel.size)⟩
theorem Jb1.turn (h : Jb1 w g pa a Y A c Q W) (hs : SrcAt W' w.heap.size g) (hg : W.grownBy W' (some g)) : Jb1 w g pa a Y A c Q W' :=
  ⟨hs, h.qb.grown hg (by have := h.ne; omega), h.ar.grown13 hg h.ao.2, h.ao, own_farT h.own hg (fun k hk e => by injection e with e; have := (h.own.lt k hk).1; have := h.ne; omega), fun t ht => ⟨(h.lx t ht).1.grownC hg (h.lx t ht).2.2, (h.lx t ht).2⟩, h.x1, h.ne, h.bel.grown hg h.bel.size (fun x e => by injection e with e; have := h.ne; omega)⟩
theorem Jb1.app (h : Jb1 w g pa a Y A c Q W) {T : Lc} (hf : Fl W W.heap.size (.slice T.A T.l.cs.length T.c) T.l.cs) (ho : OffB pa T.l.cs.length T.A ∧ OffB g T.l.cs.length T.A) (hob : ∀ b, (Value.slice A Q.length c).ownBlock = some b → OffB b T.l.cs.length T.A)
    {g1 c1 : Nat} (hown : W'.ownsRow (pa + 1) 28 5 (.slice (some ⟨g1, 0, none⟩) (Q.length + 1) c1) (Q.length + 1) (kcs Q ++ T.v)) (hg : W.grownBy W' (Value.slice A Q.length c).ownBlock) (hat : (Value.slice A Q.length c).ownBlock = some g1 ∨ g1 = W.heap.size) :
    Jb1 w g pa a Y (some ⟨g1, 0, none⟩) c1 (Q ++ [T]) W' := by
  have hlt : ∀ x, (Value.slice A Q.length c).ownBlock = some x → pa + 1 ≤ x := fun x e => (h.own.lt x e).1
  have hne := h.ne
  have hsz := hg.size
  have hs : SrcAt W' w.heap.size g := by
    have hB := h.src.1
    have h2 := h.src.2.1
    refine h.src.keep hg.size (fun o => hg.cell_far ⟨g, o, none⟩ h2 (fun e => by have := hlt g e.symm; omega)) (fun o => hg.frozen_far ⟨g, o, none⟩ h2 (fun e => by have := hlt g e.symm; omega)) (fun x hx => hg.cell_far x (by omega) (fun e => by have := hlt _ e.symm; omega))
  have e1 : (Q ++ [T]).length = Q.length + 1 := by simp
  have e2 : kcs (Q ++ [T]) = kcs Q ++ T.v := by simp [kcs]
  refine ⟨hs, h.qb.grownN hg (fun x e => by have := hlt x e; omega), h.ar.grown13N hg (fun b e => (h.x1 b e).2), h.ao, by rw [e1, e2]; exact hown, fun t ht => ?_, fun b hb => ?_, hne, h.bel.grown hg h.bel.size (fun x e => by have := hlt x e; omega)⟩
  · rcases List.mem_append.1 ht with h1 | h1
    · exact ⟨(h.lx t h1).1.grownN hg (fun b e => (h.x1 b e).1 t h1), (h.lx t h1).2⟩
    · obtain rfl : t = T := by simpa using h1
      exact ⟨hf.grownN hg hob, ho⟩
  · obtain rfl : g1 = b := by simpa [Value.ownBlock] using hb
    rcases hat with h1 | h1
    · refine ⟨fun t ht => ?_, (h.x1 _ h1).2⟩
      rcases List.mem_append.1 ht with h2 | h2
      · exact (h.x1 _ h1).1 t h2
      · obtain rfl : t = T := by simpa using h2
        exact hob _ h1
    · refine ⟨fun t ht => ?_, h.ar.offs (by omega)⟩
      rcases List.mem_append.1 ht with h2 | h2
      · exact rd_off (h.lx t h2).1.rd (by omega)
      · obtain rfl : t = T := by simpa using h2
        exact rd_off hf.rd (by omega)
theorem Jb1.end_ (h : Jb1 w g pa a Y A c Q W) (h0 : 0 < Q.length) : ∃ b cap, Value.slice A Q.length c = .slice (some ⟨b, 0, none⟩) Q.length cap ∧ Jt2 w g pa b a Y Q W := by
  obtain ⟨b, cap, e, h1, h2, h3, h4⟩ := own_rb h.own h0
  have hb : (Value.slice A Q.length c).ownBlock = some b := by rw [e]; rfl
  have hne := h.ne
  exact ⟨b, cap, e, h.src, h.qb, h.ar, ⟨h.ao.1, (h.x1 b hb).2, h.ao.2⟩, h4, fun t ht => ⟨(h.lx t ht).1, (h.lx t ht).2.1, (h.x1 b hb).1 t ht, (h.lx t ht).2.2⟩, ⟨hne.1, hne.2, by omega⟩, h.bel⟩
end
theorem okc_new {N : Nat} {cs : List Int} (h : OkC N cs) (h1 : 1 ≤ cs.length) (hN : N ≤ 6) : nwE13 cs = 0 ∧ nwL13 cs = ⟨cs, 0, 0, 0, 0⟩ := by
  have h3 := h.l3
  have ha : ascB (-1) cs = true := by
    match cs, h, h1, h3 with
    | [x], h, _, _ =>
      have r0 := h.rng 0 (by simp)
      simp [ig] at r0
      simp [ascB]; omega
    | [x, y], h, _, _ =>
      have r0 := h.rng 0 (by simp)
      have r1 := h.rng 1 (by simp)
      have a0 := h.asc 0 1 (by omega) (by simp)
      simp [ig] at r0 r1 a0
      simp [ascB]; omega
    | [x, y, z], h, _, _ =>
      have r0 := h.rng 0 (by simp)
      have r1 := h.rng 1 (by simp)
      have r2 := h.rng 2 (by simp)
      have a0 := h.asc 0 1 (by omega) (by simp)
      have a1 := h.asc 1 2 (by omega) (by simp)
      simp [ig] at r0 r1 r2 a0 a1
      simp [ascB]; omega
    | _ :: _ :: _ :: _ :: _, _, _, h3 => simp at h3
  have e : nwE13 cs = 0 := by
    unfold nwE13
    rw [if_neg (by omega), if_pos ha]
  exact ⟨e, if_pos e⟩
/-- A new locker. -/
def Ok0 (N : Nat) (l : Lk) : Prop := Ok13 N 0 l ∧ l.ph = 0 ∧ l.hv = 0
theorem ok0_new {N : Nat} {cs : List Int} (h : OkC N cs) (h1 : 1 ≤ cs.length) : Ok0 N ⟨cs, 0, 0, 0, 0⟩ :=
  ⟨⟨h1, h.l3, h.asc, h.rng, rfl, ⟨Int.le_refl 0, Int.le_refl 0⟩, ⟨Int.le_refl 0, by show (0 : Int) ≤ 3; omega⟩, .inl ⟨rfl, by show 0 < cs.length; omega⟩⟩, rfl, rfl⟩
theorem iv_start {N : Nat} {o : Nat → Int} {L : List Lk} (hL : ∀ l ∈ L, Ok0 N l) (ho : ∀ c, c ≤ N → o c = 0) : Iv13 N 0 o L :=
  ⟨fun j l hj => (hL l (List.mem_of_getElem? hj)).1, fun j l c hj hc => by
    have := hL l (List.mem_of_getElem? hj)
    rw [ho c hc]
    constructor
    · intro h; omega
    · rintro ⟨i, hi, _⟩
      have h2 := this.2.2
      unfold Lk.h at hi
      omega, fun c hc => .inl (ho c hc)⟩
theorem un_le (L : List Lk) : Un13 L ≤ L.length := by
  induction L with
  | nil => exact Nat.le_refl _
  | cons l L ih =>
    simp only [Un13, List.map_cons, List.sum_cons, List.length_cons] at ih ⊢
    have : un13 l ≤ 1 := by unfold un13; split <;> omega
    omega
/-- Behind a step: its arena and its locker in boxes of their own. -/
structure Jt3 (w : World) (g pa b u v : Nat) (a : Ar) (Y : Ax) (Q : List Lc) (a' : Ar) (Z : Ax) (t : Lc) (W : World) : Prop where
  j2 : Jt2 w g pa b a Y Q W
  ub : QB W u a' Z
  vb : LB W v t.l t.A t.c
  ar : AR W W.heap.size a' Z
  ao : AOff a' Z pa ∧ AOff a' Z b ∧ AOff a' Z g
  lx : Lx W pa b g t
  ne : b < u ∧ b < v ∧ u ≠ v
section
variable {w wr W w4 : World} {g pa b : Nat} {a a' : Ar} {Y Z : Ax} {Q : List Lc} {l' : Lk} {A' : Option Addr} {c' : Nat}
/-- What a step's results keep. -/
theorem jt3_off (H : Jt2 w g pa b a Y Q wr) (h1 : Below wr.heap.size wr W) (hn : Z.nw W.heap.size) (hm : Nw W.heap.size A') : (AOff a' Z pa ∧ AOff a' Z b ∧ AOff a' Z g) ∧ OffB pa l'.cs.length A' ∧ OffB b l'.cs.length A' ∧ OffB g l'.cs.length A' := by
  have hs := h1.size
  have hb := H.rb.lt
  have hne := H.ne
  exact ⟨⟨hn.off (by omega), hn.off (by omega), hn.off (by omega)⟩, offb_nw hm (by omega), offb_nw hm (by omega), offb_nw hm (by omega)⟩
/-- Both boxes are made behind the call. -/
theorem jt3_1 (H : Jt2 w g pa b a Y Q wr) (h1 : Below wr.heap.size wr W) (hn : Z.nw W.heap.size) (hm : Nw W.heap.size A') (hr : AR w4 w4.heap.size a' Z) (hf : Fl w4 w4.heap.size (.slice A' l'.cs.length c') l'.cs) (hb : Below W.heap.size W w4) :
    Jt3 w g pa b w4.heap.size (w4.heap.size + 1) a Y Q a' Z ⟨l', A', c'⟩ ((w4.alloc (.cells #[.slice Z.A a'.sl.length Z.c, .slice Z.A2 a'.st.length Z.c2, .int .i64 a'.ow, .int .i64 a'.cap, .slice Z.A3 a'.dl.length Z.c3, .int .i64 a'.dir.vn, .slice Z.D.A a'.dir.l.length Z.D.c, .slice Z.D.A2 a'.dir.F.length Z.D.c2, .int .i64 a'.ep, .int .i64 a'.ck, .int .i64 a'.ni] 46)).alloc (.cells #[.slice A' l'.cs.length c', .int .i64 l'.ph, .int .i64 l'.hv, .int .i64 l'.tr, .int .i64 l'.wt] 28)) ∧ Jt3 w g pa b (w4.heap.size + 1) w4.heap.size a Y Q a' Z ⟨l', A', c'⟩ ((w4.alloc (.cells #[.slice A' l'.cs.length c', .int .i64 l'.ph, .int .i64 l'.hv, .int .i64 l'.tr, .int .i64 l'.wt] 28)).alloc (.cells #[.slice Z.A a'.sl.length Z.c, .slice Z.A2 a'.st.length Z.c2, .int .i64 a'.ow, .int .i64 a'.cap, .slice Z.A3 a'.dl.length Z.c3, .int .i64 a'.dir.vn, .slice Z.D.A a'.dir.l.length Z.D.c, .slice Z.D.A2 a'.dir.F.length Z.D.c2, .int .i64 a'.ep, .int .i64 a'.ck, .int .i64 a'.ni] 46)) := by
  have h4 := h1.trans (hb.mono h1.size)
  obtain ⟨o1, o2, o3, o4⟩ := jt3_off (a' := a') (l' := l') H h1 hn hm
  have hlt := H.rb.lt
  have hsz := h4.size
  have e1 : (w4.alloc (.cells #[.slice Z.A a'.sl.length Z.c, .slice Z.A2 a'.st.length Z.c2, .int .i64 a'.ow, .int .i64 a'.cap, .slice Z.A3 a'.dl.length Z.c3, .int .i64 a'.dir.vn, .slice Z.D.A a'.dir.l.length Z.D.c, .slice Z.D.A2 a'.dir.F.length Z.D.c2, .int .i64 a'.ep, .int .i64 a'.ck, .int .i64 a'.ni] 46)).heap.size = w4.heap.size + 1 := by simp
  have e2 : (w4.alloc (.cells #[.slice A' l'.cs.length c', .int .i64 l'.ph, .int .i64 l'.hv, .int .i64 l'.tr, .int .i64 l'.wt] 28)).heap.size = w4.heap.size + 1 := by simp
  have k1 := LB.start (w4.alloc (.cells #[.slice Z.A a'.sl.length Z.c, .slice Z.A2 a'.st.length Z.c2, .int .i64 a'.ow, .int .i64 a'.cap, .slice Z.A3 a'.dl.length Z.c3, .int .i64 a'.dir.vn, .slice Z.D.A a'.dir.l.length Z.D.c, .slice Z.D.A2 a'.dir.F.length Z.D.c2, .int .i64 a'.ep, .int .i64 a'.ck, .int .i64 a'.ni] 46)) l' A' c' 28
  have k2 := QB.start (w4.alloc (.cells #[.slice A' l'.cs.length c', .int .i64 l'.ph, .int .i64 l'.hv, .int .i64 l'.tr, .int .i64 l'.wt] 28)) a' Z 46
  rw [e1] at k1
  rw [e2] at k2
  exact ⟨⟨((H.below h4).below ((Below.refl _ _).alloc (Nat.le_refl _) _)).below ((Below.refl _ _).alloc (Nat.le_refl _) _), (QB.start w4 a' Z _).alloc _, k1, (hr.alloc _).alloc _, o1, ⟨(hf.alloc2 _).alloc2 _, o2, o3, o4⟩, by omega, by omega, by omega⟩,
    ⟨((H.below h4).below ((Below.refl _ _).alloc (Nat.le_refl _) _)).below ((Below.refl _ _).alloc (Nat.le_refl _) _), k2, (LB.start w4 l' A' c' _).alloc _, (hr.alloc _).alloc _, o1, ⟨(hf.alloc2 _).alloc2 _, o2, o3, o4⟩, by omega, by omega, by omega⟩⟩
/-- The arena's box was made before the call. -/
theorem jt3_2 (H : Jt2 w g pa b a Y Q wr) (hn : Z.nw (wr.alloc (.cells #[.slice none 0 0, .slice none 0 0, .int .i64 0, .int .i64 0, .slice none 0 0, .int .i64 0, .slice none 0 0, .slice none 0 0, .int .i64 0, .int .i64 0, .int .i64 0] 46)).drew.heap.size) (hm : Nw (wr.alloc (.cells #[.slice none 0 0, .slice none 0 0, .int .i64 0, .int .i64 0, .slice none 0 0, .int .i64 0, .slice none 0 0, .slice none 0 0, .int .i64 0, .int .i64 0, .int .i64 0] 46)).drew.heap.size A') (hr : AR w4 w4.heap.size a' Z) (hf : Fl w4 w4.heap.size (.slice A' l'.cs.length c') l'.cs) (hb : Below (wr.alloc (.cells #[.slice none 0 0, .slice none 0 0, .int .i64 0, .int .i64 0, .slice none 0 0, .int .i64 0, .slice none 0 0, .slice none 0 0, .int .i64 0, .int .i64 0, .int .i64 0] 46)).drew.heap.size (wr.alloc (.cells #[.slice none 0 0, .slice none 0 0, .int .i64 0, .int .i64 0, .slice none 0 0, .int .i64 0, .slice none 0 0, .slice none 0 0, .int .i64 0, .int .i64 0, .int .i64 0] 46)).drew w4) :
    QB w4 wr.heap.size zA zAx ∧ Jt3 w g pa b wr.heap.size w4.heap.size a Y Q a' Z ⟨l', A', c'⟩ ((set11 w4 wr.heap.size a' Z).alloc (.cells #[.slice A' l'.cs.length c', .int .i64 l'.ph, .int .i64 l'.hv, .int .i64 l'.tr, .int .i64 l'.wt] 28)) := by
  have h1 : Below wr.heap.size wr (wr.alloc (.cells #[.slice none 0 0, .slice none 0 0, .int .i64 0, .int .i64 0, .slice none 0 0, .int .i64 0, .slice none 0 0, .slice none 0 0, .int .i64 0, .int .i64 0, .int .i64 0] 46)).drew := ((Below.refl _ _).alloc (Nat.le_refl _) _).drew
  have h4 := h1.trans (hb.mono h1.size)
  obtain ⟨o1, o2, o3, o4⟩ := jt3_off (a' := a') (l' := l') H h1 hn hm
  have hlt := H.rb.lt
  have e : (wr.alloc (.cells #[.slice none 0 0, .slice none 0 0, .int .i64 0, .int .i64 0, .slice none 0 0, .int .i64 0, .slice none 0 0, .slice none 0 0, .int .i64 0, .int .i64 0, .int .i64 0] 46)).drew.heap.size = wr.heap.size + 1 := by simp
  have hq : QB w4 wr.heap.size zA zAx := ((QB.start wr zA zAx _).up ((Below.refl _ _).drew)).up hb
  rw [e] at hn hm
  have hu : wr.heap.size < w4.heap.size := hq.lt
  have hof : AOff a' Z wr.heap.size := hn.off (by omega)
  have hfo : OffB wr.heap.size l'.cs.length A' := offb_nw hm (by omega)
  have k1 := LB.start (set11 w4 wr.heap.size a' Z) l' A' c' 28
  rw [set11_size] at k1
  have hr' : AR (set11 w4 wr.heap.size a' Z) (set11 w4 wr.heap.size a' Z).heap.size a' Z := (hr.set11 hof a' Z).more (by rw [set11_size]; exact Nat.le_refl _)
  have hf' : Fl (set11 w4 wr.heap.size a' Z) (set11 w4 wr.heap.size a' Z).heap.size (.slice A' l'.cs.length c') l'.cs := (hf.set11 hfo a' Z).more (by rw [set11_size]; exact Nat.le_refl _)
  exact ⟨hq, (H.below (set11_below h4 (Nat.le_refl _) a' Z)).below ((Below.refl _ _).alloc (Nat.le_refl _) _), (hq.set a' Z).alloc _, k1, hr'.alloc _, o1, ⟨hf'.alloc2 _, o2, o3, o4⟩, hlt, by omega, by omega⟩
/-- The locker's box was made before the call. -/
theorem jt3_3 (H : Jt2 w g pa b a Y Q wr) (hn : Z.nw (wr.alloc (.cells #[.slice none 0 0, .int .i64 0, .int .i64 0, .int .i64 0, .int .i64 0] 28)).drew.heap.size) (hm : Nw (wr.alloc (.cells #[.slice none 0 0, .int .i64 0, .int .i64 0, .int .i64 0, .int .i64 0] 28)).drew.heap.size A') (hr : AR w4 w4.heap.size a' Z) (hf : Fl w4 w4.heap.size (.slice A' l'.cs.length c') l'.cs) (hb : Below (wr.alloc (.cells #[.slice none 0 0, .int .i64 0, .int .i64 0, .int .i64 0, .int .i64 0] 28)).drew.heap.size (wr.alloc (.cells #[.slice none 0 0, .int .i64 0, .int .i64 0, .int .i64 0, .int .i64 0] 28)).drew w4) :
    LB w4 wr.heap.size zK none 0 ∧ Jt3 w g pa b w4.heap.size wr.heap.size a Y Q a' Z ⟨l', A', c'⟩ ((set5 w4 wr.heap.size l' A' c').alloc (.cells #[.slice Z.A a'.sl.length Z.c, .slice Z.A2 a'.st.length Z.c2, .int .i64 a'.ow, .int .i64 a'.cap, .slice Z.A3 a'.dl.length Z.c3, .int .i64 a'.dir.vn, .slice Z.D.A a'.dir.l.length Z.D.c, .slice Z.D.A2 a'.dir.F.length Z.D.c2, .int .i64 a'.ep, .int .i64 a'.ck, .int .i64 a'.ni] 46)) := by
  have h1 : Below wr.heap.size wr (wr.alloc (.cells #[.slice none 0 0, .int .i64 0, .int .i64 0, .int .i64 0, .int .i64 0] 28)).drew := ((Below.refl _ _).alloc (Nat.le_refl _) _).drew
  have h4 := h1.trans (hb.mono h1.size)
  obtain ⟨o1, o2, o3, o4⟩ := jt3_off (a' := a') (l' := l') H h1 hn hm
  have hlt := H.rb.lt
  have e : (wr.alloc (.cells #[.slice none 0 0, .int .i64 0, .int .i64 0, .int .i64 0, .int .i64 0] 28)).drew.heap.size = wr.heap.size + 1 := by simp
  have hq : LB w4 wr.heap.size zK none 0 := ((LB.start wr zK none 0 _).up ((Below.refl _ _).drew)).up hb
  rw [e] at hn hm
  have hu : wr.heap.size < w4.heap.size := hq.lt
  have hof : AOff a' Z wr.heap.size := hn.off (by omega)
  have hfo : OffB wr.heap.size l'.cs.length A' := offb_nw hm (by omega)
  have k1 := QB.start (set5 w4 wr.heap.size l' A' c') a' Z 46
  rw [set5_size] at k1
  have hr' : AR (set5 w4 wr.heap.size l' A' c') (set5 w4 wr.heap.size l' A' c').heap.size a' Z := (hr.set5 hof l' A' c').more (by rw [set5_size]; exact Nat.le_refl _)
  have hf' : Fl (set5 w4 wr.heap.size l' A' c') (set5 w4 wr.heap.size l' A' c').heap.size (.slice A' l'.cs.length c') l'.cs := (hf.set5 hfo l' A' c').more (by rw [set5_size]; exact Nat.le_refl _)
  exact ⟨hq, (H.below (set5_below h4 (Nat.le_refl _) l' A' c')).below ((Below.refl _ _).alloc (Nat.le_refl _) _), k1, (hq.set l' A' c').alloc _, hr'.alloc _, o1, ⟨hf'.alloc2 _, o2, o3, o4⟩, by omega, hlt, by omega⟩
/-- Both were. -/
theorem jt3_both {u v : Nat} (H : Jt2 w g pa b a Y Q wr) (h1 : Below wr.heap.size wr W) (hn : Z.nw W.heap.size) (hm : Nw W.heap.size A') (hr : AR w4 w4.heap.size a' Z) (hf : Fl w4 w4.heap.size (.slice A' l'.cs.length c') l'.cs) (hb : Below W.heap.size W w4) (hqu : QB w4 u zA zAx) (hqv : LB w4 v zK none 0) (hu : wr.heap.size ≤ u ∧ u < W.heap.size) (hv : wr.heap.size ≤ v ∧ v < W.heap.size) (hne : u ≠ v) :
    Jt3 w g pa b u v a Y Q a' Z ⟨l', A', c'⟩ (set5 (set11 w4 u a' Z) v l' A' c') := by
  have h4 := h1.trans (hb.mono h1.size)
  obtain ⟨o1, o2, o3, o4⟩ := jt3_off (a' := a') (l' := l') H h1 hn hm
  have hlt := H.rb.lt
  exact ⟨H.below (set5_below (set11_below h4 hu.1 a' Z) hv.1 l' A' c'), (hqu.set a' Z).set5 (fun e => hne e.symm) l' A' c', (hqv.set11 hne a' Z).set l' A' c', ((hr.set11 (hn.off hu.2) a' Z).set5 (hn.off hv.2) l' A' c').more (by rw [set5_size, set11_size]; exact Nat.le_refl _), o1, ⟨((hf.set11 (offb_nw hm hu.2) a' Z).set5 (offb_nw hm hv.2) l' A' c').more (by rw [set5_size, set11_size]; exact Nat.le_refl _), o2, o3, o4⟩, by omega, by omega, hne⟩
theorem jt3_4 (H : Jt2 w g pa b a Y Q wr) (hn : Z.nw ((wr.alloc (.cells #[.slice none 0 0, .slice none 0 0, .int .i64 0, .int .i64 0, .slice none 0 0, .int .i64 0, .slice none 0 0, .slice none 0 0, .int .i64 0, .int .i64 0, .int .i64 0] 46)).alloc (.cells #[.slice none 0 0, .int .i64 0, .int .i64 0, .int .i64 0, .int .i64 0] 28)).drew.heap.size) (hm : Nw ((wr.alloc (.cells #[.slice none 0 0, .slice none 0 0, .int .i64 0, .int .i64 0, .slice none 0 0, .int .i64 0, .slice none 0 0, .slice none 0 0, .int .i64 0, .int .i64 0, .int .i64 0] 46)).alloc (.cells #[.slice none 0 0, .int .i64 0, .int .i64 0, .int .i64 0, .int .i64 0] 28)).drew.heap.size A') (hr : AR w4 w4.heap.size a' Z) (hf : Fl w4 w4.heap.size (.slice A' l'.cs.length c') l'.cs) (hb : Below ((wr.alloc (.cells #[.slice none 0 0, .slice none 0 0, .int .i64 0, .int .i64 0, .slice none 0 0, .int .i64 0, .slice none 0 0, .slice none 0 0, .int .i64 0, .int .i64 0, .int .i64 0] 46)).alloc (.cells #[.slice none 0 0, .int .i64 0, .int .i64 0, .int .i64 0, .int .i64 0] 28)).drew.heap.size ((wr.alloc (.cells #[.slice none 0 0, .slice none 0 0, .int .i64 0, .int .i64 0, .slice none 0 0, .int .i64 0, .slice none 0 0, .slice none 0 0, .int .i64 0, .int .i64 0, .int .i64 0] 46)).alloc (.cells #[.slice none 0 0, .int .i64 0, .int .i64 0, .int .i64 0, .int .i64 0] 28)).drew w4) :
    QB w4 wr.heap.size zA zAx ∧ LB w4 (wr.heap.size + 1) zK none 0 ∧ Jt3 w g pa b wr.heap.size (wr.heap.size + 1) a Y Q a' Z ⟨l', A', c'⟩ (set5 (set11 w4 wr.heap.size a' Z) (wr.heap.size + 1) l' A' c') := by
  have h1 : Below wr.heap.size wr ((wr.alloc (.cells #[.slice none 0 0, .slice none 0 0, .int .i64 0, .int .i64 0, .slice none 0 0, .int .i64 0, .slice none 0 0, .slice none 0 0, .int .i64 0, .int .i64 0, .int .i64 0] 46)).alloc (.cells #[.slice none 0 0, .int .i64 0, .int .i64 0, .int .i64 0, .int .i64 0] 28)).drew := (((Below.refl _ _).alloc (Nat.le_refl _) _).alloc (by simp) _).drew
  have k1 := LB.start (wr.alloc (.cells #[.slice none 0 0, .slice none 0 0, .int .i64 0, .int .i64 0, .slice none 0 0, .int .i64 0, .slice none 0 0, .slice none 0 0, .int .i64 0, .int .i64 0, .int .i64 0] 46)) zK none 0 28
  rw [show (wr.alloc (.cells #[.slice none 0 0, .slice none 0 0, .int .i64 0, .int .i64 0, .slice none 0 0, .int .i64 0, .slice none 0 0, .slice none 0 0, .int .i64 0, .int .i64 0, .int .i64 0] 46)).heap.size = wr.heap.size + 1 by simp] at k1
  have hq := (((QB.start wr zA zAx 46).alloc (.cells #[.slice none 0 0, .int .i64 0, .int .i64 0, .int .i64 0, .int .i64 0] 28)).up ((Below.refl _ _).drew)).up hb
  have hv := (k1.up ((Below.refl _ _).drew)).up hb
  have e : ((wr.alloc (.cells #[.slice none 0 0, .slice none 0 0, .int .i64 0, .int .i64 0, .slice none 0 0, .int .i64 0, .slice none 0 0, .slice none 0 0, .int .i64 0, .int .i64 0, .int .i64 0] 46)).alloc (.cells #[.slice none 0 0, .int .i64 0, .int .i64 0, .int .i64 0, .int .i64 0] 28)).drew.heap.size = wr.heap.size + 2 := by simp
  exact ⟨hq, hv, jt3_both H h1 hn hm hr hf hb hq hv ⟨Nat.le_refl _, by omega⟩ ⟨by omega, by omega⟩ (by omega)⟩
theorem jt3_5 (H : Jt2 w g pa b a Y Q wr) (hn : Z.nw ((wr.alloc (.cells #[.slice none 0 0, .int .i64 0, .int .i64 0, .int .i64 0, .int .i64 0] 28)).alloc (.cells #[.slice none 0 0, .slice none 0 0, .int .i64 0, .int .i64 0, .slice none 0 0, .int .i64 0, .slice none 0 0, .slice none 0 0, .int .i64 0, .int .i64 0, .int .i64 0] 46)).drew.heap.size) (hm : Nw ((wr.alloc (.cells #[.slice none 0 0, .int .i64 0, .int .i64 0, .int .i64 0, .int .i64 0] 28)).alloc (.cells #[.slice none 0 0, .slice none 0 0, .int .i64 0, .int .i64 0, .slice none 0 0, .int .i64 0, .slice none 0 0, .slice none 0 0, .int .i64 0, .int .i64 0, .int .i64 0] 46)).drew.heap.size A') (hr : AR w4 w4.heap.size a' Z) (hf : Fl w4 w4.heap.size (.slice A' l'.cs.length c') l'.cs) (hb : Below ((wr.alloc (.cells #[.slice none 0 0, .int .i64 0, .int .i64 0, .int .i64 0, .int .i64 0] 28)).alloc (.cells #[.slice none 0 0, .slice none 0 0, .int .i64 0, .int .i64 0, .slice none 0 0, .int .i64 0, .slice none 0 0, .slice none 0 0, .int .i64 0, .int .i64 0, .int .i64 0] 46)).drew.heap.size ((wr.alloc (.cells #[.slice none 0 0, .int .i64 0, .int .i64 0, .int .i64 0, .int .i64 0] 28)).alloc (.cells #[.slice none 0 0, .slice none 0 0, .int .i64 0, .int .i64 0, .slice none 0 0, .int .i64 0, .slice none 0 0, .slice none 0 0, .int .i64 0, .int .i64 0, .int .i64 0] 46)).drew w4) :
    QB w4 (wr.heap.size + 1) zA zAx ∧ LB w4 wr.heap.size zK none 0 ∧ Jt3 w g pa b (wr.heap.size + 1) wr.heap.size a Y Q a' Z ⟨l', A', c'⟩ (set5 (set11 w4 (wr.heap.size + 1) a' Z) wr.heap.size l' A' c') := by
  have h1 : Below wr.heap.size wr ((wr.alloc (.cells #[.slice none 0 0, .int .i64 0, .int .i64 0, .int .i64 0, .int .i64 0] 28)).alloc (.cells #[.slice none 0 0, .slice none 0 0, .int .i64 0, .int .i64 0, .slice none 0 0, .int .i64 0, .slice none 0 0, .slice none 0 0, .int .i64 0, .int .i64 0, .int .i64 0] 46)).drew := (((Below.refl _ _).alloc (Nat.le_refl _) _).alloc (by simp) _).drew
  have k1 := QB.start (wr.alloc (.cells #[.slice none 0 0, .int .i64 0, .int .i64 0, .int .i64 0, .int .i64 0] 28)) zA zAx 46
  rw [show (wr.alloc (.cells #[.slice none 0 0, .int .i64 0, .int .i64 0, .int .i64 0, .int .i64 0] 28)).heap.size = wr.heap.size + 1 by simp] at k1
  have hq := (k1.up ((Below.refl _ _).drew)).up hb
  have hv := (((LB.start wr zK none 0 28).alloc (.cells #[.slice none 0 0, .slice none 0 0, .int .i64 0, .int .i64 0, .slice none 0 0, .int .i64 0, .slice none 0 0, .slice none 0 0, .int .i64 0, .int .i64 0, .int .i64 0] 46)).up ((Below.refl _ _).drew)).up hb
  have e : ((wr.alloc (.cells #[.slice none 0 0, .int .i64 0, .int .i64 0, .int .i64 0, .int .i64 0] 28)).alloc (.cells #[.slice none 0 0, .slice none 0 0, .int .i64 0, .int .i64 0, .slice none 0 0, .int .i64 0, .slice none 0 0, .slice none 0 0, .int .i64 0, .int .i64 0, .int .i64 0] 46)).drew.heap.size = wr.heap.size + 2 := by simp
  exact ⟨hq, hv, jt3_both H h1 hn hm hr hf hb hq hv ⟨by omega, by omega⟩ ⟨Nat.le_refl _, by omega⟩ (by omega)⟩
end
end Go.Proofs.Ytommkhjgockpfaa
/- Plain: what the statements about several lockers hold from turn to turn. -/
namespace Go.Proofs.Ytommkhjgockpfaa
open Go.RowKit
set_option linter.unusedVariables false

/-- Lockers and their arena. -/
structure Tv13 (n m : Nat) (a : Ar) (Q : List Lc) (T : Int) : Prop where
  ql : Q.length = m
  sl : a.sl.length = n
  fw : a.Few
  iv : Iv13 n T a.own (Q.map Lc.l)
theorem map_at {Q : List Lc} {k : Nat} {t : Lc} (h : Q[k]? = some t) : (Q.map Lc.l)[k]? = some t.l := by rw [List.getElem?_map, h]; rfl
section
variable {n m k : Nat} {a : Ar} {Q : List Lc} {T T' : Int} {t : Lc} {A : Option Addr} {c : Nat}
theorem Tv13.mono (h : Tv13 n m a Q T) (ht : T ≤ T') : Tv13 n m a Q T' := ⟨h.ql, h.sl, h.fw, ⟨fun j l hj => (h.iv.ok j l hj).mono ht, h.iv.own, h.iv.fr⟩⟩
theorem Tv13.sm (h : Tv13 n m a Q T) (ht : T ≤ 1000000) (hk : Q[k]? = some t) : t.l.sm := (h.iv.ok _ _ (map_at hk)).sm ht
theorem Tv13.ph (h : Tv13 n m a Q T) (hk : Q[k]? = some t) : (t.l.ph = 0 → 0 ≤ t.l.hv ∧ t.l.hv < t.l.cs.length) ∧ (t.l.ph = 1 ∨ t.l.ph = 4 → 1 ≤ t.l.hv ∧ t.l.hv ≤ t.l.cs.length) := by
  have g := h.iv.ok _ _ (map_at hk)
  have h1 := g.hv
  have h2 := g.p
  exact ⟨fun h0 => by omega, fun h0 => by omega⟩
theorem Tv13.free (h : Tv13 n m a Q T) (hk : Q[k]? = some t) (h3 : t.l.ph = 3) : Tv13 n m a (Q.set k ⟨frL t.l, A, c⟩) T := by
  refine ⟨by rw [List.length_set]; exact h.ql, h.sl, h.fw, ?_⟩
  rw [List.map_set]
  exact h.iv.free (map_at hk) h3
/-- A step of the locker k. -/
theorem Tv13.step (h : Tv13 n m a Q T) (hk : Q[k]? = some t) (hp : t.l.ph ≠ 3 ∧ t.l.ph ≠ 5) (hm : m ≤ 6) :
    stE13 a t.l ((k : Int) + 1) = 0 ∧ St13 n a.own k t.l (stA13 a t.l ((k : Int) + 1)).own (stL13 a t.l ((k : Int) + 1)) ∧ Tv13 n m (stA13 a t.l ((k : Int) + 1)) (Q.set k ⟨stL13 a t.l ((k : Int) + 1), A, c⟩) (T + 1) := by
  have hkl := (List.getElem?_eq_some_iff.1 hk).1
  have hq := h.ql
  obtain ⟨e1, e2, e3, e4⟩ := step_st h.iv h.sl h.fw (map_at hk) (by omega) hp
  refine ⟨e1, e2, by rw [List.length_set]; exact h.ql, e3, e4, ?_⟩
  rw [List.map_set]
  exact h.iv.step (map_at hk) e2
end
/-- At the head of a round. -/
structure Out13 (n m r lf : Nat) (a : Ar) (Q : List Lc) : Prop where
  tv : Tv13 n m a Q ((6 * r : Nat) : Int)
  br : (0 < lf ∧ ((∃ P j, Pot13 n a.own (Q.map Lc.l) P j ∧ r + P ≤ 150) ∨ (Done13 (Q.map Lc.l) ∧ r ≤ 151))) ∨ (lf = 0 ∧ Done13 (Q.map Lc.l) ∧ r ≤ 152)
  lm : lf ≤ m
section
variable {n m r k lf : Nat} {a : Ar} {Q : List Lc} {t : Lc} {A : Option Addr} {c : Nat}
theorem Out13.lt (h : Out13 n m r lf a Q) (h0 : 0 < lf) : r ≤ 151 := by
  rcases h.br with ⟨_, ⟨P, j, _, hp⟩ | ⟨_, hr⟩⟩ | ⟨h1, _⟩ <;> omega
theorem Out13.le (h : Out13 n m r lf a Q) : r ≤ 152 := by
  rcases h.br with ⟨_, ⟨P, j, _, hp⟩ | ⟨_, hr⟩⟩ | ⟨_, _, h1⟩ <;> omega
theorem Out13.done (h : Out13 n m r 0 a Q) : Done13 (Q.map Lc.l) := by
  rcases h.br with ⟨h1, _⟩ | ⟨_, h2, _⟩
  · omega
  · exact h2
theorem out_start {hQ : ∀ t ∈ Q, Ok0 n t.l} (hq : Q.length = m) (hm : 1 ≤ m) (hm6 : m ≤ 6) (hs : a.sl.length = n) (hf : a.Few) (ho : ∀ c, c ≤ n → a.own c = 0) : Out13 n m 0 m a Q := by
  have hL : ∀ l ∈ Q.map Lc.l, Ok0 n l := fun l hl => by
    obtain ⟨t, ht, rfl⟩ := List.mem_map.1 hl
    exact hQ t ht
  refine ⟨⟨hq, hs, hf, iv_start hL ho⟩, .inl ⟨by omega, .inl ?_⟩, Nat.le_refl _⟩
  have h0 : 0 < (Q.map Lc.l).length := by rw [List.length_map]; omega
  have hu := un_le (Q.map Lc.l)
  rw [List.length_map] at hu
  have hx := hL _ (List.getElem_mem h0)
  exact ⟨_, 0, .none _ (List.getElem?_eq_getElem h0) ho (.inl ⟨hx.2.1, rfl⟩), by omega⟩
theorem Jt3.put {w W : World} {g pa b u v : Nat} {Y Z : Ax} {a' : Ar} (h : Jt3 w g pa b u v a Y Q a' Z t W) (hk : k < Q.length) : Jt2 w g pa b a' Z (Q.set k t) (sets5 (set11 W pa a' Z) b (k * 5) t) :=
  (h.j2.putA h.ar h.ao).putK hk ⟨(h.lx.fl.set11 h.lx.oa a' Z).more (by rw [set11_size]; exact Nat.le_refl _), h.lx.oa, h.lx.ob, h.lx.og⟩
theorem Jt2.drew {w W : World} {g pa b : Nat} {Y : Ax} (h : Jt2 w g pa b a Y Q W) : Jt2 w g pa b a Y Q W.drew := h.below (Below.refl _ _).drew
end
end Go.Proofs.Ytommkhjgockpfaa
/- Plain: a row of lockers begins. -/
namespace Go.Proofs.Ytommkhjgockpfaa
open Go.RowKit
set_option linter.unusedVariables false

theorem Jb1.start {w W W' : World} {g : Nat} {a : Ar} {Y : Ax} (hs : SrcAt W w.heap.size g) (hn : Y.nw W.heap.size) (hr : AR W' W'.heap.size a Y) (hb : Below W.heap.size W W') (hB : Below w.heap.size w W) : Jb1 w g W'.heap.size a Y none 0 [] (W'.alloc (.cells #[.slice Y.A a.sl.length Y.c, .slice Y.A2 a.st.length Y.c2, .int .i64 a.ow, .int .i64 a.cap, .slice Y.A3 a.dl.length Y.c3, .int .i64 a.dir.vn, .slice Y.D.A a.dir.l.length Y.D.c, .slice Y.D.A2 a.dir.F.length Y.D.c2, .int .i64 a.ep, .int .i64 a.ck, .int .i64 a.ni] 46)) := by
  have hsz := hb.size
  have hg := hs.2.1
  have hal := (Below.refl W'.heap.size W').alloc (Nat.le_refl _) (.cells #[.slice Y.A a.sl.length Y.c, .slice Y.A2 a.st.length Y.c2, .int .i64 a.ow, .int .i64 a.cap, .slice Y.A3 a.dl.length Y.c3, .int .i64 a.dir.vn, .slice Y.D.A a.dir.l.length Y.D.c, .slice Y.D.A2 a.dir.F.length Y.D.c2, .int .i64 a.ep, .int .i64 a.ck, .int .i64 a.ni] 46)
  exact ⟨(hs.below hb).below hal, QB.start W' a Y _, hr.alloc _, ⟨hr.offs (Nat.le_refl _), hn.off hg⟩, World.ownsRow_nil _ _ _ _, fun t ht => absurd ht (by simp), fun b e => by simp [Value.ownBlock] at e, ⟨hs.1, by omega⟩, (hB.trans (hb.mono hB.size)).alloc (Nat.le_trans hB.size hb.size) _⟩
theorem nw_ow {s : Su} (hs : s.Ok) : (nwA s).ow = 0 := by
  rw [show nwA s = grA s s.sl.toNat s.sl.toNat s.dd from if_pos (suB_iff.2 hs)]
  rfl
theorem own_all {A0 : Ar} {n : Nat} (h : Ca12 A0 n) (h0 : A0.ow = 0) (c : Nat) (hc : c ≤ n) : A0.own c = 0 := by
  rcases Nat.lt_or_ge c n with h1 | h1
  · exact h.ow c h1
  · unfold Ar.own
    rw [if_pos (by rw [h.sl]; omega)]
    exact h0
theorem LB.z {w : World} (t : TypeId) : LB (w.alloc (.cells #[.slice none 0 0, .int .i64 0, .int .i64 0, .int .i64 0, .int .i64 0] t)) w.heap.size zK none 0 := LB.start w zK none 0 t
end Go.Proofs.Ytommkhjgockpfaa
