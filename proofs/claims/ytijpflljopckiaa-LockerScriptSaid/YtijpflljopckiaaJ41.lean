/- What is proved here: arena.LoadSlot, and StoreSlot by a task that has not locked the slot, by contracts; what the calls of the statement ArenaCells give on its arena; Jk; in the statements of layer 13, some gives cells in ascending order; Jkp. -/
import Derived.Test.YtijpflljopckiaaJ36
import Derived.Deep.DeepCutAuto
import Derived.Deep.RegionHeld3
import Derived.Test.YtijpflljopckiaaJ40
import Derived.Test.YtijpflljopckiaaJ13
import Derived.Deep.AppendLies
namespace Go.Proofs.Ytijpflljopckiaa
open Go.RowKit
set_option linter.unusedVariables false

/-- An arena's box and a result's of a shard. -/
structure Ls12 (w : World) (p r : Nat) (a : Ar) (Y : Ax) (W : World) : Prop where
  aw : Aw12 w p a Y W
  rb : SB8 W r zS zX
  rn : w.heap.size ≤ r ∧ p < r
theorem Ls12.below {w W W' : World} {p r : Nat} {a : Ar} {Y : Ax} (h : Ls12 w p r a Y W) (hb : Below W.heap.size W W') : Ls12 w p r a Y W' := ⟨h.aw.below hb, h.rb.up hb, h.rn⟩
theorem Ls12.start {w : World} {a : Ar} {Y : Ax} (har : AR w w.heap.size a Y) : Ls12 w w.heap.size (w.heap.size + 1) a Y ((w.alloc (.cells #[.slice Y.A a.sl.length Y.c, .slice Y.A2 a.st.length Y.c2, .int .i64 a.ow, .int .i64 a.cap, .slice Y.A3 a.dl.length Y.c3, .int .i64 a.dir.vn, .slice Y.D.A a.dir.l.length Y.D.c, .slice Y.D.A2 a.dir.F.length Y.D.c2, .int .i64 a.ep, .int .i64 a.ck, .int .i64 a.ni] 36)).alloc (.cells #[.bool false, .int .i64 0, .int .i64 0, .slice none 0 0, .int .i64 0, .int .i64 0, .slice none 0 0, .slice none 0 0] 85)) := by
  have h1 := SB8.zero (w.alloc (.cells #[.slice Y.A a.sl.length Y.c, .slice Y.A2 a.st.length Y.c2, .int .i64 a.ow, .int .i64 a.cap, .slice Y.A3 a.dl.length Y.c3, .int .i64 a.dir.vn, .slice Y.D.A a.dir.l.length Y.D.c, .slice Y.D.A2 a.dir.F.length Y.D.c2, .int .i64 a.ep, .int .i64 a.ck, .int .i64 a.ni] 36)) 85
  rw [show (w.alloc (.cells #[.slice Y.A a.sl.length Y.c, .slice Y.A2 a.st.length Y.c2, .int .i64 a.ow, .int .i64 a.cap, .slice Y.A3 a.dl.length Y.c3, .int .i64 a.dir.vn, .slice Y.D.A a.dir.l.length Y.D.c, .slice Y.D.A2 a.dir.F.length Y.D.c2, .int .i64 a.ep, .int .i64 a.ck, .int .i64 a.ni] 36)).heap.size = w.heap.size + 1 by simp] at h1
  exact ⟨(Aw12.start (Below.refl _ _) har).below ((Below.refl _ _).alloc (Nat.le_refl _) _), h1, by omega, by omega⟩
end Go.Proofs.Ytijpflljopckiaa
namespace Go.Proofs.Ytijpflljopckiaa
open Go.RowKit
set_option linter.unusedVariables false

/-- What is known of the arena. -/
structure Ca12 (a : Ar) (n : Nat) : Prop where
  sl : a.sl.length = n
  st : a.st.length = n
  fw : a.Few
  sq : ∀ i, i < n → (tg a.st i).sq = 0
  ow : ∀ i, i < n → a.own i = 0
theorem ca_nw {s : Su} (hs : s.Ok) : nwAE s = 0 ∧ ∃ n, 0 < n ∧ n ≤ 6 ∧ Ca12 (nwA s) n := by
  have hb := suB_iff.2 hs
  refine ⟨if_pos hb, s.sl.toNat, ?_⟩
  have hf := few_nw hb
  have hok := hs
  unfold Su.Ok at hok
  have e : nwA s = grA s s.sl.toNat s.sl.toNat s.dd := if_pos hb
  rw [e] at hf ⊢
  refine ⟨by omega, by omega, grA_sl _ _ _ _, grA_st _ _ _ _, hf, fun i hi => ?_, fun i hi => ?_⟩
  · show ((List.replicate s.sl.toNat (stE s)).getD i zSt).sq = 0
    rw [List.getD_eq_getElem?_getD, List.getElem?_replicate, if_pos hi]
    rfl
  · unfold Ar.own
    rw [grA_sl, if_neg (by omega), og_get (by rw [grA_sl]; exact hi)]
    simp [grA, nwSl]
section
variable {a : Ar} {n v : Nat} {t m : Int}
theorem Ar.Few.stripe (h : a.Few) (i : Nat) (s : St) : (a.setSt i s).Few := ⟨h.sl, by show (a.st.set i s).length ≤ 1000; rw [List.length_set]; exact h.st, h.dl, h.dr, h.sh⟩
end
end Go.Proofs.Ytijpflljopckiaa
/- Plain: lockers that are stepped in turn: who owns what, and that all come to an end. -/
namespace Go.Proofs.Ytijpflljopckiaa
open Go.RowKit
set_option linter.unusedVariables false

/-- How many cells a locker has. -/
def Lk.h (l : Lk) : Nat := l.hv.toNat
/-- A locker that comes from New and Step. -/
structure Ok13 (N : Nat) (T : Int) (l : Lk) : Prop where
  l1 : 1 ≤ l.cs.length
  l3 : l.cs.length ≤ 3
  asc : ∀ i j, i < j → j < l.cs.length → ig l.cs i < ig l.cs j
  rng : ∀ i, i < l.cs.length → 0 ≤ ig l.cs i ∧ ig l.cs i ≤ N
  hv : l.hv = (l.h : Int)
  tr : 0 ≤ l.tr ∧ l.tr ≤ T
  wt : 0 ≤ l.wt ∧ l.wt ≤ 3
  p : (l.ph = 0 ∧ l.h < l.cs.length) ∨ (l.ph = 1 ∧ 1 ≤ l.h ∧ l.h < l.cs.length) ∨ (l.ph = 2 ∧ l.h = 0 ∧ 1 ≤ l.wt) ∨ (l.ph = 3 ∧ l.h = l.cs.length) ∨ (l.ph = 4 ∧ 1 ≤ l.h ∧ l.h ≤ l.cs.length) ∨ (l.ph = 5 ∧ l.h = 0)
theorem Ok13.mono {N : Nat} {T T' : Int} {l : Lk} (h : Ok13 N T l) (ht : T ≤ T') : Ok13 N T' l := ⟨h.l1, h.l3, h.asc, h.rng, h.hv, ⟨h.tr.1, Int.le_trans h.tr.2 ht⟩, h.wt, h.p⟩
theorem Ok13.hle {N : Nat} {T : Int} {l : Lk} (h : Ok13 N T l) : l.h ≤ l.cs.length := by have := h.p; omega
theorem Ok13.sm {N : Nat} {T : Int} {l : Lk} (h : Ok13 N T l) (ht : T ≤ 1000000) : l.sm := by
  have h1 := h.hv; have h2 := h.hle; have h3 := h.l3; have h4 := h.tr; have h5 := h.wt
  exact ⟨by omega, by omega, by omega, by omega⟩
/-- A locker has a cell. -/
def Hl (l : Lk) (c : Nat) : Prop := ∃ i, i < l.h ∧ ig l.cs i = (c : Int)
/-- Who owns what. -/
structure Iv13 (N : Nat) (T : Int) (o : Nat → Int) (L : List Lk) : Prop where
  ok : ∀ (j : Nat) (l : Lk), L[j]? = some l → Ok13 N T l
  own : ∀ (j : Nat) (l : Lk) (c : Nat), L[j]? = some l → c ≤ N → (o c = (j : Int) + 1 ↔ Hl l c)
  fr : ∀ c : Nat, c ≤ N → o c = 0 ∨ ∃ j : Nat, j < L.length ∧ o c = (j : Int) + 1
/-- One owner is another. -/
def Upd (N : Nat) (o : Nat → Int) (c : Nat) (v : Int) (o' : Nat → Int) : Prop := ∀ x, x ≤ N → o' x = if x = c then v else o x
/-- A step of the locker k. -/
inductive St13 (N : Nat) (o : Nat → Int) (k : Nat) (l : Lk) : (Nat → Int) → Lk → Prop
  | acq (c : Nat) (o' : Nat → Int) : l.ph = 0 → l.h < l.cs.length → ig l.cs l.h = (c : Int) → c ≤ N → o c = 0 → Upd N o c ((k : Int) + 1) o' → St13 N o k l o' ⟨l.cs, if l.hv + 1 = l.cs.length then 3 else l.ph, l.hv + 1, l.tr, l.wt⟩
  | fail (c : Nat) (o' : Nat → Int) : l.ph = 0 → l.h < l.cs.length → ig l.cs l.h = (c : Int) → c ≤ N → o c ≠ 0 → (∀ x, x ≤ N → o' x = o x) → St13 N o k l o' (if 0 < l.hv then ⟨l.cs, 1, l.hv, l.tr, l.wt⟩ else l)
  | rel (c : Nat) (o' : Nat → Int) : l.ph = 1 ∨ l.ph = 4 → 1 ≤ l.h → l.h ≤ l.cs.length → ig l.cs (l.h - 1) = (c : Int) → c ≤ N → o c = (k : Int) + 1 → Upd N o c 0 o' → St13 N o k l o' (gbL l)
  | pause (o' : Nat → Int) : l.ph = 2 → (∀ x, x ≤ N → o' x = o x) → St13 N o k l o' (pzL l)
theorem set_some {L : List Lk} {k : Nat} {l l' : Lk} (h : L[k]? = some l) (j : Nat) (x : Lk) : (L.set k l')[j]? = some x ↔ (j = k ∧ x = l') ∨ (j ≠ k ∧ L[j]? = some x) := by
  have hk := (List.getElem?_eq_some_iff.1 h).1
  by_cases e : j = k
  · subst e
    rw [List.getElem?_set_self hk]
    simp [eq_comm]
  · rw [List.getElem?_set_ne (fun e' => e e'.symm)]
    simp [e]
section
variable {N : Nat} {T : Int} {o o' : Nat → Int} {L : List Lk} {k : Nat} {l l' : Lk}
theorem Ok13.step (h : Ok13 N T l) (hs : St13 N o k l o' l') : Ok13 N (T + 1) l' := by
  have h1 := h.hv; have h2 := h.l1; have h3 := h.l3; have h4 := h.tr; have h5 := h.wt; have hp := h.p
  cases hs with
  | acq c _ p0 hl hc hn h0 hu =>
    have e : (⟨l.cs, if l.hv + 1 = l.cs.length then 3 else l.ph, l.hv + 1, l.tr, l.wt⟩ : Lk).h = l.h + 1 := by show (l.hv + 1).toNat = l.h + 1; omega
    refine ⟨h2, h3, h.asc, h.rng, by rw [e]; show l.hv + 1 = _; omega, ⟨h4.1, by show l.tr ≤ _; omega⟩, h5, ?_⟩
    rw [e]
    show ((if l.hv + 1 = l.cs.length then 3 else l.ph) = 0 ∧ _) ∨ _
    by_cases hx : l.hv + 1 = l.cs.length
    · simp only [if_pos hx]
      exact .inr (.inr (.inr (.inl ⟨by first | rfl | trivial, by show l.h + 1 = l.cs.length; omega⟩)))
    · simp only [if_neg hx]
      exact .inl ⟨p0, by show l.h + 1 < l.cs.length; omega⟩
  | fail c _ p0 hl hc hn h0 hu =>
    by_cases hx : 0 < l.hv
    · rw [if_pos hx]
      exact ⟨h2, h3, h.asc, h.rng, h1, ⟨h4.1, by show l.tr ≤ _; omega⟩, h5, .inr (.inl ⟨rfl, by show 1 ≤ l.h; omega, hl⟩)⟩
    · rw [if_neg hx]
      exact h.mono (by omega)
  | rel c _ p0 hl1 hl hc hn h0 hu =>
    unfold gbL
    by_cases hx : 0 < l.hv - 1
    · rw [if_pos hx]
      have e : (⟨l.cs, l.ph, l.hv - 1, l.tr, l.wt⟩ : Lk).h = l.h - 1 := by show (l.hv - 1).toNat = l.h - 1; omega
      refine ⟨h2, h3, h.asc, h.rng, by rw [e]; show l.hv - 1 = _; omega, ⟨h4.1, by show l.tr ≤ _; omega⟩, h5, ?_⟩
      rw [e]
      show (l.ph = 0 ∧ l.h - 1 < l.cs.length) ∨ (l.ph = 1 ∧ 1 ≤ l.h - 1 ∧ l.h - 1 < l.cs.length) ∨ (l.ph = 2 ∧ l.h - 1 = 0 ∧ 1 ≤ l.wt) ∨ (l.ph = 3 ∧ l.h - 1 = l.cs.length) ∨ (l.ph = 4 ∧ 1 ≤ l.h - 1 ∧ l.h - 1 ≤ l.cs.length) ∨ (l.ph = 5 ∧ l.h - 1 = 0)
      omega
    · rw [if_neg hx]
      by_cases h4' : l.ph = 4
      · rw [if_pos h4']
        exact ⟨h2, h3, h.asc, h.rng, by show l.hv - 1 = ((l.hv - 1).toNat : Int); omega, ⟨h4.1, by show l.tr ≤ _; omega⟩, h5, .inr (.inr (.inr (.inr (.inr ⟨rfl, by show (l.hv - 1).toNat = 0; omega⟩))))⟩
      · rw [if_neg h4']
        exact ⟨h2, h3, h.asc, h.rng, by show l.hv - 1 = ((l.hv - 1).toNat : Int); omega, ⟨by show 0 ≤ l.tr + 1; omega, by show l.tr + 1 ≤ _; omega⟩, by show 0 ≤ min (l.tr + 1) 3 ∧ min (l.tr + 1) 3 ≤ 3; omega, .inr (.inr (.inl ⟨rfl, by show (l.hv - 1).toNat = 0; omega, by show 1 ≤ min (l.tr + 1) 3; omega⟩))⟩
  | pause _ p0 hu =>
    have e : l.h = 0 ∧ 1 ≤ l.wt := by omega
    refine ⟨h2, h3, h.asc, h.rng, h1, ⟨h4.1, by show l.tr ≤ _; omega⟩, by show 0 ≤ l.wt - 1 ∧ l.wt - 1 ≤ 3; omega, ?_⟩
    show ((if l.wt - 1 = 0 then 0 else l.ph) = 0 ∧ l.h < l.cs.length) ∨ ((if l.wt - 1 = 0 then 0 else l.ph) = 1 ∧ _) ∨ ((if l.wt - 1 = 0 then 0 else l.ph) = 2 ∧ l.h = 0 ∧ 1 ≤ l.wt - 1) ∨ _
    by_cases hx : l.wt - 1 = 0
    · rw [if_pos hx]
      exact .inl ⟨rfl, by omega⟩
    · rw [if_neg hx]
      exact .inr (.inr (.inl ⟨p0, e.1, by omega⟩))
/-- What a step does to what the locker has. -/
theorem hl_step (h : Ok13 N T l) (hs : St13 N o k l o' l') (ho : ∀ c, c ≤ N → (o c = (k : Int) + 1 ↔ Hl l c)) (c : Nat) (hc : c ≤ N) : o' c = (k : Int) + 1 ↔ Hl l' c := by
  have h1 := h.hv; have hp := h.p
  cases hs with
  | acq d _ p0 hl hd hn h0 hu =>
    rw [hu c hc]
    have e : (⟨l.cs, if l.hv + 1 = l.cs.length then 3 else l.ph, l.hv + 1, l.tr, l.wt⟩ : Lk).h = l.h + 1 := by show (l.hv + 1).toNat = l.h + 1; omega
    by_cases hcd : c = d
    · subst hcd
      rw [if_pos rfl]
      exact ⟨fun _ => ⟨l.h, by rw [e]; omega, hd⟩, fun _ => rfl⟩
    · rw [if_neg hcd, ho c hc]
      constructor
      · rintro ⟨i, hi, hx⟩
        exact ⟨i, by rw [e]; omega, hx⟩
      · rintro ⟨i, hi, hx⟩
        rw [e] at hi
        by_cases hil : i = l.h
        · subst hil
          have hx' : ig l.cs l.h = (c : Int) := hx
          rw [hd] at hx'
          omega
        · exact ⟨i, by omega, hx⟩
  | fail d _ p0 hl hd hn h0 hu =>
    rw [hu c hc, ho c hc]
    by_cases hx : 0 < l.hv
    · rw [if_pos hx]; exact Iff.rfl
    · rw [if_neg hx]
  | rel d _ p0 hl1 hl hd hn h0 hu =>
    rw [hu c hc]
    have e : (gbL l).h = l.h - 1 ∧ (gbL l).cs = l.cs := by
      unfold gbL
      split
      · exact ⟨by show (l.hv - 1).toNat = _; omega, rfl⟩
      · split
        · exact ⟨by show (l.hv - 1).toNat = _; omega, rfl⟩
        · exact ⟨by show (l.hv - 1).toNat = _; omega, rfl⟩
    have key : ∀ i, i < l.h - 1 → ig l.cs i ≠ (d : Int) := fun i hi hx => by
      have := h.asc i (l.h - 1) hi (by omega)
      omega
    by_cases hcd : c = d
    · subst hcd
      rw [if_pos rfl]
      constructor
      · intro h; omega
      · rintro ⟨i, hi, hx⟩
        rw [e.1] at hi
        rw [e.2] at hx
        exact absurd hx (key i hi)
    · rw [if_neg hcd, ho c hc]
      constructor
      · rintro ⟨i, hi, hx⟩
        refine ⟨i, ?_, by rw [e.2]; exact hx⟩
        rw [e.1]
        by_cases hil : i = l.h - 1
        · subst hil; rw [hd] at hx; omega
        · omega
      · rintro ⟨i, hi, hx⟩
        rw [e.1] at hi
        rw [e.2] at hx
        exact ⟨i, by omega, hx⟩
  | pause _ p0 hu =>
    rw [hu c hc, ho c hc]
    exact Iff.rfl
/-- A step changes one owner only, to the task or from it. -/
theorem o_step (hs : St13 N o k l o' l') (c : Nat) (hc : c ≤ N) : o' c = o c ∨ (o c = 0 ∧ o' c = (k : Int) + 1) ∨ (o c = (k : Int) + 1 ∧ o' c = 0) := by
  cases hs with
  | acq d _ p0 hl hd hn h0 hu => rw [hu c hc]; split <;> simp_all
  | fail d _ p0 hl hd hn h0 hu => exact .inl (hu c hc)
  | rel d _ p0 hl1 hl hd hn h0 hu => rw [hu c hc]; split <;> simp_all
  | pause _ p0 hu => exact .inl (hu c hc)
theorem Iv13.step (h : Iv13 N T o L) (hk : L[k]? = some l) (hs : St13 N o k l o' l') : Iv13 N (T + 1) o' (L.set k l') := by
  have hkl := (List.getElem?_eq_some_iff.1 hk).1
  refine ⟨fun j x hx => ?_, fun j x c hx hc => ?_, fun c hc => ?_⟩
  · rcases (set_some hk j x).1 hx with ⟨rfl, rfl⟩ | ⟨hj, hx⟩
    · exact (h.ok _ _ hk).step hs
    · exact (h.ok _ _ hx).mono (by omega)
  · rcases (set_some hk j x).1 hx with ⟨rfl, rfl⟩ | ⟨hj, hx⟩
    · exact hl_step (h.ok _ _ hk) hs (fun c hc => h.own _ _ c hk hc) c hc
    · rw [← h.own j x c hx hc]
      have := o_step hs c hc
      omega
  · rw [List.length_set]
    rcases h.fr c hc with h0 | ⟨j, hj, h1⟩
    · have := o_step hs c hc
      by_cases e : o' c = 0
      · exact .inl e
      · exact .inr ⟨k, hkl, by omega⟩
    · have := o_step hs c hc
      by_cases e : o' c = 0
      · exact .inl e
      · exact .inr ⟨j, hj, by omega⟩
/-- A locker that has all its cells gives them back. -/
theorem Iv13.free (h : Iv13 N T o L) (hk : L[k]? = some l) (h3 : l.ph = 3) : Iv13 N T o (L.set k (frL l)) := by
  have e : frL l = ⟨l.cs, 4, l.hv, l.tr, l.wt⟩ := if_pos h3
  rw [e]
  refine ⟨fun j x hx => ?_, fun j x c hx hc => ?_, fun c hc => by rw [List.length_set]; exact h.fr c hc⟩
  · rcases (set_some hk j x).1 hx with ⟨rfl, rfl⟩ | ⟨hj, hx⟩
    · have g := h.ok _ _ hk
      have hp := g.p
      exact ⟨g.l1, g.l3, g.asc, g.rng, g.hv, g.tr, g.wt, .inr (.inr (.inr (.inr (.inl ⟨rfl, by show 1 ≤ l.h; have := g.l1; omega, by show l.h ≤ l.cs.length; omega⟩))))⟩
    · exact h.ok _ _ hx
  · rcases (set_some hk j x).1 hx with ⟨rfl, rfl⟩ | ⟨hj, hx⟩
    · exact h.own j l c hk hc
    · exact h.own _ _ c hx hc
end
end Go.Proofs.Ytijpflljopckiaa
namespace Go.Proofs.Ytijpflljopckiaa
open Go.RowKit
set_option linter.unusedVariables false

/-- A source and a row of numbers that may be appended to. -/
structure JW (w : World) (B g : Nat) (A : Option Addr) (c : Nat) (l : List Int) (W : World) : Prop where
  src : SrcAt W B g
  own : W.ownsRow w.heap.size 3 1 (.slice A l.length c) l.length (ics l)
  grow : w.grownBy W (some g)
  gl : g < w.heap.size
section
variable {w W W' : World} {B g c : Nat} {A : Option Addr} {l : List Int}
theorem JW.start (h : SrcAt w B g) : JW w B g none 0 [] w := ⟨h, World.ownsRow_nil _ _ _ _, World.grownBy.refl _ _, h.2.1⟩
theorem JW.turn (h : JW w B g A c l W) (hs : SrcAt W' B g) (hg : W.grownBy W' (some g)) : JW w B g A c l W' :=
  ⟨hs, own_farT h.own hg (fun k hk e => by injection e with e; have := (h.own.lt k hk).1; have := h.gl; omega), h.grow.trans hg, h.gl⟩
theorem JW.below (h : JW w B g A c l W) (hb : Below W.heap.size W W') : JW w B g A c l W' :=
  ⟨h.src.below hb, own_upT h.own hb, only_below h.grow hb, h.gl⟩
theorem JW.alloc (h : JW w B g A c l W) (o : Obj) : JW w B g A c l (W.alloc o) := h.below ((Below.refl _ _).alloc (Nat.le_refl _) o)
theorem JW.app (h : JW w B g A c l W) {x : Int} {A1 : Option Addr} {c1 : Nat} (ho : W'.ownsRow w.heap.size 3 1 (.slice A1 (l.length + 1) c1) (l.length + 1) (ics l ++ [.int .i64 x])) (hg : W.grownBy W' (Value.ownBlock (.slice A l.length c))) : JW w B g A1 c1 (l ++ [x]) W' := by
  have hlt : ∀ x, Value.ownBlock (.slice A l.length c) = some x → w.heap.size ≤ x := fun x e => (h.own.lt x e).1
  have hgl := h.gl
  have hB := h.src.1
  have hs : SrcAt W' B g := by
    refine h.src.keep hg.size (fun o => hg.cell_far ⟨g, o, none⟩ h.src.2.1 (fun e => by have := hlt g e.symm; omega)) (fun o => hg.frozen_far ⟨g, o, none⟩ h.src.2.1 (fun e => by have := hlt g e.symm; omega)) (fun x hx => hg.cell_far x (by have := h.src.2.1; omega) (fun e => by have := hlt _ e.symm; omega))
  have hw : w.grownBy W' (some g) := by
    refine ⟨hg.os.trans h.grow.os, hg.tape.trans h.grow.tape, hg.output.trans h.grow.output, Nat.le_trans h.grow.size hg.size, fun x hx hne => ?_⟩
    rw [hg.block x (Nat.lt_of_lt_of_le hx h.grow.size) (fun e => by have := hlt x e.symm; omega), h.grow.block x hx hne]
  have e1 : (l ++ [x]).length = l.length + 1 := by simp
  have e2 : ics (l ++ [x]) = ics l ++ [.int .i64 x] := by simp [ics, i64v]
  exact ⟨hs, by rw [e1, e2]; exact ho, hw, hgl⟩
theorem JW.fl (h : JW w B g A c l W) : Fl W W.heap.size (.slice A l.length c) l := Fl.of_own h.own
theorem JW.nw (h : JW w B g A c l W) : Nw w.heap.size A := nwv_of (nwv_own h.own (Nat.le_refl _))
end
/-- Cells that New accepts, in an arena with N slots. -/
structure OkC (N : Nat) (cs : List Int) : Prop where
  l3 : cs.length ≤ 3
  asc : ∀ i j, i < j → j < cs.length → ig cs i < ig cs j
  rng : ∀ i, i < cs.length → 0 ≤ ig cs i ∧ ig cs i ≤ N
theorem ig_app {cs : List Int} {x : Int} {i : Nat} (hi : i < cs.length + 1) : ig (cs ++ [x]) i = if i < cs.length then ig cs i else x := by
  unfold ig
  by_cases h : i < cs.length
  · rw [if_pos h, List.getD_eq_getElem?_getD, List.getD_eq_getElem?_getD, List.getElem?_append_left h]
  · rw [if_neg h, List.getD_eq_getElem?_getD, List.getElem?_append_right (by omega), show i - cs.length = 0 by omega]
    rfl
theorem OkC.app {N k : Nat} {cs : List Int} (h : OkC N cs) (hk : ∀ i, i < cs.length → ig cs i < k) (hkN : k ≤ N) (hl : cs.length < 3) : OkC N (cs ++ [(k : Int)]) := by
  refine ⟨by simp; omega, fun i j hij hj => ?_, fun i hi => ?_⟩
  · rw [List.length_append, List.length_singleton] at hj
    rw [ig_app (by omega), ig_app hj, if_pos (show i < cs.length by omega)]
    split
    · exact h.asc i j hij (by omega)
    · exact hk i (by omega)
  · rw [List.length_append, List.length_singleton] at hi
    rw [ig_app hi]
    split
    · exact h.rng i (by omega)
    · omega
/-- Cells that a source has made. -/
def SrCells (N B g : Nat) (w : World) (e : Ending) (w' : World) : Prop := ∃ A c cs, e = .returned (.slice A cs.length c) ∧ OkC N cs ∧ 1 ≤ cs.length ∧ Nw w.heap.size A ∧ Fl w' w'.heap.size (.slice A cs.length c) cs ∧ SrcAt w' B g ∧ w.grownBy w' (some g)
set_option maxHeartbeats 4000000 in
set_option maxRecDepth 20000 in
theorem some13_any (N B g : Nat) (w : World) (hsrc : SrcAt w B g) (hN : N ≤ 1000) : Calls Try.prog 17 #[.pointer (some ⟨g, 0, none⟩), .int .i64 (N : Int)] w (SrCells N B g w) := by
  have H0 := Lib.hid (JW.start hsrc)
  obtain ⟨i0, hi0, hz0⟩ := Option.map_eq_some_iff.1 info_ni
  simp only [Prod.mk.injEq] at hz0
  have HI := Lib.hid hi0
  have HZ := Lib.hid hz0
  have HN := Lib.hid hN
  clear hsrc hi0 hz0 hN
  go_enter Try.func17, Try.ntmps17
  go_wp2_with fail
  go_loopw [5, 6] (fun sv iv wr => ∃ (i : Nat) (A : Option Addr) (c : Nat) (cs : List Int), iv = .int .i64 i ∧ sv = .slice A cs.length c ∧ i ≤ N + 1 ∧ Hid (cs.length ≤ 3 ∧ OkC N cs ∧ (∀ j, j < cs.length → ig cs j < i) ∧ JW w B g A c cs wr)) (fun _ iv _ => N + 1 - (intOf iv).toNat)
  case atStart => exact ⟨0, none, 0, [], rfl, rfl, by omega, Lib.hid ⟨by decide, ⟨by decide, fun i j _ h => absurd h (by simp), fun i h => absurd h (by simp)⟩, fun j h => absurd h (by simp), H0.out⟩⟩
  case round =>
    clear H0
    obtain ⟨i, A, c, cs, rfl, rfl, hi, H⟩ := hrel
    have HLN := Lib.hid H.out.1
    have HY := Lib.hid H.out.2.2.2
    have HC := Lib.hid (And.intro H.out.2.1 H.out.2.2.1)
    have HIN := Lib.hid hi
    clear H
    by_cases hiN : (i : Int) ≤ (N : Int)
    · by_cases hl3 : (cs.length : Int) < 3
      · have hw2 : IntKind.i64.wrap ((i : Int) + 1) = (i : Int) + 1 := IntWalk.i64_in _ (by have := HN.out; omega)
        have HL3 := Lib.hid (show i ≤ N ∧ cs.length < 3 by omega)
        clear hi
        go_wp2_with fail
        refine (n_any B g _ HY.out.src 2 (by omega) (by omega)).mono ?_
        rintro e w5 ⟨x, rfl, hx0, hx1, hs, hg⟩
        have HY := Lib.hid (HY.out.turn hs hg)
        clear hs hg
        by_cases hx : x = 0
        · subst hx
          go_wp2_with (at_builtin; refine wpList_append_lies _ rfl _ _ _ rfl w.heap.size 3 i0 _ 1 8 Try.underlying22 HI.out HZ.out.1 HZ.out.2.1 HZ.out.2.2 rfl (by omega) (.slice A cs.length c) cs.length (ics cs) (by rfl) (HY.out.alloc _).own ⟨w5.heap.size, 0, none⟩ 1 1 [.int .i64 (i : Int)] (by rfl) (by rfl) (World.news_of_block (cs := #[.int .i64 (i : Int)]) (t := 3) (fr := (0, 0)) (heap_alloc_new w5 _)) (by intro u hu; simp at hu; subst hu; rfl) (by omega) (by have := HLN.out; unfold maxLen; omega) (by have := HLN.out; omega) ((HY.out.alloc _).grow.size) _ rfl ?_; intro g1 cp1 w8 hown1 hgrow1 hat1 hlt1; have HP8 := Lib.hid ((HY.out.alloc _).app (x := (i : Int)) hown1 hgrow1); clear hown1 hgrow1 hat1 hlt1)
          exact ⟨⟨i + 1, _, _, cs ++ [(i : Int)], by go_num, by simp, by have := HL3.out; omega, Lib.hid ⟨by have := HL3.out; simp; omega, HC.out.1.app HC.out.2 HL3.out.1 HL3.out.2, fun j hj => by
            rw [List.length_append, List.length_singleton] at hj
            rw [ig_app hj]
            split
            · have := HC.out.2 j (by omega); omega
            · omega, HP8.out⟩⟩, by simp [intOf]; have := HL3.out; omega⟩
        · have hb : (x == 0) = false := by simp [hx]
          clear hx
          go_wp2
          go_roundw
          case rel => exact ⟨i + 1, A, c, cs, by go_num, rfl, by have := HL3.out; omega, Lib.hid ⟨HLN.out, HC.out.1, fun j hj => by have := HC.out.2 j hj; omega, HY.out⟩⟩
          case measure => simp [intOf]; have := HL3.out; omega
      · have HQ := Lib.hid (show cs.length = 3 by have := HLN.out; omega)
        have hz : ((cs.length : Int) == 0) = false := beq_eq_false_iff_ne.2 (by have := HLN.out; omega)
        clear hi
        go_wp2
        go_ret
        exact ⟨A, c, cs, rfl, HC.out.1, by rw [HQ.out]; omega, HY.out.nw, HY.out.fl, HY.out.src, HY.out.grow⟩
    · by_cases hc0 : cs.length = 0
      · obtain rfl : cs = [] := List.length_eq_zero_iff.1 hc0
        have hw2 : IntKind.i64.wrap ((N : Int) + 1) = (N : Int) + 1 := IntWalk.i64_in _ (by have := HN.out; omega)
        simp only [List.length_nil] at HY ⊢
        clear hi hc0
        go_wp2_with fail
        refine (n_any B g _ HY.out.src ((N : Int) + 1) (by omega) (by have := HN.out; omega)).mono ?_
        rintro e w5 ⟨xi, rfl, hx0, hx1, hs, hg⟩
        obtain ⟨x, rfl⟩ : ∃ x : Nat, xi = (x : Int) := ⟨xi.toNat, by omega⟩
        have HX := Lib.hid (show x ≤ N by omega)
        have HY := Lib.hid (HY.out.turn hs hg)
        clear hs hg hx0 hx1
        go_wp2_with (at_builtin; refine wpList_append_lies _ rfl _ _ _ rfl w.heap.size 3 i0 _ 1 8 Try.underlying22 HI.out HZ.out.1 HZ.out.2.1 HZ.out.2.2 rfl (by omega) (.slice A 0 c) 0 [] (by rfl) (HY.out.alloc _).own ⟨w5.heap.size, 0, none⟩ 1 1 [.int .i64 (x : Int)] (by rfl) (by rfl) (World.news_of_block (cs := #[.int .i64 (x : Int)]) (t := 3) (fr := (0, 0)) (heap_alloc_new w5 _)) (by intro u hu; simp at hu; subst hu; rfl) (by omega) (by have := HLN.out; unfold maxLen; omega) (by have := HLN.out; omega) ((HY.out.alloc _).grow.size) _ rfl ?_; intro g1 cp1 w8 hown1 hgrow1 hat1 hlt1; have HP8 := Lib.hid ((HY.out.alloc _).app (x := (x : Int)) hown1 hgrow1); clear hown1 hgrow1 hat1 hlt1)
        go_ret
        have HQ := HP8.out
        exact ⟨_, _, [(x : Int)], rfl, ⟨by simp, fun i j hij hj => by simp at hj; omega, fun i hi => by simp at hi; subst hi; exact ⟨by show (0 : Int) ≤ x; omega, by show (x : Int) ≤ N; have := HX.out; omega⟩⟩, by simp, HQ.nw, HQ.fl, HQ.src, HQ.grow⟩
      · have hz : ((cs.length : Int) == 0) = false := beq_eq_false_iff_ne.2 (by omega)
        have HQ := Lib.hid (show 1 ≤ cs.length by omega)
        clear hi hc0
        go_wp2
        go_ret
        exact ⟨A, c, cs, rfl, HC.out.1, HQ.out, HY.out.nw, HY.out.fl, HY.out.src, HY.out.grow⟩
end Go.Proofs.Ytijpflljopckiaa
/- Plain: lockers that are stepped in turn all come to an end: a number that falls in each round. -/
namespace Go.Proofs.Ytijpflljopckiaa
open Go.RowKit
set_option linter.unusedVariables false

/-- Lockers that still acquire. -/
def un13 (l : Lk) : Nat := if l.ph ≤ 2 then 1 else 0
def Un13 (L : List Lk) : Nat := (L.map un13).sum
def Done13 (L : List Lk) : Prop := ∀ (j : Nat) (l : Lk), L[j]? = some l → l.ph = 5
/-- A number that falls, and the locker whose turn makes it fall. -/
inductive Pot13 (N : Nat) (o : Nat → Int) (L : List Lk) (P j : Nat) : Prop
  | top (l : Lk) (m : Nat) : L[j]? = some l → 1 ≤ l.h → ig l.cs (l.h - 1) = (m : Int) → m ≤ N → (∀ c, c ≤ N → m < c → o c = 0) → (l.ph = 0 ∧ P = 20 * Un13 L + (6 - m)) ∨ ((l.ph = 1 ∨ l.ph = 3 ∨ l.ph = 4) ∧ P = 20 * Un13 L + 13 + m) → Pot13 N o L P j
  | none (l : Lk) : L[j]? = some l → (∀ c, c ≤ N → o c = 0) → (l.ph = 0 ∧ P = 20 * Un13 L + 8) ∨ (l.ph = 2 ∧ P = 20 * Un13 L + 8 + l.wt.toNat) → Pot13 N o L P j
section
variable {N : Nat} {T : Int} {o o' : Nat → Int} {L : List Lk} {k j P : Nat} {l l' : Lk}
theorem Pot13.at_ (h : Pot13 N o L P j) : ∃ l, L[j]? = some l ∧ l.ph ≠ 5 := by
  cases h with
  | top l m hj _ _ _ _ hp => exact ⟨l, hj, by omega⟩
  | none l hj _ hp => exact ⟨l, hj, by omega⟩
theorem Pot13.lt (h : Pot13 N o L P j) : j < L.length := by
  obtain ⟨l, hj, _⟩ := h.at_
  exact (List.getElem?_eq_some_iff.1 hj).1
theorem Pot13.ge (h : Pot13 N o L P j) : 20 * Un13 L ≤ P := by
  cases h with
  | top l m hj _ _ _ _ hp => omega
  | none l hj _ hp => omega
variable {P0 j0 : Nat}
end
end Go.Proofs.Ytijpflljopckiaa
