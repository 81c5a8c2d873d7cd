/- What is proved here: Jkl; Jtu. -/
import Derived.Test.YtijpflljopckiaaJ41
import Derived.Test.YtijpflljopckiaaJ36
import Derived.Deep.DeepCutAuto
import Derived.Deep.RegionHeld3
/- Plain: what Step of a locker does to an arena whose owners are known. -/
namespace Go.Proofs.Ytijpflljopckiaa
open Go.RowKit
set_option linter.unusedVariables false

theorem own_set13 {a : Ar} {n x : Nat} {v : Int} (hn : n ≤ a.sl.length) (hx : x ≤ a.sl.length) : (a.setOwn n v).own x = (if x = n then v else a.own x) ∧ (a.setOwn n v).sl.length = a.sl.length := by
  by_cases e : n = a.sl.length
  · have e1 : a.setOwn n v = ⟨a.sl, a.st, v, a.cap, a.dl, a.dir, a.ep, a.ck, a.ni⟩ := if_pos e
    rw [e1]
    refine ⟨?_, rfl⟩
    unfold Ar.own
    by_cases h : x = a.sl.length
    · rw [if_pos h, if_pos (by omega)]
    · rw [if_neg h, if_neg (by omega), if_neg h]
  · have e1 : a.setOwn n v = ⟨a.sl.set n ⟨v, (og a.sl n).sh⟩, a.st, a.ow, a.cap, a.dl, a.dir, a.ep, a.ck, a.ni⟩ := if_neg e
    have hl : (a.setOwn n v).sl.length = a.sl.length := by rw [e1]; simp
    refine ⟨?_, hl⟩
    unfold Ar.own
    rw [hl, e1]
    by_cases h : x = a.sl.length
    · rw [if_pos h, if_neg (by omega), if_pos h]
    · rw [if_neg h, if_neg h, og_get (by simp; omega)]
      by_cases hxn : x = n
      · subst hxn
        rw [if_pos rfl]
        simp only [List.getElem_set_self]
      · rw [if_neg hxn]
        simp only [List.getElem_set_ne (fun e => hxn e.symm)]
        rw [og_get (show x < a.sl.length by omega)]
section
variable {a : Ar} {l : Lk} {t : Int} {c : Nat}
theorem st_acq (p0 : l.ph = 0) (hh : l.hv = (l.h : Int)) (hl : l.h < l.cs.length) (hc : ig l.cs l.h = (c : Int)) (hn : c ≤ a.sl.length) (t1 : 1 ≤ t) (t2 : t ≤ 200) :
    stE13 a l t = 0 ∧ stA13 a l t = a.setOwn c (if a.own c = 0 then t else a.own c) ∧ stL13 a l t = aqL l (decide (a.own c = 0)) := by
  have e : ctF l.cs l.hv = (c : Int) := by rw [hh, ctF_nat hl, hc]
  have k := lk_yes hn (wi_true t1 t2)
  have e0 : aqE a l t = 0 := by unfold aqE; rw [e, k]
  refine ⟨by unfold stE13; rw [if_pos p0, e0], ?_, ?_⟩
  · unfold stA13
    rw [if_pos p0, e]
    unfold tlA
    rw [if_pos k]
    rfl
  · unfold stL13
    rw [if_pos p0]
    unfold aqR
    rw [if_pos e0, e]
    unfold tlB
    rw [k]
    simp
theorem st_rel (p : l.ph = 1 ∨ l.ph = 4) (hh : l.hv = (l.h : Int)) (h1 : 1 ≤ l.h) (hl : l.h ≤ l.cs.length) (hc : ig l.cs (l.h - 1) = (c : Int)) (hn : c ≤ a.sl.length) (t1 : 1 ≤ t) (t2 : t ≤ 200) (ho : a.own c = t) :
    stE13 a l t = 0 ∧ stA13 a l t = a.setOwn c 0 ∧ stL13 a l t = gbL l := by
  have e : ctF l.cs (l.hv - 1) = (c : Int) := by rw [show l.hv - 1 = ((l.h - 1 : Nat) : Int) by omega, ctF_nat (by omega), hc]
  have k := lk_yes hn (wi_true t1 t2)
  have e0 : owE a (c : Int) t = 0 := by unfold owE; rw [if_pos k]; show (if a.own c = t then (0 : Int) else 13) = 0; rw [if_pos ho]
  have p0 : ¬ l.ph = 0 := by omega
  refine ⟨by unfold stE13; rw [if_neg p0, if_pos p]; unfold gbE; rw [e, e0], ?_, ?_⟩
  · unfold stA13
    rw [if_neg p0, if_pos p, e]
    unfold ulA
    rw [if_pos e0]
    rfl
  · unfold stL13
    rw [if_neg p0, if_pos p]
    unfold gbR gbE
    rw [e, if_pos e0]
theorem st_pause (p : l.ph = 2) : stE13 a l t = 0 ∧ stA13 a l t = a ∧ stL13 a l t = pzL l := by
  have p0 : ¬ l.ph = 0 := by omega
  have p1 : ¬ (l.ph = 1 ∨ l.ph = 4) := by omega
  exact ⟨by unfold stE13; rw [if_neg p0, if_neg p1, if_pos p], by unfold stA13; rw [if_neg p0, if_neg p1, if_pos p], by unfold stL13; rw [if_neg p0, if_neg p1, if_pos p]⟩
theorem st_err (p : l.ph = 3 ∨ l.ph = 5) : stE13 a l t = 7 ∧ stA13 a l t = zA ∧ stL13 a l t = zK := by
  have p0 : ¬ l.ph = 0 := by omega
  have p1 : ¬ (l.ph = 1 ∨ l.ph = 4) := by omega
  have p2 : ¬ l.ph = 2 := by omega
  exact ⟨by unfold stE13; rw [if_neg p0, if_neg p1, if_neg p2], by unfold stA13; rw [if_neg p0, if_neg p1, if_neg p2], by unfold stL13; rw [if_neg p0, if_neg p1, if_neg p2]⟩
theorem step_st {N k : Nat} {T : Int} {L : List Lk} (hI : Iv13 N T a.own L) (hn : a.sl.length = N) (hf : a.Few) (hk : L[k]? = some l) (hk2 : k < 200) (hp : l.ph ≠ 3 ∧ l.ph ≠ 5) :
    stE13 a l ((k : Int) + 1) = 0 ∧ St13 N a.own k l (stA13 a l ((k : Int) + 1)).own (stL13 a l ((k : Int) + 1)) ∧ (stA13 a l ((k : Int) + 1)).sl.length = N ∧ (stA13 a l ((k : Int) + 1)).Few := by
  have g := hI.ok _ _ hk
  have gh := g.hv
  rcases g.p with ⟨p, h1⟩ | ⟨p, h1, h2⟩ | ⟨p, h1, h2⟩ | ⟨p, _⟩ | ⟨p, h1, h2⟩ | ⟨p, _⟩
  · obtain ⟨r1, r2⟩ := g.rng l.h h1
    obtain ⟨c, hc⟩ : ∃ c : Nat, ig l.cs l.h = (c : Int) := ⟨(ig l.cs l.h).toNat, by omega⟩
    obtain ⟨e1, e2, e3⟩ := st_acq (a := a) (t := (k : Int) + 1) p gh h1 hc (by omega) (by omega) (by omega)
    rw [e1, e2, e3]
    refine ⟨rfl, ?_, by rw [(own_set13 (x := c) (show c ≤ a.sl.length by omega) (by omega)).2, hn], hf.own _ _⟩
    by_cases h0 : a.own c = 0
    · rw [if_pos h0, decide_eq_true h0]
      exact .acq c _ p h1 hc (by omega) h0 (fun x hx => (own_set13 (by omega) (by omega)).1)
    · rw [if_neg h0, decide_eq_false h0]
      have e : aqL l false = if 0 < l.hv then ⟨l.cs, 1, l.hv, l.tr, l.wt⟩ else l := rfl
      rw [e]
      refine .fail c _ p h1 hc (by omega) h0 (fun x hx => ?_)
      rw [setown_self a c (by omega)]
  · obtain ⟨r1, r2⟩ := g.rng (l.h - 1) (by omega)
    obtain ⟨c, hc⟩ : ∃ c : Nat, ig l.cs (l.h - 1) = (c : Int) := ⟨(ig l.cs (l.h - 1)).toNat, by omega⟩
    have ho := (hI.own k l c hk (by omega)).2 ⟨l.h - 1, by omega, hc⟩
    obtain ⟨e1, e2, e3⟩ := st_rel (a := a) (t := (k : Int) + 1) (.inl p) gh h1 (by omega) hc (by omega) (by omega) (by omega) ho
    rw [e1, e2, e3]
    exact ⟨rfl, .rel c _ (.inl p) h1 (by omega) hc (by omega) ho (fun x hx => (own_set13 (by omega) (by omega)).1), by rw [(own_set13 (x := c) (show c ≤ a.sl.length by omega) (by omega)).2, hn], hf.own _ _⟩
  · obtain ⟨e1, e2, e3⟩ := st_pause (a := a) (t := (k : Int) + 1) p
    rw [e1, e2, e3]
    exact ⟨rfl, .pause _ p (fun x hx => rfl), hn, hf⟩
  · exact absurd p hp.1
  · obtain ⟨r1, r2⟩ := g.rng (l.h - 1) (by omega)
    obtain ⟨c, hc⟩ : ∃ c : Nat, ig l.cs (l.h - 1) = (c : Int) := ⟨(ig l.cs (l.h - 1)).toNat, by omega⟩
    have ho := (hI.own k l c hk (by omega)).2 ⟨l.h - 1, by omega, hc⟩
    obtain ⟨e1, e2, e3⟩ := st_rel (a := a) (t := (k : Int) + 1) (.inr p) gh h1 (by omega) hc (by omega) (by omega) (by omega) ho
    rw [e1, e2, e3]
    exact ⟨rfl, .rel c _ (.inr p) h1 (by omega) hc (by omega) ho (fun x hx => (own_set13 (by omega) (by omega)).1), by rw [(own_set13 (x := c) (show c ≤ a.sl.length by omega) (by omega)).2, hn], hf.own _ _⟩
  · exact absurd p hp.2
end
end Go.Proofs.Ytijpflljopckiaa
/- Plain: a row of lockers beside an arena's box and a source. -/
namespace Go.Proofs.Ytijpflljopckiaa
open Go.RowKit
set_option linter.unusedVariables false

/-- A locker, and where its cells lie. -/
structure Lc where
  l : Lk
  A : Option Addr
  c : Nat
def Lc.v (t : Lc) : List Value := [.slice t.A t.l.cs.length t.c, .int .i64 t.l.ph, .int .i64 t.l.hv, .int .i64 t.l.tr, .int .i64 t.l.wt]
theorem Lc.v_len (t : Lc) : t.v.length = 5 := rfl
theorem Lc.v_one (t : Lc) : ∀ u ∈ t.v, u.oneCell' = true := by
  intro u hu
  simp only [Lc.v, List.mem_cons, List.not_mem_nil, or_false] at hu
  rcases hu with rfl | rfl | rfl | rfl | rfl <;> rfl
def kcs (l : List Lc) : List Value := l.flatMap Lc.v
theorem kcs_cons (d : Lc) (l : List Lc) : kcs (d :: l) = d.v ++ kcs l := rfl
theorem kcs_len (l : List Lc) : (kcs l).length = l.length * 5 := by
  induction l with
  | nil => rfl
  | cons d l ih => rw [kcs_cons, List.length_append, ih, Lc.v_len]; simp; omega
theorem kcs_drop (l : List Lc) (k : Nat) : (kcs l).drop (k * 5) = kcs (l.drop k) := by
  induction k generalizing l with
  | zero => simp
  | succ k ih =>
    cases l with
    | nil => simp [kcs]
    | cons d l =>
      rw [kcs_cons, List.drop_succ_cons, ← ih, show (k + 1) * 5 = d.v.length + k * 5 by rw [Lc.v_len]; omega, List.drop_append, List.drop_eq_nil_of_le (by omega)]
      simp
theorem kcs_at (l : List Lc) (k j : Nat) (hk : k < l.length) (hj : j < 5) : (kcs l)[k * 5 + j]? = l[k].v[j]? := by
  have h := kcs_drop l k
  have e : (kcs l)[k * 5 + j]? = ((kcs l).drop (k * 5))[j]? := by rw [List.getElem?_drop]
  rw [e, h, List.drop_eq_getElem_cons hk, kcs_cons, List.getElem?_append_left (by rw [Lc.v_len]; exact hj)]
theorem lc_app_set (t : Lc) (X : List Value) (k : Nat) (v : Value) : (t.v ++ X).set (5 + k) v = t.v ++ X.set k v := by
  rw [List.set_append_right _ _ (by rw [Lc.v_len]; omega), Lc.v_len, Nat.add_sub_cancel_left]
theorem kcs_set (Q : List Lc) (i : Nat) (t : Lc) (h : i < Q.length) : (((((kcs Q).set (i * 5) (.slice t.A t.l.cs.length t.c)).set (i * 5 + 1) (.int .i64 t.l.ph)).set (i * 5 + 2) (.int .i64 t.l.hv)).set (i * 5 + 3) (.int .i64 t.l.tr)).set (i * 5 + 4) (.int .i64 t.l.wt) = kcs (Q.set i t) := by
  induction Q generalizing i with
  | nil => simp at h
  | cons s Q ih =>
    cases i with
    | zero => rfl
    | succ i =>
      have h' : i < Q.length := by simpa using h
      have e : ∀ k, (i + 1) * 5 + k = 5 + (i * 5 + k) := fun k => by omega
      have e0 : (i + 1) * 5 = 5 + i * 5 := by omega
      rw [kcs_cons, List.set_cons_succ, kcs_cons, ← ih i h', e 1, e 2, e 3, e 4, e0, lc_app_set, lc_app_set, lc_app_set, lc_app_set, lc_app_set]
/-- The five stores of a locker from an offset on. -/
abbrev sets5 (W : World) (b o : Nat) (t : Lc) : World := ((((W.setCell ⟨b, o, none⟩ (.slice t.A t.l.cs.length t.c)).setCell ⟨b, o + 1, none⟩ (.int .i64 t.l.ph)).setCell ⟨b, o + 2, none⟩ (.int .i64 t.l.hv)).setCell ⟨b, o + 3, none⟩ (.int .i64 t.l.tr)).setCell ⟨b, o + 4, none⟩ (.int .i64 t.l.wt)
theorem sets5_size (W : World) (b o : Nat) (t : Lc) : (sets5 W b o t).heap.size = W.heap.size := by simp
section
variable {W W' : World} {b o p B : Nat} {t : Lc} {a : Ar} {Y : Ax} {l : Lk} {A : Option Addr} {c n : Nat} {x : List Int}
theorem sets5_below {w : World} (h : Below B w W) (hb : B ≤ b) : Below B w (sets5 W b o t) :=
  ((((h.setCell (p := ⟨b, o, none⟩) hb _).setCell (p := ⟨b, o + 1, none⟩) hb _).setCell (p := ⟨b, o + 2, none⟩) hb _).setCell (p := ⟨b, o + 3, none⟩) hb _).setCell (p := ⟨b, o + 4, none⟩) hb _
theorem Rb.putK {Q : List Lc} {k : Nat} (h : Rb W b (kcs Q)) (hk : k < Q.length) : Rb (sets5 W b (k * 5) t) b (kcs (Q.set k t)) := by
  rw [← kcs_set Q k t hk]
  have hl := kcs_len Q
  exact ((((h.set (j := k * 5) (by omega) _).set (j := k * 5 + 1) (by simp; omega) _).set (j := k * 5 + 2) (by simp; omega) _).set (j := k * 5 + 3) (by simp; omega) _).set (j := k * 5 + 4) (by simp; omega) _
theorem QB.putK (h : QB W p a Y) (hp : b ≠ p) : QB (sets5 W b o t) p a Y := ((((h.other (x := ⟨b, o, none⟩) hp _).other (x := ⟨b, o + 1, none⟩) hp _).other (x := ⟨b, o + 2, none⟩) hp _).other (x := ⟨b, o + 3, none⟩) hp _).other (x := ⟨b, o + 4, none⟩) hp _
theorem AR.putK (h : AR W B a Y) (ho : AOff a Y b) : AR (sets5 W b o t) B a Y := ((((h.offp (q := ⟨b, o, none⟩) ho _).offp (q := ⟨b, o + 1, none⟩) ho _).offp (q := ⟨b, o + 2, none⟩) ho _).offp (q := ⟨b, o + 3, none⟩) ho _).offp (q := ⟨b, o + 4, none⟩) ho _
theorem Fl.putK (h : Fl W B (.slice A n c) x) (ho : OffB b n A) : Fl (sets5 W b o t) B (.slice A n c) x := ((((h.offb (p := ⟨b, o, none⟩) ho _).offb (p := ⟨b, o + 1, none⟩) ho _).offb (p := ⟨b, o + 2, none⟩) ho _).offb (p := ⟨b, o + 3, none⟩) ho _).offb (p := ⟨b, o + 4, none⟩) ho _
theorem SrcAt.putK {g : Nat} (h : SrcAt W B g) (hq : B ≤ b) (hne : b ≠ g) : SrcAt (sets5 W b o t) B g :=
  ((((h.other (p := ⟨b, o, none⟩) hne hq _).other (p := ⟨b, o + 1, none⟩) hne hq _).other (p := ⟨b, o + 2, none⟩) hne hq _).other (p := ⟨b, o + 3, none⟩) hne hq _).other (p := ⟨b, o + 4, none⟩) hne hq _
theorem SrcAt.set11 {g : Nat} (h : SrcAt W B g) (hq : B ≤ p) (hne : p ≠ g) (a : Ar) (Y : Ax) : SrcAt (set11 W p a Y) B g :=
  ((((((((((h.other (p := ⟨p, 0, none⟩) hne hq _).other (p := ⟨p, 1, none⟩) hne hq _).other (p := ⟨p, 2, none⟩) hne hq _).other (p := ⟨p, 3, none⟩) hne hq _).other (p := ⟨p, 4, none⟩) hne hq _).other (p := ⟨p, 5, none⟩) hne hq _).other (p := ⟨p, 6, none⟩) hne hq _).other (p := ⟨p, 7, none⟩) hne hq _).other (p := ⟨p, 8, none⟩) hne hq _).other (p := ⟨p, 9, none⟩) hne hq _).other (p := ⟨p, 10, none⟩) hne hq _
theorem Rd.grown13 {size g : Nat} {xs : List Value} (h : Rd W B size A n xs) (hB : B ≤ W.heap.size) (hg : W.grownBy W' (some g)) (ho : OffB g n A) : Rd W' B size A n xs :=
  ⟨h.1, fun h0 => by
    obtain ⟨b, o, e, hb, hc⟩ := h.2 h0
    have hne : b ≠ g := ho h0 _ e
    exact ⟨b, o, e, hb, fun j u hu => (hg.cell_far ⟨b, o + j, none⟩ (Nat.lt_of_lt_of_le hb hB) (fun e => by injection e with e; exact hne e)).trans (hc j u hu)⟩⟩
theorem AR.grown13 {g : Nat} (h : AR W W.heap.size a Y) (hg : W.grownBy W' (some g)) (ho : AOff a Y g) : AR W' W'.heap.size a Y := by
  refine AR.more (B := W.heap.size) ⟨?_, h.so, fun s hs => ?_, ?_, ?_, ⟨?_, ?_⟩⟩ hg.size
  · obtain ⟨A, c, e, h1, h2, h3⟩ := h.ql
    have e' := e
    injection e' with e1 e2 e3
    exact ⟨A, c, e, h1, h2, h3.grown13 (Nat.le_refl _) hg (by rw [← e1, ← e2]; exact ho.o1)⟩
  · have k := h.sr s hs
    have o := ho.os s hs
    exact ⟨k.ls.grownR (Nat.le_refl _) hg (fun q e => by injection e with e; subst e; exact o.o1), k.el.grownR (Nat.le_refl _) hg (fun q e => by injection e with e; subst e; exact o.o2), k.dl.grownR (Nat.le_refl _) hg (fun q e => by injection e with e; subst e; exact o.o3)⟩
  · obtain ⟨A, c, e, h1, h2, h3⟩ := h.tl
    have e' := e
    injection e' with e1 e2 e3
    exact ⟨A, c, e, h1, h2, h3.grown13 (Nat.le_refl _) hg (by rw [← e1]; exact ho.o2)⟩
  · exact h.ls.grownR (Nat.le_refl _) hg (fun q e => by injection e with e; subst e; exact ho.o3)
  · obtain ⟨A, c, e, h1, h2, h3⟩ := h.dr.pl
    have e' := e
    injection e' with e1 e2 e3
    exact ⟨A, c, e, h1, h2, h3.grown13 (Nat.le_refl _) hg (fun h0 a ea => ho.o4.o1 a (e1.trans ea) h0)⟩
  · obtain ⟨A, c, e, h1, h2, h3⟩ := h.dr.fl
    have e' := e
    injection e' with e1 e2 e3
    exact ⟨A, c, e, h1, h2, h3.grown13 (Nat.le_refl _) hg (fun h0 a ea => ho.o4.o2 a (e1.trans ea) h0)⟩
theorem AR.grown13N {g : Option Nat} (h : AR W W.heap.size a Y) (hg : W.grownBy W' g) (ho : ∀ b, g = some b → AOff a Y b) : AR W' W'.heap.size a Y := by
  cases g with
  | none => exact h.up ((Below.refl _ _).grown hg (Nat.le_refl _) (fun k e => by cases e))
  | some b => exact h.grown13 hg (ho b rfl)
theorem Fl.grownC {g : Nat} (h : Fl W W.heap.size (.slice A n c) x) (hg : W.grownBy W' (some g)) (ho : OffB g n A) : Fl W' W'.heap.size (.slice A n c) x := by
  obtain ⟨h1, h2, h3⟩ := h.len
  subst h1
  exact Fl.more (B := W.heap.size) ⟨A, c, rfl, h2, h3, h.rd.1, fun hn => by
    obtain ⟨b, o, e, hb, hc⟩ := h.rd.2 hn
    have := ho hn _ e
    exact ⟨b, o, e, hb, fun j u hu => (hg.cell_far ⟨b, o + j, none⟩ hb (fun e => by injection e with e; exact this e)).trans (hc j u hu)⟩⟩ hg.size
theorem Fl.grownN {g : Option Nat} (h : Fl W W.heap.size (.slice A n c) x) (hg : W.grownBy W' g) (ho : ∀ b, g = some b → OffB b n A) : Fl W' W'.heap.size (.slice A n c) x := by
  cases g with
  | none => exact h.up ((Below.refl _ _).grown hg (Nat.le_refl _) (fun k e => by cases e))
  | some b => exact h.grownC hg (ho b rfl)
end
/-- The five cells of a locker in the row. -/
abbrev R5 (W : World) (b o : Nat) (t : Lc) : Prop := W.cell? ⟨b, o, none⟩ = some (.slice t.A t.l.cs.length t.c) ∧ W.cell? ⟨b, o + 1, none⟩ = some (.int .i64 t.l.ph) ∧ W.cell? ⟨b, o + 2, none⟩ = some (.int .i64 t.l.hv) ∧ W.cell? ⟨b, o + 3, none⟩ = some (.int .i64 t.l.tr) ∧ W.cell? ⟨b, o + 4, none⟩ = some (.int .i64 t.l.wt)
theorem Rb.at5 {W : World} {b k : Nat} {Q : List Lc} {t : Lc} (h : Rb W b (kcs Q)) (hk : Q[k]? = some t) : R5 W b (k * 5) t := by
  obtain ⟨hl, rfl⟩ := List.getElem?_eq_some_iff.1 hk
  exact ⟨h.c _ _ (kcs_at Q k 0 hl (by omega)), h.c _ _ (kcs_at Q k 1 hl (by omega)), h.c _ _ (kcs_at Q k 2 hl (by omega)), h.c _ _ (kcs_at Q k 3 hl (by omega)), h.c _ _ (kcs_at Q k 4 hl (by omega))⟩
/-- The cells of a locker lie, and not in these blocks. -/
structure Lx (W : World) (pa b g : Nat) (t : Lc) : Prop where
  fl : Fl W W.heap.size (.slice t.A t.l.cs.length t.c) t.l.cs
  oa : OffB pa t.l.cs.length t.A
  ob : OffB b t.l.cs.length t.A
  og : OffB g t.l.cs.length t.A
/-- An arena in a box, a row of lockers, a source. -/
structure Jt2 (w : World) (g pa b : Nat) (a : Ar) (Y : Ax) (Q : List Lc) (W : World) : Prop where
  src : SrcAt W w.heap.size g
  qb : QB W pa a Y
  ar : AR W W.heap.size a Y
  ao : AOff a Y pa ∧ AOff a Y b ∧ AOff a Y g
  rb : Rb W b (kcs Q)
  lx : ∀ t ∈ Q, Lx W pa b g t
  ne : w.heap.size ≤ g ∧ g < pa ∧ pa < b
  bel : Below w.heap.size w W
section
variable {w W W' : World} {g pa b lo : Nat} {a a' : Ar} {Y Z : Ax} {Q : List Lc} {t : Lc} {k : Nat}
theorem Jt2.below (h : Jt2 w g pa b a Y Q W) (hb : Below W.heap.size W W') : Jt2 w g pa b a Y Q W' :=
  ⟨h.src.below hb, h.qb.up hb, h.ar.up hb, h.ao, h.rb.up hb, fun t ht => ⟨(h.lx t ht).fl.up hb, (h.lx t ht).oa, (h.lx t ht).ob, (h.lx t ht).og⟩, h.ne, h.bel.trans (hb.mono h.bel.size)⟩
theorem Jt2.turn (h : Jt2 w g pa b a Y Q W) (hs : SrcAt W' w.heap.size g) (hg : W.grownBy W' (some g)) : Jt2 w g pa b a Y Q W' :=
  ⟨hs, h.qb.grown hg (by have := h.ne; omega), h.ar.grown13 hg h.ao.2.2, h.ao, h.rb.grown hg (by have := h.ne; omega), fun t ht => ⟨(h.lx t ht).fl.grownC hg (h.lx t ht).og, (h.lx t ht).oa, (h.lx t ht).ob, (h.lx t ht).og⟩, h.ne, h.bel.grown hg h.bel.size (fun x e => by injection e with e; have := h.ne; omega)⟩
theorem Jt2.putA (h : Jt2 w g pa b a Y Q W) (hr : AR W W.heap.size a' Z) (ho : AOff a' Z pa ∧ AOff a' Z b ∧ AOff a' Z g) : Jt2 w g pa b a' Z Q (set11 W pa a' Z) := by
  have hne := h.ne
  exact ⟨h.src.set11 (by omega) (by omega) a' Z, h.qb.set a' Z, (hr.set11 ho.1 a' Z).more (by rw [set11_size]; exact Nat.le_refl _), ho, h.rb.set11 (by omega) a' Z, fun t ht => ⟨((h.lx t ht).fl.set11 (h.lx t ht).oa a' Z).more (by rw [set11_size]; exact Nat.le_refl _), (h.lx t ht).oa, (h.lx t ht).ob, (h.lx t ht).og⟩, hne, set11_below h.bel (by omega) a' Z⟩
theorem Jt2.putK (h : Jt2 w g pa b a Y Q W) (hk : k < Q.length) (hx : Lx W pa b g t) : Jt2 w g pa b a Y (Q.set k t) (sets5 W b (k * 5) t) := by
  have hne := h.ne
  refine ⟨h.src.putK (by omega) (by omega), h.qb.putK (by omega), (h.ar.putK h.ao.2.1).more (by rw [sets5_size]; exact Nat.le_refl _), h.ao, h.rb.putK hk, fun s hs => ?_, hne, sets5_below h.bel (by omega)⟩
  rcases List.mem_or_eq_of_mem_set hs with h1 | rfl
  · exact ⟨((h.lx s h1).fl.putK (h.lx s h1).ob).more (by rw [sets5_size]; exact Nat.le_refl _), (h.lx s h1).oa, (h.lx s h1).ob, (h.lx s h1).og⟩
  · exact ⟨(hx.fl.putK hx.ob).more (by rw [sets5_size]; exact Nat.le_refl _), hx.oa, hx.ob, hx.og⟩
end
end Go.Proofs.Ytijpflljopckiaa
