/- What is proved here: arena.StoreSlot by a task that has not locked the slot, arena.StoreStripe, by contracts; arena.LoadSlot, and StoreSlot by a task that has not locked the slot, by contracts; what the calls of the statement ArenaCells give on its arena; Jk. -/
import Derived.Test.YtommkhjgockpfaaJ43
import Derived.Test.YtommkhjgockpfaaJ33
import Derived.Deep.DeepCutAuto
import Derived.Deep.RegionHeld3
import Derived.Test.YtommkhjgockpfaaJ46
namespace Go.Proofs.Ytommkhjgockpfaa
open Go.RowKit
set_option linter.unusedVariables false

theorem st_app_set (s : St) (X : List Value) (k : Nat) (v : Value) : (s.l ++ X).set (4 + k) v = s.l ++ X.set k v := by
  rw [List.set_append_right _ _ (by rw [St.l_len]; omega), St.l_len, Nat.add_sub_cancel_left]
theorem tcs_set (l : List St) (i : Nat) (s : St) (h : i < l.length) : (((((tcs l).set (i * 4) (.int .i64 s.sq)).set (i * 4 + 1) (.int .i64 s.ep)).set (i * 4 + 2) (.int .i64 s.rd)).set (i * 4 + 3) (.int .i64 s.ls)) = tcs (l.set i s) := by
  induction l generalizing i with
  | nil => simp at h
  | cons u l ih =>
    cases i with
    | zero => rfl
    | succ i =>
      have h' : i < l.length := by simpa using h
      have e : ∀ k, (i + 1) * 4 + k = 4 + (i * 4 + k) := fun k => by omega
      have e0 : (i + 1) * 4 = 4 + i * 4 := by omega
      rw [tcs_cons, List.set_cons_succ, tcs_cons, ← ih i h', e 1, e 2, e 3, e0, st_app_set, st_app_set, st_app_set, st_app_set]
/-- The world behind stores into the stripes' row. -/
structure Kx (w : World) (p r b b2 : Nat) (a : Ar) (Y : Ax) (cs : List Value) (W : World) : Prop where
  pb : QB W p a Y
  rb : QB W r zA zAx
  ro : Rb W b (qcs Y.q)
  r2 : Rb W b2 cs
  sr : ∀ t ∈ Y.q, SR W W.heap.size t.sh t.sx
  ls : Ls W W.heap.size (.slice Y.A3 a.dl.length Y.c3) a.dl
  dr : DR W W.heap.size a.dir Y.D
  bel : Below w.heap.size w W
theorem Kx.step {w W : World} {p r b b2 : Nat} {a : Ar} {Y : Ax} {cs : List Value} (h : Kx w p r b b2 a Y cs W) (n : w.heap.size ≤ b2 ∧ b2 ≠ b ∧ b2 ≠ p ∧ b2 ≠ r) (o1 : ∀ t ∈ Y.q, SOff t.sh t.sx b2) (o3 : OffB b2 a.dl.length Y.A3) (o4 : DOff a.dir Y.D b2) {j : Nat} (hj : j < cs.length) (v : Value) : Kx w p r b b2 a Y (cs.set j v) (W.setCell ⟨b2, j, none⟩ v) :=
  ⟨h.pb.other (x := ⟨b2, j, none⟩) (show b2 ≠ p from n.2.2.1) v, h.rb.other (x := ⟨b2, j, none⟩) (show b2 ≠ r from n.2.2.2) v, h.ro.other (a := ⟨b2, j, none⟩) (show b2 ≠ b from n.2.1) v, h.r2.set hj v, fun t ht => ((h.sr t ht).offp (p := ⟨b2, j, none⟩) (o1 t ht) v).more (by simp), (h.ls.offp (p := ⟨b2, j, none⟩) o3 v).more (by simp), (h.dr.offp (q := ⟨b2, j, none⟩) o4 v).more (by simp), h.bel.setCell (p := ⟨b2, j, none⟩) n.1 v⟩
/-- The four stores of a stripe. -/
abbrev sets4 (W : World) (b o : Nat) (s : St) : World := (((W.setCell ⟨b, o, none⟩ (.int .i64 s.sq)).setCell ⟨b, o + 1, none⟩ (.int .i64 s.ep)).setCell ⟨b, o + 2, none⟩ (.int .i64 s.rd)).setCell ⟨b, o + 3, none⟩ (.int .i64 s.ls)
def Ar.setSt (a : Ar) (i : Nat) (s : St) : Ar := ⟨a.sl, a.st.set i s, a.ow, a.cap, a.dl, a.dir, a.ep, a.ck, a.ni⟩
theorem QB.setSt {W : World} {p : Nat} {a : Ar} {Y : Ax} (h : QB W p a Y) (i : Nat) (s : St) : QB W p (a.setSt i s) Y := by
  obtain ⟨⟨y0, y1, y2, y3, y4, y5, y6, y7, y8, y9, y10⟩, fr, lt⟩ := h
  exact ⟨⟨y0, by rw [show (a.setSt i s).st.length = a.st.length from List.length_set]; exact y1, y2, y3, y4, y5, y6, y7, y8, y9, y10⟩, fr, lt⟩
/-- The stripes' row of a copy that lies in a box: its place, its cells, and what a store of a stripe leaves. -/
theorem Cb12.stripe {w W : World} {p r b p' r' : Nat} {a : Ar} {Y : Ax} (h : Cb12 w p r b a Y W) (hS : Sr12 p' r' b a Y W) (hn : Y.nw (r + 1)) {i : Nat} (hi : i < a.st.length) : ∃ b2, Y.A2 = some ⟨b2, 0, none⟩ ∧ b2 < W.heap.size ∧ (W.cell? ⟨b2, i * 4, none⟩ = some (.int .i64 (tg a.st i).sq) ∧ W.cell? ⟨b2, i * 4 + 1, none⟩ = some (.int .i64 (tg a.st i).ep) ∧ W.cell? ⟨b2, i * 4 + 2, none⟩ = some (.int .i64 (tg a.st i).rd) ∧ W.cell? ⟨b2, i * 4 + 3, none⟩ = some (.int .i64 (tg a.st i).ls)) ∧ (∀ o, W.frozen? ⟨b2, o, none⟩ = false) ∧ ∀ s, Cb12 w p r b (a.setSt i s) Y (sets4 W b2 (i * 4) s) := by
  obtain ⟨b2, e2, hc2, hr2, hne2, o1, o3, o4⟩ := hS (by omega)
  have hne := h.ne
  have hlo : r + 1 ≤ b2 := hn.n2 _ e2
  have htg : (tg a.st i).l = (a.st[i]).l := by unfold tg; rw [List.getD_eq_getElem?_getD, List.getElem?_eq_getElem hi]; rfl
  have g : ∀ j u, j < 4 → (tg a.st i).l[j]? = some u → W.cell? ⟨b2, i * 4 + j, none⟩ = some u := fun j u hj hu => hr2.c _ u (by rw [tcs_at a.st i j hi hj, ← htg]; exact hu)
  refine ⟨b2, e2, hr2.lt, ⟨g 0 _ (by omega) rfl, g 1 _ (by omega) rfl, g 2 _ (by omega) rfl, g 3 _ (by omega) rfl⟩, hr2.f, fun s => ?_⟩
  have n4 : w.heap.size ≤ b2 ∧ b2 ≠ b ∧ b2 ≠ p ∧ b2 ≠ r := ⟨by omega, hne2.1, by omega, by omega⟩
  have k0 : Kx w p r b b2 a Y (tcs a.st) W := ⟨h.pb, h.rb, h.ro, hr2, fun t ht => (h.sr t ht).1, h.ls.1, h.dr.1, h.bel⟩
  have hlen := tcs_len a.st
  have k4 := (((k0.step n4 o1 o3 o4 (j := i * 4) (by omega) (.int .i64 s.sq)).step n4 o1 o3 o4 (j := i * 4 + 1) (by rw [List.length_set]; omega) (.int .i64 s.ep)).step n4 o1 o3 o4 (j := i * 4 + 2) (by rw [List.length_set, List.length_set]; omega) (.int .i64 s.rd)).step n4 o1 o3 o4 (j := i * 4 + 3) (by rw [List.length_set, List.length_set, List.length_set]; omega) (.int .i64 s.ls)
  rw [tcs_set a.st i s hi] at k4
  have el : (a.setSt i s).st.length = a.st.length := List.length_set
  refine ⟨k4.pb.setSt i s, k4.rb, k4.ro, h.ea, h.ec, h.so, fun t ht => ⟨k4.sr t ht, (h.sr t ht).2⟩, ⟨?_, by rw [el]; exact h.tl.2.1, by rw [el]; exact h.tl.2.2.1, by rw [el]; exact h.tl.2.2.2⟩, ⟨k4.ls, h.ls.2⟩, ⟨k4.dr, h.dr.2⟩, h.ne, k4.bel⟩
  rw [e2]
  refine ⟨_, Y.c2, rfl, by rw [el]; exact hc2.1, hc2.2, ?_, fun _ => ⟨b2, 0, rfl, k4.r2.lt, fun j u hu => by rw [Nat.zero_add]; exact k4.r2.c j u hu⟩⟩
  show (tcs (a.st.set i s)).length = (a.setSt i s).st.length * 4
  rw [tcs_len]; rfl
theorem YT.far11 {W : World} {p q : Nat} {s : St} (h : YT W q s) (hpq : p ≠ q) (a : Ar) (Y : Ax) : YT (set11 W p a Y) q s := by
  obtain ⟨⟨t0, t1, t2, t3⟩, tl⟩ := h
  have n : ∀ i j, (⟨p, i, none⟩ : Addr) ≠ ⟨q, j, none⟩ := fun i j e => hpq (congrArg Addr.block e)
  have g : ∀ i v, W.cell? ⟨q, i, none⟩ = some v → (set11 W p a Y).cell? ⟨q, i, none⟩ = some v := fun i v h => by
    show World.cell? (set11 W p a Y) _ = _
    unfold set11
    rw [World.cell?_setCell_other _ _ _ _ (n 10 i), World.cell?_setCell_other _ _ _ _ (n 9 i), World.cell?_setCell_other _ _ _ _ (n 8 i), World.cell?_setCell_other _ _ _ _ (n 7 i), World.cell?_setCell_other _ _ _ _ (n 6 i), World.cell?_setCell_other _ _ _ _ (n 5 i), World.cell?_setCell_other _ _ _ _ (n 4 i), World.cell?_setCell_other _ _ _ _ (n 3 i), World.cell?_setCell_other _ _ _ _ (n 2 i), World.cell?_setCell_other _ _ _ _ (n 1 i), World.cell?_setCell_other _ _ _ _ (n 0 i)]
    exact h
  exact ⟨⟨g 0 _ t0, g 1 _ t1, g 2 _ t2, g 3 _ t3⟩, by rw [set11_size]; exact tl⟩
end Go.Proofs.Ytommkhjgockpfaa
namespace Go.Proofs.Ytommkhjgockpfaa
open Go.RowKit
set_option linter.unusedVariables false

/-- An arena's box and a result's of a shard. -/
structure Ls12 (w : World) (p r : Nat) (a : Ar) (Y : Ax) (W : World) : Prop where
  aw : Aw12 w p a Y W
  rb : SB8 W r zS zX
  rn : w.heap.size ≤ r ∧ p < r
theorem Ls12.below {w W W' : World} {p r : Nat} {a : Ar} {Y : Ax} (h : Ls12 w p r a Y W) (hb : Below W.heap.size W W') : Ls12 w p r a Y W' := ⟨h.aw.below hb, h.rb.up hb, h.rn⟩
theorem Ls12.start {w : World} {a : Ar} {Y : Ax} (har : AR w w.heap.size a Y) : Ls12 w w.heap.size (w.heap.size + 1) a Y ((w.alloc (.cells #[.slice Y.A a.sl.length Y.c, .slice Y.A2 a.st.length Y.c2, .int .i64 a.ow, .int .i64 a.cap, .slice Y.A3 a.dl.length Y.c3, .int .i64 a.dir.vn, .slice Y.D.A a.dir.l.length Y.D.c, .slice Y.D.A2 a.dir.F.length Y.D.c2, .int .i64 a.ep, .int .i64 a.ck, .int .i64 a.ni] 46)).alloc (.cells #[.bool false, .int .i64 0, .int .i64 0, .slice none 0 0, .int .i64 0, .int .i64 0, .slice none 0 0, .slice none 0 0] 71)) := by
  have h1 := SB8.zero (w.alloc (.cells #[.slice Y.A a.sl.length Y.c, .slice Y.A2 a.st.length Y.c2, .int .i64 a.ow, .int .i64 a.cap, .slice Y.A3 a.dl.length Y.c3, .int .i64 a.dir.vn, .slice Y.D.A a.dir.l.length Y.D.c, .slice Y.D.A2 a.dir.F.length Y.D.c2, .int .i64 a.ep, .int .i64 a.ck, .int .i64 a.ni] 46)) 71
  rw [show (w.alloc (.cells #[.slice Y.A a.sl.length Y.c, .slice Y.A2 a.st.length Y.c2, .int .i64 a.ow, .int .i64 a.cap, .slice Y.A3 a.dl.length Y.c3, .int .i64 a.dir.vn, .slice Y.D.A a.dir.l.length Y.D.c, .slice Y.D.A2 a.dir.F.length Y.D.c2, .int .i64 a.ep, .int .i64 a.ck, .int .i64 a.ni] 46)).heap.size = w.heap.size + 1 by simp] at h1
  exact ⟨(Aw12.start (Below.refl _ _) har).below ((Below.refl _ _).alloc (Nat.le_refl _) _), h1, by omega, by omega⟩
end Go.Proofs.Ytommkhjgockpfaa
namespace Go.Proofs.Ytommkhjgockpfaa
open Go.RowKit
set_option linter.unusedVariables false

/-- What is known of the arena. -/
structure Ca12 (a : Ar) (n : Nat) : Prop where
  sl : a.sl.length = n
  st : a.st.length = n
  fw : a.Few
  sq : ∀ i, i < n → (tg a.st i).sq = 0
  ow : ∀ i, i < n → a.own i = 0
theorem ca_nw {s : Su} (hs : s.Ok) : nwAE s = 0 ∧ ∃ n, 0 < n ∧ n ≤ 6 ∧ Ca12 (nwA s) n := by
  have hb := suB_iff.2 hs
  refine ⟨if_pos hb, s.sl.toNat, ?_⟩
  have hf := few_nw hb
  have hok := hs
  unfold Su.Ok at hok
  have e : nwA s = grA s s.sl.toNat s.sl.toNat s.dd := if_pos hb
  rw [e] at hf ⊢
  refine ⟨by omega, by omega, grA_sl _ _ _ _, grA_st _ _ _ _, hf, fun i hi => ?_, fun i hi => ?_⟩
  · show ((List.replicate s.sl.toNat (stE s)).getD i zSt).sq = 0
    rw [List.getD_eq_getElem?_getD, List.getElem?_replicate, if_pos hi]
    rfl
  · unfold Ar.own
    rw [grA_sl, if_neg (by omega), og_get (by rw [grA_sl]; exact hi)]
    simp [grA, nwSl]
section
variable {a : Ar} {n v : Nat} {t m : Int}
theorem Ar.Few.stripe (h : a.Few) (i : Nat) (s : St) : (a.setSt i s).Few := ⟨h.sl, by show (a.st.set i s).length ≤ 1000; rw [List.length_set]; exact h.st, h.dl, h.dr, h.sh⟩
end
end Go.Proofs.Ytommkhjgockpfaa
/- Plain: lockers that are stepped in turn: who owns what, and that all come to an end. -/
namespace Go.Proofs.Ytommkhjgockpfaa
open Go.RowKit
set_option linter.unusedVariables false

/-- How many cells a locker has. -/
def Lk.h (l : Lk) : Nat := l.hv.toNat
/-- A locker that comes from New and Step. -/
structure Ok13 (N : Nat) (T : Int) (l : Lk) : Prop where
  l1 : 1 ≤ l.cs.length
  l3 : l.cs.length ≤ 3
  asc : ∀ i j, i < j → j < l.cs.length → ig l.cs i < ig l.cs j
  rng : ∀ i, i < l.cs.length → 0 ≤ ig l.cs i ∧ ig l.cs i ≤ N
  hv : l.hv = (l.h : Int)
  tr : 0 ≤ l.tr ∧ l.tr ≤ T
  wt : 0 ≤ l.wt ∧ l.wt ≤ 3
  p : (l.ph = 0 ∧ l.h < l.cs.length) ∨ (l.ph = 1 ∧ 1 ≤ l.h ∧ l.h < l.cs.length) ∨ (l.ph = 2 ∧ l.h = 0 ∧ 1 ≤ l.wt) ∨ (l.ph = 3 ∧ l.h = l.cs.length) ∨ (l.ph = 4 ∧ 1 ≤ l.h ∧ l.h ≤ l.cs.length) ∨ (l.ph = 5 ∧ l.h = 0)
theorem Ok13.mono {N : Nat} {T T' : Int} {l : Lk} (h : Ok13 N T l) (ht : T ≤ T') : Ok13 N T' l := ⟨h.l1, h.l3, h.asc, h.rng, h.hv, ⟨h.tr.1, Int.le_trans h.tr.2 ht⟩, h.wt, h.p⟩
theorem Ok13.hle {N : Nat} {T : Int} {l : Lk} (h : Ok13 N T l) : l.h ≤ l.cs.length := by have := h.p; omega
theorem Ok13.sm {N : Nat} {T : Int} {l : Lk} (h : Ok13 N T l) (ht : T ≤ 1000000) : l.sm := by
  have h1 := h.hv; have h2 := h.hle; have h3 := h.l3; have h4 := h.tr; have h5 := h.wt
  exact ⟨by omega, by omega, by omega, by omega⟩
/-- A locker has a cell. -/
def Hl (l : Lk) (c : Nat) : Prop := ∃ i, i < l.h ∧ ig l.cs i = (c : Int)
/-- Who owns what. -/
structure Iv13 (N : Nat) (T : Int) (o : Nat → Int) (L : List Lk) : Prop where
  ok : ∀ (j : Nat) (l : Lk), L[j]? = some l → Ok13 N T l
  own : ∀ (j : Nat) (l : Lk) (c : Nat), L[j]? = some l → c ≤ N → (o c = (j : Int) + 1 ↔ Hl l c)
  fr : ∀ c : Nat, c ≤ N → o c = 0 ∨ ∃ j : Nat, j < L.length ∧ o c = (j : Int) + 1
/-- One owner is another. -/
def Upd (N : Nat) (o : Nat → Int) (c : Nat) (v : Int) (o' : Nat → Int) : Prop := ∀ x, x ≤ N → o' x = if x = c then v else o x
/-- A step of the locker k. -/
inductive St13 (N : Nat) (o : Nat → Int) (k : Nat) (l : Lk) : (Nat → Int) → Lk → Prop
  | acq (c : Nat) (o' : Nat → Int) : l.ph = 0 → l.h < l.cs.length → ig l.cs l.h = (c : Int) → c ≤ N → o c = 0 → Upd N o c ((k : Int) + 1) o' → St13 N o k l o' ⟨l.cs, if l.hv + 1 = l.cs.length then 3 else l.ph, l.hv + 1, l.tr, l.wt⟩
  | fail (c : Nat) (o' : Nat → Int) : l.ph = 0 → l.h < l.cs.length → ig l.cs l.h = (c : Int) → c ≤ N → o c ≠ 0 → (∀ x, x ≤ N → o' x = o x) → St13 N o k l o' (if 0 < l.hv then ⟨l.cs, 1, l.hv, l.tr, l.wt⟩ else l)
  | rel (c : Nat) (o' : Nat → Int) : l.ph = 1 ∨ l.ph = 4 → 1 ≤ l.h → l.h ≤ l.cs.length → ig l.cs (l.h - 1) = (c : Int) → c ≤ N → o c = (k : Int) + 1 → Upd N o c 0 o' → St13 N o k l o' (gbL l)
  | pause (o' : Nat → Int) : l.ph = 2 → (∀ x, x ≤ N → o' x = o x) → St13 N o k l o' (pzL l)
theorem set_some {L : List Lk} {k : Nat} {l l' : Lk} (h : L[k]? = some l) (j : Nat) (x : Lk) : (L.set k l')[j]? = some x ↔ (j = k ∧ x = l') ∨ (j ≠ k ∧ L[j]? = some x) := by
  have hk := (List.getElem?_eq_some_iff.1 h).1
  by_cases e : j = k
  · subst e
    rw [List.getElem?_set_self hk]
    simp [eq_comm]
  · rw [List.getElem?_set_ne (fun e' => e e'.symm)]
    simp [e]
section
variable {N : Nat} {T : Int} {o o' : Nat → Int} {L : List Lk} {k : Nat} {l l' : Lk}
theorem Ok13.step (h : Ok13 N T l) (hs : St13 N o k l o' l') : Ok13 N (T + 1) l' := by
  have h1 := h.hv; have h2 := h.l1; have h3 := h.l3; have h4 := h.tr; have h5 := h.wt; have hp := h.p
  cases hs with
  | acq c _ p0 hl hc hn h0 hu =>
    have e : (⟨l.cs, if l.hv + 1 = l.cs.length then 3 else l.ph, l.hv + 1, l.tr, l.wt⟩ : Lk).h = l.h + 1 := by show (l.hv + 1).toNat = l.h + 1; omega
    refine ⟨h2, h3, h.asc, h.rng, by rw [e]; show l.hv + 1 = _; omega, ⟨h4.1, by show l.tr ≤ _; omega⟩, h5, ?_⟩
    rw [e]
    show ((if l.hv + 1 = l.cs.length then 3 else l.ph) = 0 ∧ _) ∨ _
    by_cases hx : l.hv + 1 = l.cs.length
    · simp only [if_pos hx]
      exact .inr (.inr (.inr (.inl ⟨by first | rfl | trivial, by show l.h + 1 = l.cs.length; omega⟩)))
    · simp only [if_neg hx]
      exact .inl ⟨p0, by show l.h + 1 < l.cs.length; omega⟩
  | fail c _ p0 hl hc hn h0 hu =>
    by_cases hx : 0 < l.hv
    · rw [if_pos hx]
      exact ⟨h2, h3, h.asc, h.rng, h1, ⟨h4.1, by show l.tr ≤ _; omega⟩, h5, .inr (.inl ⟨rfl, by show 1 ≤ l.h; omega, hl⟩)⟩
    · rw [if_neg hx]
      exact h.mono (by omega)
  | rel c _ p0 hl1 hl hc hn h0 hu =>
    unfold gbL
    by_cases hx : 0 < l.hv - 1
    · rw [if_pos hx]
      have e : (⟨l.cs, l.ph, l.hv - 1, l.tr, l.wt⟩ : Lk).h = l.h - 1 := by show (l.hv - 1).toNat = l.h - 1; omega
      refine ⟨h2, h3, h.asc, h.rng, by rw [e]; show l.hv - 1 = _; omega, ⟨h4.1, by show l.tr ≤ _; omega⟩, h5, ?_⟩
      rw [e]
      show (l.ph = 0 ∧ l.h - 1 < l.cs.length) ∨ (l.ph = 1 ∧ 1 ≤ l.h - 1 ∧ l.h - 1 < l.cs.length) ∨ (l.ph = 2 ∧ l.h - 1 = 0 ∧ 1 ≤ l.wt) ∨ (l.ph = 3 ∧ l.h - 1 = l.cs.length) ∨ (l.ph = 4 ∧ 1 ≤ l.h - 1 ∧ l.h - 1 ≤ l.cs.length) ∨ (l.ph = 5 ∧ l.h - 1 = 0)
      omega
    · rw [if_neg hx]
      by_cases h4' : l.ph = 4
      · rw [if_pos h4']
        exact ⟨h2, h3, h.asc, h.rng, by show l.hv - 1 = ((l.hv - 1).toNat : Int); omega, ⟨h4.1, by show l.tr ≤ _; omega⟩, h5, .inr (.inr (.inr (.inr (.inr ⟨rfl, by show (l.hv - 1).toNat = 0; omega⟩))))⟩
      · rw [if_neg h4']
        exact ⟨h2, h3, h.asc, h.rng, by show l.hv - 1 = ((l.hv - 1).toNat : Int); omega, ⟨by show 0 ≤ l.tr + 1; omega, by show l.tr + 1 ≤ _; omega⟩, by show 0 ≤ min (l.tr + 1) 3 ∧ min (l.tr + 1) 3 ≤ 3; omega, .inr (.inr (.inl ⟨rfl, by show (l.hv - 1).toNat = 0; omega, by show 1 ≤ min (l.tr + 1) 3; omega⟩))⟩
  | pause _ p0 hu =>
    have e : l.h = 0 ∧ 1 ≤ l.wt := by omega
    refine ⟨h2, h3, h.asc, h.rng, h1, ⟨h4.1, by show l.tr ≤ _; omega⟩, by show 0 ≤ l.wt - 1 ∧ l.wt - 1 ≤ 3; omega, ?_⟩
    show ((if l.wt - 1 = 0 then 0 else l.ph) = 0 ∧ l.h < l.cs.length) ∨ ((if l.wt - 1 = 0 then 0 else l.ph) = 1 ∧ _) ∨ ((if l.wt - 1 = 0 then 0 else l.ph) = 2 ∧ l.h = 0 ∧ 1 ≤ l.wt - 1) ∨ _
    by_cases hx : l.wt - 1 = 0
    · rw [if_pos hx]
      exact .inl ⟨rfl, by omega⟩
    · rw [if_neg hx]
      exact .inr (.inr (.inl ⟨p0, e.1, by omega⟩))
/-- What a step does to what the locker has. -/
theorem hl_step (h : Ok13 N T l) (hs : St13 N o k l o' l') (ho : ∀ c, c ≤ N → (o c = (k : Int) + 1 ↔ Hl l c)) (c : Nat) (hc : c ≤ N) : o' c = (k : Int) + 1 ↔ Hl l' c := by
  have h1 := h.hv; have hp := h.p
  cases hs with
  | acq d _ p0 hl hd hn h0 hu =>
    rw [hu c hc]
    have e : (⟨l.cs, if l.hv + 1 = l.cs.length then 3 else l.ph, l.hv + 1, l.tr, l.wt⟩ : Lk).h = l.h + 1 := by show (l.hv + 1).toNat = l.h + 1; omega
    by_cases hcd : c = d
    · subst hcd
      rw [if_pos rfl]
      exact ⟨fun _ => ⟨l.h, by rw [e]; omega, hd⟩, fun _ => rfl⟩
    · rw [if_neg hcd, ho c hc]
      constructor
      · rintro ⟨i, hi, hx⟩
        exact ⟨i, by rw [e]; omega, hx⟩
      · rintro ⟨i, hi, hx⟩
        rw [e] at hi
        by_cases hil : i = l.h
        · subst hil
          have hx' : ig l.cs l.h = (c : Int) := hx
          rw [hd] at hx'
          omega
        · exact ⟨i, by omega, hx⟩
  | fail d _ p0 hl hd hn h0 hu =>
    rw [hu c hc, ho c hc]
    by_cases hx : 0 < l.hv
    · rw [if_pos hx]; exact Iff.rfl
    · rw [if_neg hx]
  | rel d _ p0 hl1 hl hd hn h0 hu =>
    rw [hu c hc]
    have e : (gbL l).h = l.h - 1 ∧ (gbL l).cs = l.cs := by
      unfold gbL
      split
      · exact ⟨by show (l.hv - 1).toNat = _; omega, rfl⟩
      · split
        · exact ⟨by show (l.hv - 1).toNat = _; omega, rfl⟩
        · exact ⟨by show (l.hv - 1).toNat = _; omega, rfl⟩
    have key : ∀ i, i < l.h - 1 → ig l.cs i ≠ (d : Int) := fun i hi hx => by
      have := h.asc i (l.h - 1) hi (by omega)
      omega
    by_cases hcd : c = d
    · subst hcd
      rw [if_pos rfl]
      constructor
      · intro h; omega
      · rintro ⟨i, hi, hx⟩
        rw [e.1] at hi
        rw [e.2] at hx
        exact absurd hx (key i hi)
    · rw [if_neg hcd, ho c hc]
      constructor
      · rintro ⟨i, hi, hx⟩
        refine ⟨i, ?_, by rw [e.2]; exact hx⟩
        rw [e.1]
        by_cases hil : i = l.h - 1
        · subst hil; rw [hd] at hx; omega
        · omega
      · rintro ⟨i, hi, hx⟩
        rw [e.1] at hi
        rw [e.2] at hx
        exact ⟨i, by omega, hx⟩
  | pause _ p0 hu =>
    rw [hu c hc, ho c hc]
    exact Iff.rfl
/-- A step changes one owner only, to the task or from it. -/
theorem o_step (hs : St13 N o k l o' l') (c : Nat) (hc : c ≤ N) : o' c = o c ∨ (o c = 0 ∧ o' c = (k : Int) + 1) ∨ (o c = (k : Int) + 1 ∧ o' c = 0) := by
  cases hs with
  | acq d _ p0 hl hd hn h0 hu => rw [hu c hc]; split <;> simp_all
  | fail d _ p0 hl hd hn h0 hu => exact .inl (hu c hc)
  | rel d _ p0 hl1 hl hd hn h0 hu => rw [hu c hc]; split <;> simp_all
  | pause _ p0 hu => exact .inl (hu c hc)
theorem Iv13.step (h : Iv13 N T o L) (hk : L[k]? = some l) (hs : St13 N o k l o' l') : Iv13 N (T + 1) o' (L.set k l') := by
  have hkl := (List.getElem?_eq_some_iff.1 hk).1
  refine ⟨fun j x hx => ?_, fun j x c hx hc => ?_, fun c hc => ?_⟩
  · rcases (set_some hk j x).1 hx with ⟨rfl, rfl⟩ | ⟨hj, hx⟩
    · exact (h.ok _ _ hk).step hs
    · exact (h.ok _ _ hx).mono (by omega)
  · rcases (set_some hk j x).1 hx with ⟨rfl, rfl⟩ | ⟨hj, hx⟩
    · exact hl_step (h.ok _ _ hk) hs (fun c hc => h.own _ _ c hk hc) c hc
    · rw [← h.own j x c hx hc]
      have := o_step hs c hc
      omega
  · rw [List.length_set]
    rcases h.fr c hc with h0 | ⟨j, hj, h1⟩
    · have := o_step hs c hc
      by_cases e : o' c = 0
      · exact .inl e
      · exact .inr ⟨k, hkl, by omega⟩
    · have := o_step hs c hc
      by_cases e : o' c = 0
      · exact .inl e
      · exact .inr ⟨j, hj, by omega⟩
/-- A locker that has all its cells gives them back. -/
theorem Iv13.free (h : Iv13 N T o L) (hk : L[k]? = some l) (h3 : l.ph = 3) : Iv13 N T o (L.set k (frL l)) := by
  have e : frL l = ⟨l.cs, 4, l.hv, l.tr, l.wt⟩ := if_pos h3
  rw [e]
  refine ⟨fun j x hx => ?_, fun j x c hx hc => ?_, fun c hc => by rw [List.length_set]; exact h.fr c hc⟩
  · rcases (set_some hk j x).1 hx with ⟨rfl, rfl⟩ | ⟨hj, hx⟩
    · have g := h.ok _ _ hk
      have hp := g.p
      exact ⟨g.l1, g.l3, g.asc, g.rng, g.hv, g.tr, g.wt, .inr (.inr (.inr (.inr (.inl ⟨rfl, by show 1 ≤ l.h; have := g.l1; omega, by show l.h ≤ l.cs.length; omega⟩))))⟩
    · exact h.ok _ _ hx
  · rcases (set_some hk j x).1 hx with ⟨rfl, rfl⟩ | ⟨hj, hx⟩
    · exact h.own j l c hk hc
    · exact h.own _ _ c hx hc
end
end Go.Proofs.Ytommkhjgockpfaa
