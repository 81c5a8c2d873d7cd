/- What is proved here: (lemmas) an arena that is copied in its box: its slots' row, its other lists; arena.cloneShard by a contract; arena.cloneDir by a contract; arena.clone by a contract; '==' and '!=' of two stripes; slices.Equal, stripe.Same, ref11.Same by contracts. -/
import Derived.Test.YtijpflljopckiaaJ12
import Derived.Test.YtijpflljopckiaaJ17
import Derived.Test.YtijpflljopckiaaJ29
import Derived.Test.YtijpflljopckiaaRows
import Derived.Test.YtijpflljopckiaaJ02
import Derived.WalkKit
import Derived.Outline
import Derived.IntWalk
import Derived.Deep.AppendLies
import Derived.WalkSpells
import Derived.Lib.AppendZerosOnto
import Derived.Deep.RegionHeld3
import Derived.Test.YtijpflljopckiaaJ19
import Derived.Test.YtijpflljopckiaaJ24
import Derived.Deep.DeepCutAuto
import Derived.Test.YtijpflljopckiaaJ13
import Derived.Below
import Derived.Deep.QuietTactic
import Derived.Laws.StructEq
import Derived.KernelRfl
import Derived.BigQuiet
namespace Go.Proofs.Ytijpflljopckiaa
open Go.RowKit
set_option linter.unusedVariables false

theorem sl_app_set (s : Sl) (X : List Value) (k : Nat) (v : Value) : (s.l ++ X).set (9 + k) v = s.l ++ X.set k v := by
  rw [List.set_append_right _ _ (by rw [Sl.l_len]; omega), Sl.l_len, Nat.add_sub_cancel_left]
theorem qcs_set (Q : List Sl) (i : Nat) (x : Int) (S : Sh) (D E : Sx) (h : Q[i]? = some ⟨x, S, D⟩) : (((((((((qcs Q).set (i * 9 + 1) (.bool S.lv)).set (i * 9 + 2) (.int .i64 S.lo)).set (i * 9 + 3) (.int .i64 S.hi)).set (i * 9 + 4) (.slice E.A S.cs.length E.c)).set (i * 9 + 5) (.int .i64 S.hd)).set (i * 9 + 6) (.int .i64 S.sz)).set (i * 9 + 7) (.slice E.A2 S.l.length E.c2)).set (i * 9 + 8) (.slice E.A3 S.h.length E.c3)) = qcs (Q.set i ⟨x, S, E⟩) := by
  induction Q generalizing i with
  | nil => simp at h
  | cons s Q ih =>
    cases i with
    | zero =>
      simp only [List.getElem?_cons_zero, Option.some.injEq] at h
      subst h
      rfl
    | succ i =>
      simp only [List.getElem?_cons_succ] at h
      have e : ∀ k, (i + 1) * 9 + k = 9 + (i * 9 + k) := fun k => by omega
      rw [qcs_cons, List.set_cons_succ, qcs_cons, ← ih i h, e 1, e 2, e 3, e 4, e 5, e 6, e 7, e 8, sl_app_set, sl_app_set, sl_app_set, sl_app_set, sl_app_set, sl_app_set, sl_app_set, sl_app_set]
/-- The eight stores of a shard from an offset on. -/
abbrev sets8 (W : World) (b o : Nat) (S : Sh) (E : Sx) : World := ((((((((W.setCell ⟨b, o + 1, none⟩ (.bool S.lv)).setCell ⟨b, o + 2, none⟩ (.int .i64 S.lo)).setCell ⟨b, o + 3, none⟩ (.int .i64 S.hi)).setCell ⟨b, o + 4, none⟩ (.slice E.A S.cs.length E.c)).setCell ⟨b, o + 5, none⟩ (.int .i64 S.hd)).setCell ⟨b, o + 6, none⟩ (.int .i64 S.sz)).setCell ⟨b, o + 7, none⟩ (.slice E.A2 S.l.length E.c2)).setCell ⟨b, o + 8, none⟩ (.slice E.A3 S.h.length E.c3))
section
variable {W W' : World} {b o : Nat} {S : Sh} {D E : Sx}
theorem Rb.sets8 {cs : List Value} (h : Rb W b cs) (ho : o + 8 < cs.length) : Rb (sets8 W b o S E) b ((((((((cs.set (o + 1) (.bool S.lv)).set (o + 2) (.int .i64 S.lo)).set (o + 3) (.int .i64 S.hi)).set (o + 4) (.slice E.A S.cs.length E.c)).set (o + 5) (.int .i64 S.hd)).set (o + 6) (.int .i64 S.sz)).set (o + 7) (.slice E.A2 S.l.length E.c2)).set (o + 8) (.slice E.A3 S.h.length E.c3)) := ((((((((h.set (j := o + 1) (by first | omega | (simp only [List.length_set]; omega)) (.bool S.lv)).set (j := o + 2) (by first | omega | (simp only [List.length_set]; omega)) (.int .i64 S.lo)).set (j := o + 3) (by first | omega | (simp only [List.length_set]; omega)) (.int .i64 S.hi)).set (j := o + 4) (by first | omega | (simp only [List.length_set]; omega)) (.slice E.A S.cs.length E.c)).set (j := o + 5) (by first | omega | (simp only [List.length_set]; omega)) (.int .i64 S.hd)).set (j := o + 6) (by first | omega | (simp only [List.length_set]; omega)) (.int .i64 S.sz)).set (j := o + 7) (by first | omega | (simp only [List.length_set]; omega)) (.slice E.A2 S.l.length E.c2)).set (j := o + 8) (by first | omega | (simp only [List.length_set]; omega)) (.slice E.A3 S.h.length E.c3))
theorem Rb.ql {Q : List Sl} {c n : Nat} (h : Rb W b (qcs Q)) (hn : n = Q.length) (hc : n ≤ c) (hm : c ≤ maxLen) : Ql W W.heap.size (.slice (some ⟨b, 0, none⟩) n c) Q := by
  subst hn
  exact ⟨_, c, rfl, hc, hm, by rw [qcs_len], fun _ => ⟨b, 0, rfl, h.lt, fun j u hu => by rw [Nat.zero_add]; exact h.c j u hu⟩⟩
theorem sets8_far {x : Addr} (hx : x.block ≠ b) : (sets8 W b o S E).cell? x = W.cell? x := by
  have g : ∀ (w : World) (k : Nat) (v : Value), (w.setCell ⟨b, k, none⟩ v).cell? x = w.cell? x := fun w k v => World.cell?_setCell_other w _ x v (fun e => hx (by rw [← e]))
  unfold sets8
  rw [g, g, g, g, g, g, g, g]
theorem sets8_frozen (x : Addr) : (sets8 W b o S E).frozen? x = W.frozen? x := by simp [go_sem]
theorem sets8_below {B : Nat} {w : World} (h : Below B w W) (hb : B ≤ b) : Below B w (sets8 W b o S E) :=
  (((((((h.setCell (p := ⟨b, o + 1, none⟩) hb _).setCell (p := ⟨b, o + 2, none⟩) hb _).setCell (p := ⟨b, o + 3, none⟩) hb _).setCell (p := ⟨b, o + 4, none⟩) hb _).setCell (p := ⟨b, o + 5, none⟩) hb _).setCell (p := ⟨b, o + 6, none⟩) hb _).setCell (p := ⟨b, o + 7, none⟩) hb _).setCell (p := ⟨b, o + 8, none⟩) hb _
theorem SR.sets8 {S' : Sh} {D' : Sx} (h : SR W W.heap.size S' D') (ho : SOff S' D' b) : SR (sets8 W b o S E) (sets8 W b o S E).heap.size S' D' :=
  ((((((((h.offp (p := ⟨b, o + 1, none⟩) ho _).offp (p := ⟨b, o + 2, none⟩) ho _).offp (p := ⟨b, o + 3, none⟩) ho _).offp (p := ⟨b, o + 4, none⟩) ho _).offp (p := ⟨b, o + 5, none⟩) ho _).offp (p := ⟨b, o + 6, none⟩) ho _).offp (p := ⟨b, o + 7, none⟩) ho _).offp (p := ⟨b, o + 8, none⟩) ho _).more (by simp)
theorem Tl.sets8 {A : Option Addr} {n c : Nat} {l : List St} (h : Tl W W.heap.size (.slice A n c) l) (ho : OffB b n A) : Tl (sets8 W b o S E) (sets8 W b o S E).heap.size (.slice A n c) l :=
  ((((((((h.offb (p := ⟨b, o + 1, none⟩) ho _).offb (p := ⟨b, o + 2, none⟩) ho _).offb (p := ⟨b, o + 3, none⟩) ho _).offb (p := ⟨b, o + 4, none⟩) ho _).offb (p := ⟨b, o + 5, none⟩) ho _).offb (p := ⟨b, o + 6, none⟩) ho _).offb (p := ⟨b, o + 7, none⟩) ho _).offb (p := ⟨b, o + 8, none⟩) ho _).more (by simp)
theorem Ls.sets8 {A : Option Addr} {n c : Nat} {l : List Msg} (h : Ls W W.heap.size (.slice A n c) l) (ho : OffB b n A) : Ls (sets8 W b o S E) (sets8 W b o S E).heap.size (.slice A n c) l :=
  ((((((((h.offp (p := ⟨b, o + 1, none⟩) ho _).offp (p := ⟨b, o + 2, none⟩) ho _).offp (p := ⟨b, o + 3, none⟩) ho _).offp (p := ⟨b, o + 4, none⟩) ho _).offp (p := ⟨b, o + 5, none⟩) ho _).offp (p := ⟨b, o + 6, none⟩) ho _).offp (p := ⟨b, o + 7, none⟩) ho _).offp (p := ⟨b, o + 8, none⟩) ho _).more (by simp)
theorem DR.sets8 {d : Dd} {X : Dx} (h : DR W W.heap.size d X) (ho : DOff d X b) : DR (sets8 W b o S E) (sets8 W b o S E).heap.size d X :=
  ((((((((h.offp (q := ⟨b, o + 1, none⟩) ho _).offp (q := ⟨b, o + 2, none⟩) ho _).offp (q := ⟨b, o + 3, none⟩) ho _).offp (q := ⟨b, o + 4, none⟩) ho _).offp (q := ⟨b, o + 5, none⟩) ho _).offp (q := ⟨b, o + 6, none⟩) ho _).offp (q := ⟨b, o + 7, none⟩) ho _).offp (q := ⟨b, o + 8, none⟩) ho _).more (by simp)
end
/-- A box p of an arena whose slots lie in the row b of the call's own; a result's box r. -/
structure Cb12 (w : World) (p r b : Nat) (a : Ar) (Y : Ax) (W : World) : Prop where
  pb : QB W p a Y
  rb : QB W r zA zAx
  ro : Rb W b (qcs Y.q)
  ea : Y.A = some ⟨b, 0, none⟩
  ec : a.sl.length ≤ Y.c ∧ Y.c ≤ maxLen
  so : Y.q.map Sl.so = a.sl
  sr : ∀ t ∈ Y.q, SR W W.heap.size t.sh t.sx ∧ SOff t.sh t.sx b ∧ SOff t.sh t.sx p ∧ SOff t.sh t.sx r
  tl : Tl W W.heap.size (.slice Y.A2 a.st.length Y.c2) a.st ∧ OffB b a.st.length Y.A2 ∧ OffB p a.st.length Y.A2 ∧ OffB r a.st.length Y.A2
  ls : Ls W W.heap.size (.slice Y.A3 a.dl.length Y.c3) a.dl ∧ OffB b a.dl.length Y.A3 ∧ OffB p a.dl.length Y.A3 ∧ OffB r a.dl.length Y.A3
  dr : DR W W.heap.size a.dir Y.D ∧ DOff a.dir Y.D b ∧ DOff a.dir Y.D p ∧ DOff a.dir Y.D r
  ne : w.heap.size ≤ p ∧ p < r ∧ r < b
  bel : Below w.heap.size w W
section
variable {w W W' : World} {p r b : Nat} {a : Ar} {Y : Ax}
theorem Cb12.len (h : Cb12 w p r b a Y W) : Y.q.length = a.sl.length := by rw [← h.so]; simp
theorem Cb12.ar (h : Cb12 w p r b a Y W) : AR W W.heap.size a Y :=
  ⟨by rw [h.ea]; exact h.ro.ql h.len.symm h.ec.1 h.ec.2, h.so, fun t ht => (h.sr t ht).1, h.tl.1, h.ls.1, h.dr.1⟩
theorem Cb12.below (h : Cb12 w p r b a Y W) (hb : Below W.heap.size W W') : Cb12 w p r b a Y W' :=
  ⟨h.pb.up hb, h.rb.up hb, h.ro.up hb, h.ea, h.ec, h.so, fun t ht => ⟨(h.sr t ht).1.up hb, (h.sr t ht).2⟩, ⟨h.tl.1.up hb, h.tl.2⟩, ⟨h.ls.1.up hb, h.ls.2⟩, ⟨h.dr.1.up hb, h.dr.2⟩, h.ne, h.bel.trans (hb.mono h.bel.size)⟩
/-- A slot's shard is stored. -/
theorem Cb12.slot (h : Cb12 w p r b a Y W) {i : Nat} {x : Int} {S : Sh} {D E : Sx} (hi : Y.q[i]? = some ⟨x, S, D⟩) (hr : SR W W.heap.size S E) (hn : E.nw (b + 1)) : Cb12 w p r b a ⟨Y.A, Y.c, Y.q.set i ⟨x, S, E⟩, Y.A2, Y.c2, Y.A3, Y.c3, Y.D⟩ (sets8 W b (i * 9) S E) := by
  have hne := h.ne
  have hl := (List.getElem?_eq_some_iff.1 hi).1
  have ht : ∀ t ∈ Y.q.set i ⟨x, S, E⟩, t ∈ Y.q ∨ t = ⟨x, S, E⟩ := fun t ht => by
    rcases List.mem_or_eq_of_mem_set ht with h1 | h1
    · exact .inl h1
    · exact .inr h1
  have h2 := h.ro.sets8 (o := i * 9) (S := S) (E := E) (by rw [qcs_len]; omega)
  rw [qcs_set Y.q i x S D E hi] at h2
  have hq : QB (sets8 W b (i * 9) S E) p a Y := h.pb.keep (fun o => sets8_far (show p ≠ b by omega)) (fun o => sets8_frozen _) (show W.heap.size ≤ (sets8 W b (i * 9) S E).heap.size by simp)
  refine ⟨⟨hq.k, hq.fr, hq.lt⟩, h.rb.keep (fun o => sets8_far (show r ≠ b by omega)) (fun o => sets8_frozen _) (show W.heap.size ≤ (sets8 W b (i * 9) S E).heap.size by simp), h2, h.ea, h.ec, ?_, fun t hm => ?_, ⟨h.tl.1.sets8 h.tl.2.1, h.tl.2⟩, ⟨h.ls.1.sets8 h.ls.2.1, h.ls.2⟩, ⟨h.dr.1.sets8 h.dr.2.1, h.dr.2⟩, h.ne, sets8_below h.bel (by omega)⟩
  · show (Y.q.set i ⟨x, S, E⟩).map Sl.so = a.sl
    rw [List.map_set, ← h.so]
    have e : (Y.q.map Sl.so)[i]? = some (Sl.so ⟨x, S, D⟩) := by rw [List.getElem?_map, hi]; rfl
    obtain ⟨e1, e2⟩ := List.getElem?_eq_some_iff.1 e
    rw [show Sl.so ⟨x, S, E⟩ = (Y.q.map Sl.so)[i] from e2.symm]
    exact List.set_getElem_self e1
  · rcases ht t hm with h1 | rfl
    · exact ⟨(h.sr t h1).1.sets8 (h.sr t h1).2.1, (h.sr t h1).2⟩
    · exact ⟨hr.sets8 (hn.off (Nat.lt_succ_self b)), hn.off (Nat.lt_succ_self b), hn.off (by omega), hn.off (by omega)⟩
/-- What a store into the box p leaves. -/
theorem Cb12.keep (h : Cb12 w p r b a Y W) (j : Nat) (v : Value) : (∀ t ∈ Y.q, SR (W.setCell ⟨p, j, none⟩ v) (W.setCell ⟨p, j, none⟩ v).heap.size t.sh t.sx) ∧ Tl (W.setCell ⟨p, j, none⟩ v) (W.setCell ⟨p, j, none⟩ v).heap.size (.slice Y.A2 a.st.length Y.c2) a.st ∧ Ls (W.setCell ⟨p, j, none⟩ v) (W.setCell ⟨p, j, none⟩ v).heap.size (.slice Y.A3 a.dl.length Y.c3) a.dl ∧ DR (W.setCell ⟨p, j, none⟩ v) (W.setCell ⟨p, j, none⟩ v).heap.size a.dir Y.D ∧ QB (W.setCell ⟨p, j, none⟩ v) r zA zAx ∧ Rb (W.setCell ⟨p, j, none⟩ v) b (qcs Y.q) ∧ Below w.heap.size w (W.setCell ⟨p, j, none⟩ v) := by
  have hne := h.ne
  exact ⟨fun t ht => ((h.sr t ht).1.offp (p := ⟨p, j, none⟩) (h.sr t ht).2.2.1 v).more (by simp), (h.tl.1.offb (p := ⟨p, j, none⟩) h.tl.2.2.1 v).more (by simp), (h.ls.1.offp (p := ⟨p, j, none⟩) h.ls.2.2.1 v).more (by simp), (h.dr.1.offp (q := ⟨p, j, none⟩) h.dr.2.2.1 v).more (by simp), h.rb.other (x := ⟨p, j, none⟩) (show p ≠ r by omega) v, h.ro.other (a := ⟨p, j, none⟩) (show p ≠ b by omega) v, h.bel.setCell (p := ⟨p, j, none⟩) hne.1 v⟩
/-- The directory is stored. -/
theorem Cb12.dir (h : Cb12 w p r b a Y W) {X : Dx} (hd : DR W W.heap.size a.dir X) (hn : X.nw (b + 1)) : Cb12 w p r b a ⟨Y.A, Y.c, Y.q, Y.A2, Y.c2, Y.A3, Y.c3, X⟩ (((W.setCell ⟨p, 5, none⟩ (.int .i64 a.dir.vn)).setCell ⟨p, 6, none⟩ (.slice X.A a.dir.l.length X.c)).setCell ⟨p, 7, none⟩ (.slice X.A2 a.dir.F.length X.c2)) := by
  have hne := h.ne
  have hpb := h.pb.setDir a.dir X
  have ho : DOff a.dir X p := hn.off (by omega)
  obtain ⟨k1, k2, k3, k4, k5, k6, k7⟩ := h.keep 5 (.int .i64 a.dir.vn)
  exact ⟨hpb, (k5.other (x := ⟨p, 6, none⟩) (show p ≠ r by omega) _).other (x := ⟨p, 7, none⟩) (show p ≠ r by omega) _, (k6.other (a := ⟨p, 6, none⟩) (show p ≠ b by omega) _).other (a := ⟨p, 7, none⟩) (show p ≠ b by omega) _, h.ea, h.ec, h.so, fun t ht => ⟨(((k1 t ht).offp (p := ⟨p, 6, none⟩) (h.sr t ht).2.2.1 _).offp (p := ⟨p, 7, none⟩) (h.sr t ht).2.2.1 _).more (by simp), (h.sr t ht).2⟩, ⟨((k2.offb (p := ⟨p, 6, none⟩) h.tl.2.2.1 _).offb (p := ⟨p, 7, none⟩) h.tl.2.2.1 _).more (by simp), h.tl.2⟩, ⟨((k3.offp (p := ⟨p, 6, none⟩) h.ls.2.2.1 _).offp (p := ⟨p, 7, none⟩) h.ls.2.2.1 _).more (by simp), h.ls.2⟩,
    ⟨(((hd.offp (q := ⟨p, 5, none⟩) ho _).offp (q := ⟨p, 6, none⟩) ho _).offp (q := ⟨p, 7, none⟩) ho _).more (by simp), hn.off (Nat.lt_succ_self b), ho, hn.off (by omega)⟩, h.ne, (k7.setCell (p := ⟨p, 6, none⟩) hne.1 _).setCell (p := ⟨p, 7, none⟩) hne.1 _⟩
end
/-- A copy of an arena as a result: its lists are new, its slots lie in a row of their own. -/
def AvP (w : World) (a : Ar) (e : Ending) (w' : World) : Prop := ∃ (Y : Ax) (b : Nat), e = .returned (av a Y) ∧ Y.nw w.heap.size ∧ AR w' w'.heap.size a Y ∧ Below w.heap.size w w' ∧ Y.A = some ⟨b, 0, none⟩ ∧ (a.sl.length ≤ Y.c ∧ Y.c ≤ maxLen) ∧ Rb w' b (qcs Y.q) ∧ (∀ t ∈ Y.q, SOff t.sh t.sx b) ∧ OffB b a.st.length Y.A2 ∧ OffB b a.dl.length Y.A3 ∧ DOff a.dir Y.D b
theorem Rb.set11 {W : World} {b r : Nat} {cs : List Value} (h : Rb W b cs) (hr : r ≠ b) (a : Ar) (Y : Ax) : Rb (set11 W r a Y) b cs :=
  ((((((((((h.other (a := ⟨r, 0, none⟩) hr _).other (a := ⟨r, 1, none⟩) hr _).other (a := ⟨r, 2, none⟩) hr _).other (a := ⟨r, 3, none⟩) hr _).other (a := ⟨r, 4, none⟩) hr _).other (a := ⟨r, 5, none⟩) hr _).other (a := ⟨r, 6, none⟩) hr _).other (a := ⟨r, 7, none⟩) hr _).other (a := ⟨r, 8, none⟩) hr _).other (a := ⟨r, 9, none⟩) hr _).other (a := ⟨r, 10, none⟩) hr _
theorem Cb12.out {w W : World} {p r b : Nat} {a : Ar} {Y : Ax} (h : Cb12 w p r b a Y W) (hn : Y.nw (r + 1)) : AvP w a (.returned (av a Y)) (set11 W r a Y) := by
  have hne := h.ne
  exact ⟨Y, b, rfl, hn.low (by omega), (h.ar.set11 (hn.off (Nat.lt_succ_self r)) a Y).more (by rw [set11_size]; exact Nat.le_refl _), set11_below h.bel (by omega) a Y, h.ea, h.ec, h.ro.set11 (by omega) a Y, fun t ht => (h.sr t ht).2.1, h.tl.2.1, h.ls.2.1, h.dr.2.1⟩
end Go.Proofs.Ytijpflljopckiaa
namespace Go.Proofs.Ytijpflljopckiaa
open Go.RowKit
set_option linter.unusedVariables false

/-- A shard's box and the result's. -/
structure Cs12 (w : World) (p r : Nat) (S : Sh) (D : Sx) (W : World) : Prop where
  sa : SAt w p S D W
  rb : SB8 W r zS zX
  ne : p < r ∧ w.heap.size ≤ r
section
variable {w W W' : World} {p r : Nat} {S : Sh} {D : Sx}
theorem Cs12.below (h : Cs12 w p r S D W) (hb : Below W.heap.size W W') : Cs12 w p r S D W' := ⟨h.sa.below hb, h.rb.up hb, h.ne⟩
theorem Cs12.start (hs : SR w w.heap.size S D) : Cs12 w w.heap.size (w.heap.size + 1) S D ((w.alloc (.cells #[.bool S.lv, .int .i64 S.lo, .int .i64 S.hi, .slice D.A S.cs.length D.c, .int .i64 S.hd, .int .i64 S.sz, .slice D.A2 S.l.length D.c2, .slice D.A3 S.h.length D.c3] 85)).alloc (.cells #[.bool false, .int .i64 0, .int .i64 0, .slice none 0 0, .int .i64 0, .int .i64 0, .slice none 0 0, .slice none 0 0] 85)) := by
  have h1 := SB8.zero (w.alloc (.cells #[.bool S.lv, .int .i64 S.lo, .int .i64 S.hi, .slice D.A S.cs.length D.c, .int .i64 S.hd, .int .i64 S.sz, .slice D.A2 S.l.length D.c2, .slice D.A3 S.h.length D.c3] 85)) 85
  rw [show (w.alloc (.cells #[.bool S.lv, .int .i64 S.lo, .int .i64 S.hi, .slice D.A S.cs.length D.c, .int .i64 S.hd, .int .i64 S.sz, .slice D.A2 S.l.length D.c2, .slice D.A3 S.h.length D.c3] 85)).heap.size = w.heap.size + 1 by simp] at h1
  exact ⟨(SAt.start _ hs).below ((Below.refl _ _).alloc (Nat.le_refl _) _), h1, by omega, by omega⟩
end
end Go.Proofs.Ytijpflljopckiaa
namespace Go.Proofs.Ytijpflljopckiaa
open Go.RowKit
set_option linter.unusedVariables false

/-- A directory's box and the result's. -/
structure Cd12 (w : World) (p r : Nat) (d : Dd) (X : Dx) (W : World) : Prop where
  da : DAt w p d X W
  rb : Db10 W r zD10 zDx
  ne : p < r
section
variable {w W W' : World} {p r : Nat} {d : Dd} {X : Dx}
theorem Cd12.below (h : Cd12 w p r d X W) (hb : Below W.heap.size W W') : Cd12 w p r d X W' := ⟨h.da.below hb, h.rb.up hb, h.ne⟩
theorem Cd12.start (hd : DR w w.heap.size d X) : Cd12 w w.heap.size (w.heap.size + 1) d X ((w.alloc (.cells #[.int .i64 d.vn, .slice X.A d.l.length X.c, .slice X.A2 d.F.length X.c2] 34)).alloc (.cells #[.int .i64 0, .slice none 0 0, .slice none 0 0] 34)) := by
  have h1 := Db10.zero (w.alloc (.cells #[.int .i64 d.vn, .slice X.A d.l.length X.c, .slice X.A2 d.F.length X.c2] 34)) 34
  rw [show (w.alloc (.cells #[.int .i64 d.vn, .slice X.A d.l.length X.c, .slice X.A2 d.F.length X.c2] 34)).heap.size = w.heap.size + 1 by simp] at h1
  exact ⟨(DAt.start _ hd).below ((Below.refl _ _).alloc (Nat.le_refl _) _), h1, by omega⟩
end
theorem DR.two {W : World} {d : Dd} {X : Dx} {p : Nat} (h : DR W W.heap.size d X) (ho : DOff d X p) (u v : Value) : DR ((W.setCell ⟨p, 1, none⟩ u).setCell ⟨p, 2, none⟩ v) ((W.setCell ⟨p, 1, none⟩ u).setCell ⟨p, 2, none⟩ v).heap.size d X :=
  ((h.offp (q := ⟨p, 1, none⟩) ho u).offp (q := ⟨p, 2, none⟩) ho v).more (by simp)
end Go.Proofs.Ytijpflljopckiaa
namespace Go.Proofs.Ytijpflljopckiaa
open Go.RowKit
set_option linter.unusedVariables false

/-- An arena of few slots with short lists. -/
structure Ar.Few (a : Ar) : Prop where
  sl : 0 < a.sl.length ∧ a.sl.length ≤ 1000
  st : a.st.length ≤ 1000
  dl : a.dl.length ≤ 1000
  dr : a.dir.l.length ≤ 1000 ∧ a.dir.F.length ≤ 1000
  sh : ∀ s ∈ a.sl, s.sh.cs.length ≤ 1000 ∧ s.sh.l.length ≤ 1000 ∧ s.sh.h.length ≤ 1000
/-- The box of an arena and the result's. -/
structure Ci12 (w : World) (p r : Nat) (a : Ar) (Y : Ax) (W : World) : Prop where
  pb : QB W p a Y
  rb : QB W r zA zAx
  ar : AR W w.heap.size a Y
  ne : w.heap.size ≤ p ∧ p < r
  bel : Below w.heap.size w W
section
variable {w W W' : World} {p r b : Nat} {a : Ar} {Y : Ax}
theorem Ci12.below (h : Ci12 w p r a Y W) (hb : Below W.heap.size W W') : Ci12 w p r a Y W' := ⟨h.pb.up hb, h.rb.up hb, h.ar.below (hb.mono h.bel.size), h.ne, h.bel.trans (hb.mono h.bel.size)⟩
theorem Ci12.start (har : AR w w.heap.size a Y) : Ci12 w w.heap.size (w.heap.size + 1) a Y ((w.alloc (.cells #[.slice Y.A a.sl.length Y.c, .slice Y.A2 a.st.length Y.c2, .int .i64 a.ow, .int .i64 a.cap, .slice Y.A3 a.dl.length Y.c3, .int .i64 a.dir.vn, .slice Y.D.A a.dir.l.length Y.D.c, .slice Y.D.A2 a.dir.F.length Y.D.c2, .int .i64 a.ep, .int .i64 a.ck, .int .i64 a.ni] 36)).alloc (.cells #[.slice none 0 0, .slice none 0 0, .int .i64 0, .int .i64 0, .slice none 0 0, .int .i64 0, .slice none 0 0, .slice none 0 0, .int .i64 0, .int .i64 0, .int .i64 0] 36)) := by
  have h1 := QB.start (w.alloc (.cells #[.slice Y.A a.sl.length Y.c, .slice Y.A2 a.st.length Y.c2, .int .i64 a.ow, .int .i64 a.cap, .slice Y.A3 a.dl.length Y.c3, .int .i64 a.dir.vn, .slice Y.D.A a.dir.l.length Y.D.c, .slice Y.D.A2 a.dir.F.length Y.D.c2, .int .i64 a.ep, .int .i64 a.ck, .int .i64 a.ni] 36)) zA zAx 36
  rw [show (w.alloc (.cells #[.slice Y.A a.sl.length Y.c, .slice Y.A2 a.st.length Y.c2, .int .i64 a.ow, .int .i64 a.cap, .slice Y.A3 a.dl.length Y.c3, .int .i64 a.dir.vn, .slice Y.D.A a.dir.l.length Y.D.c, .slice Y.D.A2 a.dir.F.length Y.D.c2, .int .i64 a.ep, .int .i64 a.ck, .int .i64 a.ni] 36)).heap.size = w.heap.size + 1 by simp] at h1
  have b2 : Below w.heap.size w ((w.alloc (.cells #[.slice Y.A a.sl.length Y.c, .slice Y.A2 a.st.length Y.c2, .int .i64 a.ow, .int .i64 a.cap, .slice Y.A3 a.dl.length Y.c3, .int .i64 a.dir.vn, .slice Y.D.A a.dir.l.length Y.D.c, .slice Y.D.A2 a.dir.F.length Y.D.c2, .int .i64 a.ep, .int .i64 a.ck, .int .i64 a.ni] 36)).alloc (.cells #[.slice none 0 0, .slice none 0 0, .int .i64 0, .int .i64 0, .slice none 0 0, .int .i64 0, .slice none 0 0, .slice none 0 0, .int .i64 0, .int .i64 0, .int .i64 0] 36)) := ((Below.refl _ _).alloc (Nat.le_refl _) _).alloc (by simp) _
  exact ⟨(QB.start w a Y _).alloc _, h1, har.below b2, ⟨Nat.le_refl _, by omega⟩, b2⟩
theorem Rb.q9 {Q : List Sl} {i : Nat} {t : Sl} (h : Rb W b (qcs Q)) (hi : Q[i]? = some t) : Q9 W b (i * 9) t := by
  obtain ⟨hl, e⟩ := List.getElem?_eq_some_iff.1 hi
  have g : ∀ j u, j < 9 → t.l[j]? = some u → W.cell? ⟨b, i * 9 + j, none⟩ = some u := fun j u hj hu => h.c _ u (by rw [qcs_at Q i j hl hj, e]; exact hu)
  exact ⟨g 0 _ (by omega) rfl, g 1 _ (by omega) rfl, g 2 _ (by omega) rfl, g 3 _ (by omega) rfl, g 4 _ (by omega) rfl, g 5 _ (by omega) rfl, g 6 _ (by omega) rfl, g 7 _ (by omega) rfl, g 8 _ (by omega) rfl⟩
end
/-- The stripes lie in a row of their own, in which none of the other lists lies. -/
def Sr12 (p r b : Nat) (a : Ar) (Y : Ax) (W : World) : Prop := 0 < a.st.length → ∃ b2, Y.A2 = some ⟨b2, 0, none⟩ ∧ (a.st.length ≤ Y.c2 ∧ Y.c2 ≤ maxLen) ∧ Rb W b2 (tcs a.st) ∧ (b2 ≠ b ∧ b2 ≠ p ∧ b2 ≠ r) ∧ (∀ t ∈ Y.q, SOff t.sh t.sx b2) ∧ OffB b2 a.dl.length Y.A3 ∧ DOff a.dir Y.D b2
section
variable {w W W' : World} {p r b : Nat} {a : Ar} {Y : Ax}
theorem Sr12.up (h : Sr12 p r b a Y W) (hb : Below W.heap.size W W') : Sr12 p r b a Y W' := fun h0 => by
  obtain ⟨b2, e, hc, hr, hn⟩ := h h0
  exact ⟨b2, e, hc, hr.up hb, hn⟩
theorem Sr12.put (h : Sr12 p r b a Y W) (j : Nat) (v : Value) : Sr12 p r b a Y (W.setCell ⟨p, j, none⟩ v) := fun h0 => by
  obtain ⟨b2, e, hc, hr, hn, ho⟩ := h h0
  exact ⟨b2, e, hc, hr.other (a := ⟨p, j, none⟩) (fun e' => hn.2.1 e'.symm) v, hn, ho⟩
theorem Sr12.dir (h : Sr12 p r b a Y W) {X : Dx} (hn : X.nw W.heap.size) : Sr12 p r b a ⟨Y.A, Y.c, Y.q, Y.A2, Y.c2, Y.A3, Y.c3, X⟩ W := fun h0 => by
  obtain ⟨b2, e, hc, hr, hne, ho, o3, o4⟩ := h h0
  exact ⟨b2, e, hc, hr, hne, ho, o3, hn.off hr.lt⟩
theorem Sr12.set11 (h : Sr12 p r b a Y W) (a' : Ar) (Y' : Ax) : Sr12 p r b a Y (set11 W r a' Y') := fun h0 => by
  obtain ⟨b2, e, hc, hr, hn, ho⟩ := h h0
  exact ⟨b2, e, hc, hr.set11 (fun e' => hn.2.2 e'.symm) a' Y', hn, ho⟩
end
end Go.Proofs.Ytijpflljopckiaa
namespace Go.Proofs.Ytijpflljopckiaa
open Go.RowKit
set_option linter.unusedVariables false

/-- Two lists, read only. -/
structure TwT (w : World) (A B : Option Addr) (n m : Nat) (c d : Nat) (x y : List St) (W : World) : Prop where
  a : Tl W W.heap.size (.slice A n c) x
  b : Tl W W.heap.size (.slice B m d) y
  bel : Below w.heap.size w W
theorem TwT.up {w W W' : World} {A B : Option Addr} {n m c d : Nat} {x y : List St} (h : TwT w A B n m c d x y W) (hb : Below W.heap.size W W') : TwT w A B n m c d x y W' := ⟨h.a.up hb, h.b.up hb, h.bel.trans (hb.mono h.bel.size)⟩
end Go.Proofs.Ytijpflljopckiaa
