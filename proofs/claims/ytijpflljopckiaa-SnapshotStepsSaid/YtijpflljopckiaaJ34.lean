/- What is proved here: Jl; ref12.task, Owner, own by contracts; arena.StoreSlot by a task that has not locked the slot, arena.StoreStripe, by contracts; arena.LoadSlot, and StoreSlot by a task that has not locked the slot, by contracts; what the calls of the statement ArenaCells give on its arena. -/
import Derived.Test.YtijpflljopckiaaJ32
import Derived.Deep.DeepCutAuto
import Derived.Deep.RegionHeld3
import Derived.Test.YtijpflljopckiaaJ33
import Derived.Test.YtijpflljopckiaaJ30
import Derived.Test.YtijpflljopckiaaJ02
import Derived.Deep.AppendLies
import Derived.Test.YtijpflljopckiaaJ12
import Derived.Test.YtijpflljopckiaaRows
import Derived.WalkKit
import Derived.Outline
import Derived.IntWalk
import Derived.WalkSpells
import Derived.Lib.AppendZerosOnto
import Derived.Test.YtijpflljopckiaaJ26
/- Plain: lockers, where they lie, and their boxes; what locker's functions give. -/
namespace Go.Proofs.Ytijpflljopckiaa
open Go.RowKit
set_option linter.unusedVariables false

/-- A locker. -/
structure Lk where
  cs : List Int
  ph : Int
  hv : Int
  tr : Int
  wt : Int
/-- .. as a value, and its cells. -/
abbrev lv (l : Lk) (A : Option Addr) (c : Nat) : Value := .agg #[.slice A l.cs.length c, .int .i64 l.ph, .int .i64 l.hv, .int .i64 l.tr, .int .i64 l.wt]
abbrev lcl (l : Lk) (A : Option Addr) (c : Nat) : Array Value := #[.slice A l.cs.length c, .int .i64 l.ph, .int .i64 l.hv, .int .i64 l.tr, .int .i64 l.wt]
abbrev K5l (W : World) (q : Nat) (l : Lk) (A : Option Addr) (c : Nat) : Prop := W.cell? ⟨q, 0, none⟩ = some (.slice A l.cs.length c) ∧ W.cell? ⟨q, 1, none⟩ = some (.int .i64 l.ph) ∧ W.cell? ⟨q, 2, none⟩ = some (.int .i64 l.hv) ∧ W.cell? ⟨q, 3, none⟩ = some (.int .i64 l.tr) ∧ W.cell? ⟨q, 4, none⟩ = some (.int .i64 l.wt)
/-- Block q holds a locker, and may be written. -/
structure LB (W : World) (q : Nat) (l : Lk) (A : Option Addr) (c : Nat) : Prop where
  k : K5l W q l A c
  fr : ∀ o, W.frozen? ⟨q, o, none⟩ = false
  lt : q < W.heap.size
/-- The five stores of a locker. -/
abbrev set5 (W : World) (q : Nat) (l : Lk) (A : Option Addr) (c : Nat) : World := (((((W.setCell ⟨q, 0, none⟩ (.slice A l.cs.length c)).setCell ⟨q, 1, none⟩ (.int .i64 l.ph)).setCell ⟨q, 2, none⟩ (.int .i64 l.hv)).setCell ⟨q, 3, none⟩ (.int .i64 l.tr)).setCell ⟨q, 4, none⟩ (.int .i64 l.wt))
section
variable {W W' : World} {q g : Nat} {l m : Lk} {A A' : Option Addr} {c c' : Nat}
theorem LB.keep (h : LB W q l A c) (hc : ∀ o, W'.cell? ⟨q, o, none⟩ = W.cell? ⟨q, o, none⟩) (hf : ∀ o, W'.frozen? ⟨q, o, none⟩ = W.frozen? ⟨q, o, none⟩) (hs : W.heap.size ≤ W'.heap.size) : LB W' q l A c := by
  obtain ⟨⟨k0, k1, k2, k3, k4⟩, fr, lt⟩ := h
  exact ⟨⟨(hc 0).trans k0, (hc 1).trans k1, (hc 2).trans k2, (hc 3).trans k3, (hc 4).trans k4⟩, fun o => (hf o).trans (fr o), Nat.lt_of_lt_of_le lt hs⟩
theorem LB.up (h : LB W q l A c) (hb : Below W.heap.size W W') : LB W' q l A c := h.keep (fun o => hb.cell (p := ⟨q, o, none⟩) h.lt) (fun o => hb.frozen (p := ⟨q, o, none⟩) h.lt) hb.size
theorem LB.alloc (h : LB W q l A c) (o : Obj) : LB (W.alloc o) q l A c := h.up ((Below.refl _ _).alloc (Nat.le_refl _) o)
theorem LB.other (h : LB W q l A c) {x : Addr} (hne : x.block ≠ q) (v : Value) : LB (W.setCell x v) q l A c :=
  h.keep (fun o => World.cell?_setCell_other W x ⟨q, o, none⟩ v (fun e => hne (by rw [e]))) (fun o => by simp [go_sem]) (by simp)
theorem LB.grown (h : LB W q l A c) (hg : W.grownBy W' (some g)) (hne : q ≠ g) : LB W' q l A c := h.keep (fun o => hg.cell_far ⟨q, o, none⟩ h.lt (fun e => by injection e with e; exact hne e)) (fun o => hg.frozen_far ⟨q, o, none⟩ h.lt (fun e => by injection e with e; exact hne e)) hg.size
theorem LB.start (w : World) (l : Lk) (A : Option Addr) (c : Nat) (t : TypeId) : LB (w.alloc (.cells (lcl l A c) t)) w.heap.size l A c :=
  ⟨⟨by simp [go_sem], by simp [go_sem], by simp [go_sem], by simp [go_sem], by simp [go_sem]⟩, fun o => by simp [go_sem], by simp⟩
theorem LB.set (h : LB W q l A c) (m : Lk) (A' : Option Addr) (c' : Nat) : LB (set5 W q m A' c') q m A' c' := by
  obtain ⟨⟨k0, k1, k2, k3, k4⟩, fr, lt⟩ := h
  exact ⟨⟨by simp [go_sem, k0], by simp [go_sem, k1], by simp [go_sem, k2], by simp [go_sem, k3], by simp [go_sem, k4]⟩, fun o => by simp [go_sem, fr o], by simp [lt]⟩
theorem LB.setA (h : LB W q l A c) (A' : Option Addr) (c' : Nat) : LB (W.setCell ⟨q, 0, none⟩ (.slice A' l.cs.length c')) q l A' c' := by
  obtain ⟨⟨k0, k1, k2, k3, k4⟩, fr, lt⟩ := h
  exact ⟨⟨by simp [go_sem, k0], by simp [go_sem, k1], by simp [go_sem, k2], by simp [go_sem, k3], by simp [go_sem, k4]⟩, fun o => by simp [go_sem, fr o], by simp [lt]⟩
theorem LB.setH (h : LB W q l A c) (x : Int) : LB (W.setCell ⟨q, 2, none⟩ (.int .i64 x)) q ⟨l.cs, l.ph, x, l.tr, l.wt⟩ A c := by
  obtain ⟨⟨k0, k1, k2, k3, k4⟩, fr, lt⟩ := h
  exact ⟨⟨by simp [go_sem, k0], by simp [go_sem, k1], by simp [go_sem, k2], by simp [go_sem, k3], by simp [go_sem, k4]⟩, fun o => by simp [go_sem, fr o], by simp [lt]⟩
theorem LB.free (h : LB W q l A c) : W.frozen? ⟨q, 0, none⟩ = false ∧ W.frozen? ⟨q, 1, none⟩ = false ∧ W.frozen? ⟨q, 2, none⟩ = false ∧ W.frozen? ⟨q, 3, none⟩ = false ∧ W.frozen? ⟨q, 4, none⟩ = false := ⟨h.fr 0, h.fr 1, h.fr 2, h.fr 3, h.fr 4⟩
theorem Fl.offb {A : Option Addr} {n c B : Nat} {l : List Int} (h : Fl W B (.slice A n c) l) {p : Addr} (ho : OffB p.block n A) (v : Value) : Fl (W.setCell p v) B (.slice A n c) l := h.offp (fun a e h0 => ho h0 a e) v
theorem Fl.set5 {n B : Nat} {x : List Int} (h : Fl W B (.slice A' n c') x) (ho : OffB q n A') (l : Lk) (A : Option Addr) (c : Nat) : Fl (set5 W q l A c) B (.slice A' n c') x :=
  ((((h.offb (p := ⟨q, 0, none⟩) ho _).offb (p := ⟨q, 1, none⟩) ho _).offb (p := ⟨q, 2, none⟩) ho _).offb (p := ⟨q, 3, none⟩) ho _).offb (p := ⟨q, 4, none⟩) ho _
theorem Fl.set11 {n B p : Nat} {x : List Int} (h : Fl W B (.slice A' n c') x) (ho : OffB p n A') (a : Ar) (Y : Ax) : Fl (set11 W p a Y) B (.slice A' n c') x :=
  ((((((((((h.offb (p := ⟨p, 0, none⟩) ho _).offb (p := ⟨p, 1, none⟩) ho _).offb (p := ⟨p, 2, none⟩) ho _).offb (p := ⟨p, 3, none⟩) ho _).offb (p := ⟨p, 4, none⟩) ho _).offb (p := ⟨p, 5, none⟩) ho _).offb (p := ⟨p, 6, none⟩) ho _).offb (p := ⟨p, 7, none⟩) ho _).offb (p := ⟨p, 8, none⟩) ho _).offb (p := ⟨p, 9, none⟩) ho _).offb (p := ⟨p, 10, none⟩) ho _
theorem AR.set5 {B : Nat} {a : Ar} {Y : Ax} (h : AR W B a Y) (ho : AOff a Y q) (l : Lk) (A : Option Addr) (c : Nat) : AR (set5 W q l A c) B a Y :=
  ((((h.offp (q := ⟨q, 0, none⟩) ho _).offp (q := ⟨q, 1, none⟩) ho _).offp (q := ⟨q, 2, none⟩) ho _).offp (q := ⟨q, 3, none⟩) ho _).offp (q := ⟨q, 4, none⟩) ho _
theorem LB.set11 {p : Nat} (h : LB W q l A c) (hp : p ≠ q) (a : Ar) (Y : Ax) : LB (set11 W p a Y) q l A c :=
  ((((((((((h.other (x := ⟨p, 0, none⟩) hp _).other (x := ⟨p, 1, none⟩) hp _).other (x := ⟨p, 2, none⟩) hp _).other (x := ⟨p, 3, none⟩) hp _).other (x := ⟨p, 4, none⟩) hp _).other (x := ⟨p, 5, none⟩) hp _).other (x := ⟨p, 6, none⟩) hp _).other (x := ⟨p, 7, none⟩) hp _).other (x := ⟨p, 8, none⟩) hp _).other (x := ⟨p, 9, none⟩) hp _).other (x := ⟨p, 10, none⟩) hp _
theorem QB.set5 {p : Nat} {a : Ar} {Y : Ax} (h : QB W p a Y) (hp : q ≠ p) (l : Lk) (A : Option Addr) (c : Nat) : QB (set5 W q l A c) p a Y :=
  ((((h.other (x := ⟨q, 0, none⟩) hp _).other (x := ⟨q, 1, none⟩) hp _).other (x := ⟨q, 2, none⟩) hp _).other (x := ⟨q, 3, none⟩) hp _).other (x := ⟨q, 4, none⟩) hp _
end
/-- Its numbers are small. -/
def Lk.sm (l : Lk) : Prop := (-9 ≤ l.hv ∧ l.hv ≤ 9) ∧ (-9 ≤ l.tr ∧ l.tr ≤ 1000000) ∧ (-9 ≤ l.wt ∧ l.wt ≤ 9) ∧ l.cs.length ≤ 9
end Go.Proofs.Ytijpflljopckiaa
namespace Go.Proofs.Ytijpflljopckiaa
open Go.RowKit
set_option linter.unusedVariables false

set_option maxHeartbeats 2000000 in
set_option maxRecDepth 20000 in
theorem rowner12_any (a : Ar) (Y : Ax) (n : Nat) (w : World) (har : AR w w.heap.size a Y) (hn : n ≤ a.sl.length) : Calls Try.prog 15 #[av a Y, .int .i64 (n : Int)] w fun e w' => e = .returned (.int .i64 (a.own n)) ∧ Below w.heap.size w w' := by
  have HB := Lib.hid (QB.start w a Y 36)
  have HW := Lib.hid ((Below.refl w.heap.size w).alloc (Nat.le_refl _) (.cells #[.slice Y.A a.sl.length Y.c, .slice Y.A2 a.st.length Y.c2, .int .i64 a.ow, .int .i64 a.cap, .slice Y.A3 a.dl.length Y.c3, .int .i64 a.dir.vn, .slice Y.D.A a.dir.l.length Y.D.c, .slice Y.D.A2 a.dir.F.length Y.D.c2, .int .i64 a.ep, .int .i64 a.ck, .int .i64 a.ni] 36))
  have HR := Lib.hid (har.alloc (.cells #[.slice Y.A a.sl.length Y.c, .slice Y.A2 a.st.length Y.c2, .int .i64 a.ow, .int .i64 a.cap, .slice Y.A3 a.dl.length Y.c3, .int .i64 a.dir.vn, .slice Y.D.A a.dir.l.length Y.D.c, .slice Y.D.A2 a.dir.F.length Y.D.c2, .int .i64 a.ep, .int .i64 a.ck, .int .i64 a.ni] 36))
  by_cases hl : n = a.sl.length
  · have HX := Lib.hid (show a.own n = a.ow from if_pos hl)
    have hb : ((n : Int) == (a.sl.length : Int)) = true := by simp [hl]
    clear hl hn har
    go_enter Try.func15, Try.ntmps15
    obtain ⟨y0, y1, y2, y3, y4, y5, y6, y7, y8, y9, y10⟩ := HB.out.k
    have yl := HB.out.lt
    go_wp2
    go_ret
    exact ⟨by rw [HX.out]; rfl, HW.out⟩
  · have hlt : n < a.sl.length := by omega
    have HX := Lib.hid (show a.own n = (og a.sl n).ow from if_neg hl)
    have hb : ((n : Int) == (a.sl.length : Int)) = false := beq_eq_false_iff_ne.2 (by omega)
    have HLT := Lib.hid hlt
    clear hl hn har
    go_enter Try.func15, Try.ntmps15
    obtain ⟨y0, y1, y2, y3, y4, y5, y6, y7, y8, y9, y10⟩ := HB.out.k
    have yl := HB.out.lt
    go_upto_region 1 with (fail)
    generalize (w.alloc (.cells #[.slice Y.A a.sl.length Y.c, .slice Y.A2 a.st.length Y.c2, .int .i64 a.ow, .int .i64 a.cap, .slice Y.A3 a.dl.length Y.c3, .int .i64 a.dir.vn, .slice Y.D.A a.dir.l.length Y.D.c, .slice Y.D.A2 a.dir.F.length Y.D.c2, .int .i64 a.ep, .int .i64 a.ck, .int .i64 a.ni] 36)) = w1 at *
    obtain ⟨D, b, o, hA, hbb, h9, -, -⟩ := HR.out.at2 HLT.out
    have h0 := h9.1
    generalize og a.sl n = TT at *
    simp only at h0
    rw [hA] at y0
    clear hA HR h9
    go_wp2
    go_ret
    exact ⟨by rw [HX.out]; rfl, HW.out⟩
section
variable {w W W' : World} {p r b : Nat} {a : Ar} {Y : Ax}
end
end Go.Proofs.Ytijpflljopckiaa
namespace Go.Proofs.Ytijpflljopckiaa
open Go.RowKit
set_option linter.unusedVariables false

theorem st_app_set (s : St) (X : List Value) (k : Nat) (v : Value) : (s.l ++ X).set (4 + k) v = s.l ++ X.set k v := by
  rw [List.set_append_right _ _ (by rw [St.l_len]; omega), St.l_len, Nat.add_sub_cancel_left]
theorem tcs_set (l : List St) (i : Nat) (s : St) (h : i < l.length) : (((((tcs l).set (i * 4) (.int .i64 s.sq)).set (i * 4 + 1) (.int .i64 s.ep)).set (i * 4 + 2) (.int .i64 s.rd)).set (i * 4 + 3) (.int .i64 s.ls)) = tcs (l.set i s) := by
  induction l generalizing i with
  | nil => simp at h
  | cons u l ih =>
    cases i with
    | zero => rfl
    | succ i =>
      have h' : i < l.length := by simpa using h
      have e : ∀ k, (i + 1) * 4 + k = 4 + (i * 4 + k) := fun k => by omega
      have e0 : (i + 1) * 4 = 4 + i * 4 := by omega
      rw [tcs_cons, List.set_cons_succ, tcs_cons, ← ih i h', e 1, e 2, e 3, e0, st_app_set, st_app_set, st_app_set, st_app_set]
/-- The world behind stores into the stripes' row. -/
structure Kx (w : World) (p r b b2 : Nat) (a : Ar) (Y : Ax) (cs : List Value) (W : World) : Prop where
  pb : QB W p a Y
  rb : QB W r zA zAx
  ro : Rb W b (qcs Y.q)
  r2 : Rb W b2 cs
  sr : ∀ t ∈ Y.q, SR W W.heap.size t.sh t.sx
  ls : Ls W W.heap.size (.slice Y.A3 a.dl.length Y.c3) a.dl
  dr : DR W W.heap.size a.dir Y.D
  bel : Below w.heap.size w W
theorem Kx.step {w W : World} {p r b b2 : Nat} {a : Ar} {Y : Ax} {cs : List Value} (h : Kx w p r b b2 a Y cs W) (n : w.heap.size ≤ b2 ∧ b2 ≠ b ∧ b2 ≠ p ∧ b2 ≠ r) (o1 : ∀ t ∈ Y.q, SOff t.sh t.sx b2) (o3 : OffB b2 a.dl.length Y.A3) (o4 : DOff a.dir Y.D b2) {j : Nat} (hj : j < cs.length) (v : Value) : Kx w p r b b2 a Y (cs.set j v) (W.setCell ⟨b2, j, none⟩ v) :=
  ⟨h.pb.other (x := ⟨b2, j, none⟩) (show b2 ≠ p from n.2.2.1) v, h.rb.other (x := ⟨b2, j, none⟩) (show b2 ≠ r from n.2.2.2) v, h.ro.other (a := ⟨b2, j, none⟩) (show b2 ≠ b from n.2.1) v, h.r2.set hj v, fun t ht => ((h.sr t ht).offp (p := ⟨b2, j, none⟩) (o1 t ht) v).more (by simp), (h.ls.offp (p := ⟨b2, j, none⟩) o3 v).more (by simp), (h.dr.offp (q := ⟨b2, j, none⟩) o4 v).more (by simp), h.bel.setCell (p := ⟨b2, j, none⟩) n.1 v⟩
/-- The four stores of a stripe. -/
abbrev sets4 (W : World) (b o : Nat) (s : St) : World := (((W.setCell ⟨b, o, none⟩ (.int .i64 s.sq)).setCell ⟨b, o + 1, none⟩ (.int .i64 s.ep)).setCell ⟨b, o + 2, none⟩ (.int .i64 s.rd)).setCell ⟨b, o + 3, none⟩ (.int .i64 s.ls)
def Ar.setSt (a : Ar) (i : Nat) (s : St) : Ar := ⟨a.sl, a.st.set i s, a.ow, a.cap, a.dl, a.dir, a.ep, a.ck, a.ni⟩
theorem QB.setSt {W : World} {p : Nat} {a : Ar} {Y : Ax} (h : QB W p a Y) (i : Nat) (s : St) : QB W p (a.setSt i s) Y := by
  obtain ⟨⟨y0, y1, y2, y3, y4, y5, y6, y7, y8, y9, y10⟩, fr, lt⟩ := h
  exact ⟨⟨y0, by rw [show (a.setSt i s).st.length = a.st.length from List.length_set]; exact y1, y2, y3, y4, y5, y6, y7, y8, y9, y10⟩, fr, lt⟩
/-- The stripes' row of a copy that lies in a box: its place, its cells, and what a store of a stripe leaves. -/
theorem Cb12.stripe {w W : World} {p r b p' r' : Nat} {a : Ar} {Y : Ax} (h : Cb12 w p r b a Y W) (hS : Sr12 p' r' b a Y W) (hn : Y.nw (r + 1)) {i : Nat} (hi : i < a.st.length) : ∃ b2, Y.A2 = some ⟨b2, 0, none⟩ ∧ b2 < W.heap.size ∧ (W.cell? ⟨b2, i * 4, none⟩ = some (.int .i64 (tg a.st i).sq) ∧ W.cell? ⟨b2, i * 4 + 1, none⟩ = some (.int .i64 (tg a.st i).ep) ∧ W.cell? ⟨b2, i * 4 + 2, none⟩ = some (.int .i64 (tg a.st i).rd) ∧ W.cell? ⟨b2, i * 4 + 3, none⟩ = some (.int .i64 (tg a.st i).ls)) ∧ (∀ o, W.frozen? ⟨b2, o, none⟩ = false) ∧ ∀ s, Cb12 w p r b (a.setSt i s) Y (sets4 W b2 (i * 4) s) := by
  obtain ⟨b2, e2, hc2, hr2, hne2, o1, o3, o4⟩ := hS (by omega)
  have hne := h.ne
  have hlo : r + 1 ≤ b2 := hn.n2 _ e2
  have htg : (tg a.st i).l = (a.st[i]).l := by unfold tg; rw [List.getD_eq_getElem?_getD, List.getElem?_eq_getElem hi]; rfl
  have g : ∀ j u, j < 4 → (tg a.st i).l[j]? = some u → W.cell? ⟨b2, i * 4 + j, none⟩ = some u := fun j u hj hu => hr2.c _ u (by rw [tcs_at a.st i j hi hj, ← htg]; exact hu)
  refine ⟨b2, e2, hr2.lt, ⟨g 0 _ (by omega) rfl, g 1 _ (by omega) rfl, g 2 _ (by omega) rfl, g 3 _ (by omega) rfl⟩, hr2.f, fun s => ?_⟩
  have n4 : w.heap.size ≤ b2 ∧ b2 ≠ b ∧ b2 ≠ p ∧ b2 ≠ r := ⟨by omega, hne2.1, by omega, by omega⟩
  have k0 : Kx w p r b b2 a Y (tcs a.st) W := ⟨h.pb, h.rb, h.ro, hr2, fun t ht => (h.sr t ht).1, h.ls.1, h.dr.1, h.bel⟩
  have hlen := tcs_len a.st
  have k4 := (((k0.step n4 o1 o3 o4 (j := i * 4) (by omega) (.int .i64 s.sq)).step n4 o1 o3 o4 (j := i * 4 + 1) (by rw [List.length_set]; omega) (.int .i64 s.ep)).step n4 o1 o3 o4 (j := i * 4 + 2) (by rw [List.length_set, List.length_set]; omega) (.int .i64 s.rd)).step n4 o1 o3 o4 (j := i * 4 + 3) (by rw [List.length_set, List.length_set, List.length_set]; omega) (.int .i64 s.ls)
  rw [tcs_set a.st i s hi] at k4
  have el : (a.setSt i s).st.length = a.st.length := List.length_set
  refine ⟨k4.pb.setSt i s, k4.rb, k4.ro, h.ea, h.ec, h.so, fun t ht => ⟨k4.sr t ht, (h.sr t ht).2⟩, ⟨?_, by rw [el]; exact h.tl.2.1, by rw [el]; exact h.tl.2.2.1, by rw [el]; exact h.tl.2.2.2⟩, ⟨k4.ls, h.ls.2⟩, ⟨k4.dr, h.dr.2⟩, h.ne, k4.bel⟩
  rw [e2]
  refine ⟨_, Y.c2, rfl, by rw [el]; exact hc2.1, hc2.2, ?_, fun _ => ⟨b2, 0, rfl, k4.r2.lt, fun j u hu => by rw [Nat.zero_add]; exact k4.r2.c j u hu⟩⟩
  show (tcs (a.st.set i s)).length = (a.setSt i s).st.length * 4
  rw [tcs_len]; rfl
theorem YT.far11 {W : World} {p q : Nat} {s : St} (h : YT W q s) (hpq : p ≠ q) (a : Ar) (Y : Ax) : YT (set11 W p a Y) q s := by
  obtain ⟨⟨t0, t1, t2, t3⟩, tl⟩ := h
  have n : ∀ i j, (⟨p, i, none⟩ : Addr) ≠ ⟨q, j, none⟩ := fun i j e => hpq (congrArg Addr.block e)
  have g : ∀ i v, W.cell? ⟨q, i, none⟩ = some v → (set11 W p a Y).cell? ⟨q, i, none⟩ = some v := fun i v h => by
    show World.cell? (set11 W p a Y) _ = _
    unfold set11
    rw [World.cell?_setCell_other _ _ _ _ (n 10 i), World.cell?_setCell_other _ _ _ _ (n 9 i), World.cell?_setCell_other _ _ _ _ (n 8 i), World.cell?_setCell_other _ _ _ _ (n 7 i), World.cell?_setCell_other _ _ _ _ (n 6 i), World.cell?_setCell_other _ _ _ _ (n 5 i), World.cell?_setCell_other _ _ _ _ (n 4 i), World.cell?_setCell_other _ _ _ _ (n 3 i), World.cell?_setCell_other _ _ _ _ (n 2 i), World.cell?_setCell_other _ _ _ _ (n 1 i), World.cell?_setCell_other _ _ _ _ (n 0 i)]
    exact h
  exact ⟨⟨g 0 _ t0, g 1 _ t1, g 2 _ t2, g 3 _ t3⟩, by rw [set11_size]; exact tl⟩
end Go.Proofs.Ytijpflljopckiaa
namespace Go.Proofs.Ytijpflljopckiaa
open Go.RowKit
set_option linter.unusedVariables false

/-- An arena's box and a result's of a shard. -/
structure Ls12 (w : World) (p r : Nat) (a : Ar) (Y : Ax) (W : World) : Prop where
  aw : Aw12 w p a Y W
  rb : SB8 W r zS zX
  rn : w.heap.size ≤ r ∧ p < r
theorem Ls12.below {w W W' : World} {p r : Nat} {a : Ar} {Y : Ax} (h : Ls12 w p r a Y W) (hb : Below W.heap.size W W') : Ls12 w p r a Y W' := ⟨h.aw.below hb, h.rb.up hb, h.rn⟩
theorem Ls12.start {w : World} {a : Ar} {Y : Ax} (har : AR w w.heap.size a Y) : Ls12 w w.heap.size (w.heap.size + 1) a Y ((w.alloc (.cells #[.slice Y.A a.sl.length Y.c, .slice Y.A2 a.st.length Y.c2, .int .i64 a.ow, .int .i64 a.cap, .slice Y.A3 a.dl.length Y.c3, .int .i64 a.dir.vn, .slice Y.D.A a.dir.l.length Y.D.c, .slice Y.D.A2 a.dir.F.length Y.D.c2, .int .i64 a.ep, .int .i64 a.ck, .int .i64 a.ni] 36)).alloc (.cells #[.bool false, .int .i64 0, .int .i64 0, .slice none 0 0, .int .i64 0, .int .i64 0, .slice none 0 0, .slice none 0 0] 85)) := by
  have h1 := SB8.zero (w.alloc (.cells #[.slice Y.A a.sl.length Y.c, .slice Y.A2 a.st.length Y.c2, .int .i64 a.ow, .int .i64 a.cap, .slice Y.A3 a.dl.length Y.c3, .int .i64 a.dir.vn, .slice Y.D.A a.dir.l.length Y.D.c, .slice Y.D.A2 a.dir.F.length Y.D.c2, .int .i64 a.ep, .int .i64 a.ck, .int .i64 a.ni] 36)) 85
  rw [show (w.alloc (.cells #[.slice Y.A a.sl.length Y.c, .slice Y.A2 a.st.length Y.c2, .int .i64 a.ow, .int .i64 a.cap, .slice Y.A3 a.dl.length Y.c3, .int .i64 a.dir.vn, .slice Y.D.A a.dir.l.length Y.D.c, .slice Y.D.A2 a.dir.F.length Y.D.c2, .int .i64 a.ep, .int .i64 a.ck, .int .i64 a.ni] 36)).heap.size = w.heap.size + 1 by simp] at h1
  exact ⟨(Aw12.start (Below.refl _ _) har).below ((Below.refl _ _).alloc (Nat.le_refl _) _), h1, by omega, by omega⟩
end Go.Proofs.Ytijpflljopckiaa
namespace Go.Proofs.Ytijpflljopckiaa
open Go.RowKit
set_option linter.unusedVariables false

/-- What is known of the arena. -/
structure Ca12 (a : Ar) (n : Nat) : Prop where
  sl : a.sl.length = n
  st : a.st.length = n
  fw : a.Few
  sq : ∀ i, i < n → (tg a.st i).sq = 0
  ow : ∀ i, i < n → a.own i = 0
theorem ca_nw {s : Su} (hs : s.Ok) : nwAE s = 0 ∧ ∃ n, 0 < n ∧ n ≤ 6 ∧ Ca12 (nwA s) n := by
  have hb := suB_iff.2 hs
  refine ⟨if_pos hb, s.sl.toNat, ?_⟩
  have hf := few_nw hb
  have hok := hs
  unfold Su.Ok at hok
  have e : nwA s = grA s s.sl.toNat s.sl.toNat s.dd := if_pos hb
  rw [e] at hf ⊢
  refine ⟨by omega, by omega, grA_sl _ _ _ _, grA_st _ _ _ _, hf, fun i hi => ?_, fun i hi => ?_⟩
  · show ((List.replicate s.sl.toNat (stE s)).getD i zSt).sq = 0
    rw [List.getD_eq_getElem?_getD, List.getElem?_replicate, if_pos hi]
    rfl
  · unfold Ar.own
    rw [grA_sl, if_neg (by omega), og_get (by rw [grA_sl]; exact hi)]
    simp [grA, nwSl]
section
variable {a : Ar} {n v : Nat} {t m : Int}
theorem Ar.Few.stripe (h : a.Few) (i : Nat) (s : St) : (a.setSt i s).Few := ⟨h.sl, by show (a.st.set i s).length ≤ 1000; rw [List.length_set]; exact h.st, h.dl, h.dr, h.sh⟩
end
end Go.Proofs.Ytijpflljopckiaa
