/- What is proved here: what a statement about built directories holds: a source, a directory in a box, its lists copied and changed in one place; cuts of a list of leases: what the walk gets, and how it reads; slices.Clone, slices.Grow, slices.Concat of leases, lease.without by contracts; shard.within, isSpan, has, size, capacity, aTime, aVisibility, anEpoch, aLimit, clone by contracts; Wnp. -/
import Derived.Test.YtijpflljopckiaaJ16
import Derived.Test.YtijpflljopckiaaJ08
import Derived.Test.YtijpflljopckiaaRows
import Derived.Test.YtijpflljopckiaaJ02
import Derived.WalkKit
import Derived.Outline
import Derived.IntWalk
import Derived.Laws.Slices
import Derived.Test.YtijpflljopckiaaJ13
import Derived.Deep.AppendLies
import Derived.WalkSpells
import Derived.Lib.AppendZerosOnto
import Derived.Shelf.Spec.SlicesGrow
import Derived.Deep.RegionHeld3
import Derived.Test.YtijpflljopckiaaJ11
import Derived.Test.YtijpflljopckiaaJ06
import Derived.Test.YtijpflljopckiaaJ09
import Derived.Test.YtijpflljopckiaaJ03
import Derived.Test.YtijpflljopckiaaJ12
import Derived.ArgAppend
import Derived.BigFrame
namespace Go.Proofs.Ytijpflljopckiaa
open Go.RowKit
set_option linter.unusedVariables false

/-- Block q holds these cells and may be written. -/
structure Rb (W : World) (q : Nat) (cs : List Value) : Prop where
  c : ∀ (j : Nat) (u : Value), cs[j]? = some u → W.cell? ⟨q, j, none⟩ = some u
  f : ∀ o, W.frozen? ⟨q, o, none⟩ = false
  lt : q < W.heap.size
section
variable {W W' : World} {q g : Nat} {cs : List Value}
theorem Rb.up (h : Rb W q cs) (hb : Below W.heap.size W W') : Rb W' q cs := ⟨fun j u hu => (hb.cell (p := ⟨q, j, none⟩) h.lt).trans (h.c j u hu), fun o => (hb.frozen (p := ⟨q, o, none⟩) h.lt).trans (h.f o), Nat.lt_of_lt_of_le h.lt hb.size⟩
theorem Rb.grown (h : Rb W q cs) (hg : W.grownBy W' (some g)) (hne : q ≠ g) : Rb W' q cs :=
  ⟨fun j u hu => (hg.cell_far ⟨q, j, none⟩ h.lt (fun e => by injection e with e; exact hne e)).trans (h.c j u hu), fun o => (hg.frozen_far ⟨q, o, none⟩ h.lt (fun e => by injection e with e; exact hne e)).trans (h.f o), Nat.lt_of_lt_of_le h.lt hg.size⟩
theorem Rb.other (h : Rb W q cs) {a : Addr} (hne : a.block ≠ q) (v : Value) : Rb (W.setCell a v) q cs :=
  ⟨fun j u hu => (World.cell?_setCell_other W a ⟨q, j, none⟩ v (fun e => hne (by rw [e]))).trans (h.c j u hu), fun o => by rw [World.frozen?_setCell]; exact h.f o, by simpa using h.lt⟩
theorem Rb.set (h : Rb W q cs) {j : Nat} (hj : j < cs.length) (v : Value) : Rb (W.setCell ⟨q, j, none⟩ v) q (cs.set j v) := by
  refine ⟨fun i u hu => ?_, fun o => by rw [World.frozen?_setCell]; exact h.f o, by simpa using h.lt⟩
  by_cases e : i = j
  · subst e
    rw [List.getElem?_set_self hj] at hu
    injection hu with hu
    subst hu
    exact World.cell?_setCell_same' W _ _ (by rw [h.c i _ (List.getElem?_eq_getElem hj)]; rfl)
  · rw [List.getElem?_set_ne (fun e' => e e'.symm)] at hu
    exact (World.cell?_setCell_other W _ _ _ (fun e' => by injection e' with _ e2; exact e e2.symm)).trans (h.c i u hu)
theorem Rb.of_own {base size n cap : Nat} {e : TypeId} (h : W.ownsRow base e size (.slice (some ⟨q, 0, none⟩) n cap) n cs) : Rb W q cs :=
  ⟨fun j u hu => by have := h.cells (g := q) rfl j u hu; rw [add_mk, Nat.zero_add] at this; exact this, fun o => h.frozenAt o, (h.lt q rfl).2⟩
theorem Rb.pl {l : List Sp} {c : Nat} (h : Rb W q (scs l)) (hc : l.length ≤ c) (hm : c ≤ maxLen) : Pl W W.heap.size (.slice (some ⟨q, 0, none⟩) l.length c) l :=
  ⟨_, c, rfl, hc, hm, by rw [scs_len], fun _ => ⟨q, 0, rfl, h.lt, fun j u hu => by rw [Nat.zero_add]; exact h.c j u hu⟩⟩
theorem Rb.fl {F : List Int} {c : Nat} (h : Rb W q (ics F)) (hc : F.length ≤ c) (hm : c ≤ maxLen) : Fl W W.heap.size (.slice (some ⟨q, 0, none⟩) F.length c) F :=
  ⟨_, c, rfl, hc, hm, by rw [ics_len], fun _ => ⟨q, 0, rfl, h.lt, fun j u hu => by rw [Nat.zero_add]; exact h.c j u hu⟩⟩
end
/-- The spans are copied. -/
structure Be10 (w : World) (g p q1 c1 : Nat) (d : Dd) (A2 : Option Addr) (c2 : Nat) (W : World) : Prop where
  src : SrcAt W w.heap.size g
  db : Db10 W p d ⟨some ⟨q1, 0, none⟩, c1, A2, c2⟩
  r1 : Rb W q1 (scs d.l)
  fl : Fl W W.heap.size (.slice A2 d.F.length c2) d.F
  bel : Below w.heap.size w W
  ord : w.heap.size ≤ g ∧ g < p ∧ p < q1
  cap : d.l.length ≤ c1 ∧ c1 ≤ maxLen
  off : ∀ a, A2 = some a → 0 < d.F.length → a.block ≠ p
/-- Both lists are copied. -/
structure Bf10 (w : World) (g p q1 c1 q2 c2 : Nat) (d : Dd) (W : World) : Prop where
  src : SrcAt W w.heap.size g
  db : Db10 W p d ⟨some ⟨q1, 0, none⟩, c1, some ⟨q2, 0, none⟩, c2⟩
  r1 : Rb W q1 (scs d.l)
  r2 : Rb W q2 (ics d.F)
  bel : Below w.heap.size w W
  ord : w.heap.size ≤ g ∧ g < p ∧ p < q1 ∧ q1 < q2
  cap : (d.l.length ≤ c1 ∧ c1 ≤ maxLen) ∧ d.F.length ≤ c2 ∧ c2 ≤ maxLen
theorem Db10.set1 {W : World} {p : Nat} {d : Dd} {X : Dx} (h : Db10 W p d X) (A : Option Addr) (c : Nat) : Db10 (W.setCell ⟨p, 1, none⟩ (.slice A d.l.length c)) p d ⟨A, c, X.A2, X.c2⟩ := by
  obtain ⟨c0, c1, c2, fr, lt⟩ := h
  exact ⟨by simp [go_sem, c0], by simp [go_sem, c1], by simp [go_sem, c2], fun o => by simp [go_sem, fr o], by simp [lt]⟩
theorem Db10.set2 {W : World} {p : Nat} {d : Dd} {X : Dx} (h : Db10 W p d X) (A : Option Addr) (c : Nat) : Db10 (W.setCell ⟨p, 2, none⟩ (.slice A d.F.length c)) p d ⟨X.A, X.c, A, c⟩ := by
  obtain ⟨c0, c1, c2, fr, lt⟩ := h
  exact ⟨by simp [go_sem, c0], by simp [go_sem, c1], by simp [go_sem, c2], fun o => by simp [go_sem, fr o], by simp [lt]⟩
section
variable {w W W' : World} {g p q1 c1 q2 c2 : Nat} {d : Dd} {X : Dx} {A2 : Option Addr}
theorem DsAt.one (k : DsAt w w.heap.size g p d X W) (hgp : g < p) {q : Nat} {c : Nat} (hb : Below W.heap.size W W') (hr : Rb W' q (scs d.l)) (hq : W.heap.size ≤ q) (hc : d.l.length ≤ c ∧ c ≤ maxLen) :
    Be10 w g p q c d X.A2 X.c2 (W'.setCell ⟨p, 1, none⟩ (.slice (some ⟨q, 0, none⟩) d.l.length c)) := by
  have k' := k.below hb
  have hn := k.ne
  have hp := k.db.lt
  exact ⟨k'.src.other (p := ⟨p, 1, none⟩) (show p ≠ g by omega) (show w.heap.size ≤ p by omega) _, k'.db.set1 _ _, hr.other (a := ⟨p, 1, none⟩) (show p ≠ q by omega) _, (k'.dr.fl.offp (p := ⟨p, 1, none⟩) k.op.o2 _).more (by simp), k'.bel.setCell (p := ⟨p, 1, none⟩) (show w.heap.size ≤ p by omega) _, ⟨by omega, hgp, by omega⟩, hc, k.op.o2⟩
theorem Be10.two (k : Be10 w g p q1 c1 d A2 c2 W) {q c : Nat} (hb : Below W.heap.size W W') (hr : Rb W' q (ics d.F)) (hq : W.heap.size ≤ q) (hc : d.F.length ≤ c ∧ c ≤ maxLen) :
    Bf10 w g p q1 c1 q c d (W'.setCell ⟨p, 2, none⟩ (.slice (some ⟨q, 0, none⟩) d.F.length c)) := by
  have hn := k.ord
  have hp := k.r1.lt
  exact ⟨(k.src.below hb).other (p := ⟨p, 2, none⟩) (show p ≠ g by omega) (show w.heap.size ≤ p by omega) _, (k.db.up hb).set2 _ _, (k.r1.up hb).other (a := ⟨p, 2, none⟩) (show p ≠ q1 by omega) _, hr.other (a := ⟨p, 2, none⟩) (show p ≠ q by omega) _, (k.bel.trans (hb.mono k.bel.size)).setCell (p := ⟨p, 2, none⟩) (show w.heap.size ≤ p by omega) _, ⟨by omega, by omega, by omega, by omega⟩, k.cap, hc⟩
theorem Bf10.below (k : Bf10 w g p q1 c1 q2 c2 d W) (hb : Below W.heap.size W W') : Bf10 w g p q1 c1 q2 c2 d W' :=
  ⟨k.src.below hb, k.db.up hb, k.r1.up hb, k.r2.up hb, k.bel.trans (hb.mono k.bel.size), k.ord, k.cap⟩
theorem Bf10.drew (k : Bf10 w g p q1 c1 q2 c2 d W) : Bf10 w g p q1 c1 q2 c2 d W.drew := k.below (Below.refl _ _).drew
theorem Bf10.turn (k : Bf10 w g p q1 c1 q2 c2 d W) (hs : SrcAt W' w.heap.size g) (hg : W.grownBy W' (some g)) : Bf10 w g p q1 c1 q2 c2 d W' :=
  ⟨hs, k.db.grown hg (by have := k.ord; omega), k.r1.grown hg (by have := k.ord; omega), k.r2.grown hg (by have := k.ord; omega), below_only k.bel hg k.ord.1 (Nat.le_refl _), k.ord, k.cap⟩
theorem Bf10.dr (k : Bf10 w g p q1 c1 q2 c2 d W) : DR W W.heap.size d ⟨some ⟨q1, 0, none⟩, c1, some ⟨q2, 0, none⟩, c2⟩ := ⟨k.r1.pl k.cap.1.1 k.cap.1.2, k.r2.fl k.cap.2.1 k.cap.2.2⟩
theorem Bf10.setL (k : Bf10 w g p q1 c1 q2 c2 d W) {o : Nat} {L : List Sp} {x : Int} (hl : L.length = d.l.length) (ho : o < d.l.length * 3) (he : (scs d.l).set o (.int .i64 x) = scs L) : Bf10 w g p q1 c1 q2 c2 ⟨d.vn, L, d.F⟩ (W.setCell ⟨q1, o, none⟩ (.int .i64 x)) := by
  have hn := k.ord
  have h2 := k.r1.set (j := o) (by rw [scs_len]; exact ho) (.int .i64 x)
  rw [he] at h2
  have h3 := k.db.other (a := ⟨q1, o, none⟩) (show q1 ≠ p by omega) (.int .i64 x)
  exact ⟨k.src.other (p := ⟨q1, o, none⟩) (show q1 ≠ g by omega) (show w.heap.size ≤ q1 by omega) _, ⟨h3.c0, by rw [show (⟨d.vn, L, d.F⟩ : Dd).l.length = d.l.length from hl]; exact h3.c1, h3.c2, h3.fr, h3.lt⟩, h2, k.r2.other (a := ⟨q1, o, none⟩) (show q1 ≠ q2 by omega) _, k.bel.setCell (p := ⟨q1, o, none⟩) (show w.heap.size ≤ q1 by omega) _, k.ord, by rw [show (⟨d.vn, L, d.F⟩ : Dd).l.length = d.l.length from hl]; exact k.cap⟩
theorem Bf10.pn (k : Bf10 w g p q1 c1 q2 c2 d W) : (q1 ≠ p ∧ q2 ≠ p) ∧ q1 < W.heap.size ∧ q2 < W.heap.size := by have h1 := k.ord; have h2 := k.r1.lt; have h3 := k.r2.lt; omega
/-- The cells of a span. -/
theorem Bf10.sp (k : Bf10 w g p q1 c1 q2 c2 d W) {j : Nat} (hj : j < d.l.length) : W.cell? ⟨q1, j * 3, none⟩ = some (.int .i64 (sg d.l j).lo) ∧ W.cell? ⟨q1, j * 3 + 1, none⟩ = some (.int .i64 (sg d.l j).hi) ∧ W.cell? ⟨q1, j * 3 + 2, none⟩ = some (.int .i64 (sg d.l j).sh) := by
  have h : ∀ i u, i < 3 → (d.l[j]).l[i]? = some u → W.cell? ⟨q1, j * 3 + i, none⟩ = some u := fun i u hi hu => k.r1.c _ u (by rw [scs_at d.l j i hj hi]; exact hu)
  rw [sg_get hj]
  exact ⟨h 0 _ (by omega) rfl, h 1 _ (by omega) rfl, h 2 _ (by omega) rfl⟩
end
end Go.Proofs.Ytijpflljopckiaa
namespace Go.Proofs.Ytijpflljopckiaa
open Go.RowKit
set_option linter.unusedVariables false

section
variable {w : World} {B : Nat} {A : Option Addr} {n c : Nat} {l : List Le}
theorem El.upto (h : El w B (.slice A n c) l) (j : Nat) (hj : j ≤ n) : El w B (.slice A j c) (l.take j) := by
  obtain ⟨hn, hl, hm⟩ := h.len
  have hlen : (l.take j).length = j := by simp; omega
  refine ⟨A, c, by rw [hlen], by rw [hlen]; omega, hm, by rw [ecs_len], fun h0 => ?_⟩
  rw [hlen] at h0
  obtain ⟨b, o, rfl, hb, hc⟩ := h.rd.2 (by omega)
  refine ⟨b, o, rfl, hb, fun k u hu => hc k u ?_⟩
  rw [← ecs_take] at hu
  have hk : k < j * 8 := by
    have := (List.getElem?_eq_some_iff.1 hu).1
    simp at this; omega
  rw [← hu, List.getElem?_take_of_lt hk]
theorem El.cut (h : El w B (.slice A n c) l) (k : Nat) (hk : k ≤ n) : El w B (.slice (if c = k then A else A.map (·.add (k * 8))) (n - k) (c - k)) (l.drop k) := by
  obtain ⟨hn, hl, hm⟩ := h.len
  refine ⟨_, c - k, by rw [List.length_drop, hn], by simp; omega, by omega, by rw [ecs_len], fun h0 => ?_⟩
  rw [List.length_drop] at h0
  obtain ⟨b, o, rfl, hb, hc⟩ := h.rd.2 (by omega)
  rw [if_neg (by omega)]
  refine ⟨b, o + k * 8, by rw [Option.map_some, add_mk], hb, fun j u hu => ?_⟩
  rw [Nat.add_assoc]
  refine hc _ u ?_
  rw [← hu, ← ecs_drop, List.getElem?_drop]
end
end Go.Proofs.Ytijpflljopckiaa
namespace Go.Proofs.Ytijpflljopckiaa
open Go.RowKit
set_option linter.unusedVariables false

/-- Two slices in an array of the call's own. -/
structure Cc2 (W : World) (g : Nat) (v0 v1 : Value) (l0 l1 : List Le) : Prop where
  c0 : W.cell? ⟨g, 0, none⟩ = some v0
  c1 : W.cell? ⟨g, 1, none⟩ = some v1
  lt : g < W.heap.size
  e0 : El W W.heap.size v0 l0
  e1 : El W W.heap.size v1 l1
theorem Cc2.start {w : World} {v0 v1 : Value} {l0 l1 : List Le} (t : TypeId) (h0 : El w w.heap.size v0 l0) (h1 : El w w.heap.size v1 l1) : Cc2 (w.alloc (.cells #[v0, v1] t)) w.heap.size v0 v1 l0 l1 := by
  have hb := (Below.refl w.heap.size w).alloc (Nat.le_refl _) (.cells #[v0, v1] t)
  refine ⟨?_, ?_, by simp, (h0.below hb).more hb.size, (h1.below hb).more hb.size⟩
  · rw [World.cell?_alloc_new]; rfl
  · rw [World.cell?_alloc_new]; rfl
end Go.Proofs.Ytijpflljopckiaa
namespace Go.Proofs.Ytijpflljopckiaa
open Go.RowKit
set_option linter.unusedVariables false

theorem sspan_any (lo hi : Int) (w : World) : Calls Try.prog 96 #[.int .i64 lo, .int .i64 hi] w fun e w' => e = .returned (.bool (spB lo hi)) ∧ w = w' := by
  by_cases h1 : 0 ≤ lo
  · by_cases h2 : lo ≤ hi
    · by_cases h3 : hi < 65536
      · have H := Lib.hid (spB_iff.2 ⟨h1, h2, h3⟩)
        go_enter Try.func96, Try.ntmps96
        go_wp2
        go_ret
        exact ⟨by rw [H.out]; rfl, rfl⟩
      · have H := Lib.hid (show spB lo hi = false from decide_eq_false (fun h => h3 h.2.2))
        go_enter Try.func96, Try.ntmps96
        go_wp2
        go_ret
        exact ⟨by rw [H.out]; rfl, rfl⟩
    · have H := Lib.hid (show spB lo hi = false from decide_eq_false (fun h => h2 h.2.1))
      go_enter Try.func96, Try.ntmps96
      go_wp2
      go_ret
      exact ⟨by rw [H.out]; rfl, rfl⟩
  · have H := Lib.hid (show spB lo hi = false from decide_eq_false (fun h => h1 h.1))
    go_enter Try.func96, Try.ntmps96
    go_wp2
    go_ret
    exact ⟨by rw [H.out]; rfl, rfl⟩
/-- Three numbers: a number and its range. -/
abbrev r3 (n lo hi : Int) : Value := .agg #[.int .i64 n, .int .i64 lo, .int .i64 hi]
end Go.Proofs.Ytijpflljopckiaa
/- Plain: a list of messages that is cut at both ends and appended to. -/
namespace Go.Proofs.Ytijpflljopckiaa
open Go.RowKit
set_option linter.unusedVariables false

/-- A list of messages from block 'base' on, below Bd: it may be appended to in place. -/
def Wn (W : World) (base Bd : Nat) (v : Value) (l : List Msg) : Prop := ∃ A c, v = .slice A l.length c ∧ l.length ≤ c ∧ c ≤ maxLen ∧ (A = none → c = 0) ∧
  (0 < c → ∃ b o, A = some ⟨b, o, none⟩ ∧ base ≤ b ∧ b < Bd ∧ (∀ j u, (lcs l)[j]? = some u → W.cell? ⟨b, o + j, none⟩ = some u) ∧ ∀ j, j < c * 7 → (W.cell? ⟨b, o + j, none⟩).isSome = true ∧ W.frozen? ⟨b, o + j, none⟩ = false)
section
variable {W W' : World} {base Bd Bd' : Nat} {v : Value} {l : List Msg} {A : Option Addr} {n c : Nat}
theorem Wn.nil : Wn W base Bd (.slice none 0 0) [] := ⟨none, 0, rfl, Nat.le_refl _, Nat.zero_le _, fun _ => rfl, fun h => absurd h (by omega)⟩
theorem Wn.more (h : Wn W base Bd v l) (hB : Bd ≤ Bd') : Wn W base Bd' v l := by
  obtain ⟨A, c, e, h1, h2, h3, h4⟩ := h
  exact ⟨A, c, e, h1, h2, h3, fun h0 => by obtain ⟨b, o, e, k1, k2, k3⟩ := h4 h0; exact ⟨b, o, e, k1, by omega, k3⟩⟩
theorem Wn.keep (h : Wn W base Bd v l) (hc : ∀ b o, base ≤ b → b < Bd → W'.cell? ⟨b, o, none⟩ = W.cell? ⟨b, o, none⟩ ∧ W'.frozen? ⟨b, o, none⟩ = W.frozen? ⟨b, o, none⟩) : Wn W' base Bd v l := by
  obtain ⟨A, c, e, h1, h2, h3, h4⟩ := h
  refine ⟨A, c, e, h1, h2, h3, fun h0 => ?_⟩
  obtain ⟨b, o, e, k1, k2, k3, k4⟩ := h4 h0
  exact ⟨b, o, e, k1, k2, fun j u hu => (hc b _ k1 k2).1.trans (k3 j u hu), fun j hj => ⟨by rw [(hc b (o + j) k1 k2).1]; exact (k4 j hj).1, (hc b (o + j) k1 k2).2.trans (k4 j hj).2⟩⟩
theorem Wn.below (h : Wn W base Bd v l) (hB : Bd ≤ W.heap.size) (hb : Below W.heap.size W W') : Wn W' base Bd v l :=
  h.keep fun b o _ h2 => ⟨hb.cell (p := ⟨b, o, none⟩) (by show b < _; omega), hb.frozen (p := ⟨b, o, none⟩) (by show b < _; omega)⟩
theorem Wn.grown (h : Wn W base Bd v l) (hB : Bd ≤ W.heap.size) {row : Option Nat} (hg : W.grownBy W' row) (hr : ∀ x, row = some x → x < base ∨ Bd ≤ x) : Wn W' base Bd v l :=
  h.keep fun b o h1 h2 => ⟨hg.cell_far ⟨b, o, none⟩ (by show b < _; omega) (fun e => by have := hr b e.symm; omega), hg.frozen_far ⟨b, o, none⟩ (by show b < _; omega) (fun e => by have := hr b e.symm; omega)⟩
theorem Wn.alloc (h : Wn W base Bd v l) (hB : Bd ≤ W.heap.size) (o : Obj) : Wn (W.alloc o) base Bd v l := h.below hB ((Below.refl _ _).alloc (Nat.le_refl _) o)
theorem Wn.set (h : Wn W base Bd v l) {p : Addr} (hp : p.block < base ∨ Bd ≤ p.block) (u : Value) : Wn (W.setCell p u) base Bd v l :=
  h.keep fun b o h1 h2 => ⟨World.cell?_setCell_other W p ⟨b, o, none⟩ u (fun e => by subst e; simp at hp; omega), by rw [World.frozen?_setCell]⟩
theorem Wn.ls (h : Wn W base Bd v l) : Ls W Bd v l := by
  obtain ⟨A, c, e, h1, h2, h3, h4⟩ := h
  refine ⟨A, c, e, h1, h2, by rw [lcs_len], fun h0 => ?_⟩
  obtain ⟨b, o, e, k1, k2, k3, _⟩ := h4 (by omega)
  exact ⟨b, o, e, k2, k3⟩
theorem Wn.form (h : Wn W base Bd v l) : ∃ A c, v = .slice A l.length c := by obtain ⟨A, c, e, _⟩ := h; exact ⟨A, c, e⟩
theorem Wn.own {base' : Nat} {e : TypeId} (h : W.ownsRow base' e 7 v l.length (lcs l)) (hb : base ≤ base') : Wn W base W.heap.size v l := by
  rcases h.2 with ⟨hv, h0⟩ | ⟨g, cap, cur, hv, hg, hh, hl, hm, hs, ht⟩
  · have hl : l = [] := List.length_eq_zero_iff.1 h0
    subst hl
    subst hv
    exact Wn.nil
  · subst hv
    refine ⟨_, cap, rfl, hl, hm, fun h => by simp at h, fun _ => ⟨g, 0, rfl, by omega, (Array.getElem?_eq_some_iff.1 hh).1, fun j u hu => by have := h.cells (g := g) rfl j u hu; rwa [add_mk] at this, fun j hj => ⟨?_, by rw [Nat.zero_add]; exact h.frozenAt j⟩⟩⟩
    rw [Nat.zero_add]
    have hj' : j < cur.size := by omega
    simp [World.cell?, hh, hj']
/-- It is cut at its end. -/
theorem Wn.upto (h : Wn W base Bd (.slice A n c) l) (j : Nat) (hj : j ≤ n) : Wn W base Bd (.slice A j c) (l.take j) := by
  obtain ⟨A', c', e, h1, h2, h3, h4⟩ := h
  injection e with e1 e2 e3
  subst e1; subst e3
  have hl : (l.take j).length = j := by rw [List.length_take]; omega
  refine ⟨A, c, by rw [hl], by omega, h2, h3, fun h0 => ?_⟩
  obtain ⟨b, o, e, k1, k2, k3, k4⟩ := h4 h0
  refine ⟨b, o, e, k1, k2, fun i u hu => k3 i u ?_, k4⟩
  rw [← lcs_take] at hu
  rw [List.getElem?_take] at hu
  split at hu
  · exact hu
  · simp at hu
/-- In place. -/
theorem Wn.room (h : Wn W base Bd (.slice A l.length c) l) (hc : l.length + 1 ≤ c) {b o : Nat} (hA : A = some ⟨b, o, none⟩) (M : Msg) : Wn (W.setCells b (o + l.length * 7) M.l) base Bd (.slice A (l.length + 1) c) (l ++ [M]) := by
  obtain ⟨A', c', e, h1, h2, h3, h4⟩ := h
  injection e with e1 e2 e3
  subst e1; subst e3
  refine ⟨A, c, by simp, by simpa using hc, h2, h3, fun h0 => ?_⟩
  obtain ⟨b', o', e, k1, k2, k3, k4⟩ := h4 h0
  rw [hA] at e
  injection e with e
  injection e with e1 e2 _
  subst e1; subst e2
  refine ⟨b, o, hA, k1, k2, fun j u hu => ?_, fun j hj => ⟨?_, by rw [World.frozen?_setCells]; exact (k4 j hj).2⟩⟩
  · have hll := lcs_len l
    rw [lcs_app] at hu
    by_cases hj : j < (lcs l).length
    · rw [List.getElem?_append_left hj] at hu
      rw [World.cell?_setCells_out b M.l (o + l.length * 7) W ⟨b, o + j, none⟩ (fun _ _ => by left; show o + j < o + l.length * 7; omega)]
      exact k3 j u hu
    · rw [List.getElem?_append_right (by omega)] at hu
      have hM : lcs [M] = M.l := by simp [lcs]
      rw [hM] at hu
      have hjl : j - (lcs l).length < 7 := (List.getElem?_eq_some_iff.1 hu).1
      have e : o + j = o + l.length * 7 + (j - (lcs l).length) := by omega
      rw [e, World.cell?_setCells_in b M.l (o + l.length * 7) W (fun i hi => by rw [Nat.add_assoc]; exact (k4 (l.length * 7 + i) (by rw [Msg.l_len] at hi; omega)).1) (j - (lcs l).length) (by rw [Msg.l_len]; exact hjl)]
      rw [← hu]
      exact (List.getElem?_eq_getElem _).symm
  · by_cases hj2 : l.length * 7 ≤ j ∧ j < l.length * 7 + 7
    · have e : o + j = o + l.length * 7 + (j - l.length * 7) := by omega
      rw [e, World.cell?_setCells_in b M.l (o + l.length * 7) W (fun i hi => by rw [Nat.add_assoc]; exact (k4 (l.length * 7 + i) (by rw [Msg.l_len] at hi; omega)).1) (j - l.length * 7) (by rw [Msg.l_len]; omega)]
      rfl
    · rw [World.cell?_setCells_out b M.l (o + l.length * 7) W ⟨b, o + j, none⟩ (fun _ _ => by rw [Msg.l_len]; show o + j < o + l.length * 7 ∨ o + l.length * 7 + 7 ≤ o + j; omega)]
      exact (k4 j hj).1
end
end Go.Proofs.Ytijpflljopckiaa
