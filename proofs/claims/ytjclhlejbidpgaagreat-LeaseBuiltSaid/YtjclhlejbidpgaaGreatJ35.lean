/- What is proved here: what a statement about built tables holds: a source, a table in a box, its lists copied and changed in one place. -/
import Derived.Test.YtjclhlejbidpgaaGreatJ31
import Derived.Test.YtjclhlejbidpgaaGreatJ34
import Derived.Test.YtjclhlejbidpgaaGreatJ17
namespace Go.Proofs.YtjclhlejbidpgaaGreat
open Go.RowKit
set_option linter.unusedVariables false

theorem El.grownB {W W' : World} {g lo n c B : Nat} {A : Option Addr} {l : List Le} (h : El W B (.slice A n c) l) (hA : Nw lo A) (hg : g < lo) (hB : B ≤ W.heap.size) (hgr : W.grownBy W' (some g)) : El W' B (.slice A n c) l := by
  obtain ⟨A', c', e, hl, hm, hr⟩ := h
  injection e with e1 e2 e3
  subst e1; subst e3
  refine ⟨A, c, by rw [e2], hl, hm, hr.1, fun h0 => ?_⟩
  obtain ⟨b, o, e, hb, hc⟩ := hr.2 h0
  have hlo : lo ≤ b := hA _ e
  exact ⟨b, o, e, hb, fun j u hu => (hgr.cell_far ⟨b, o + j, none⟩ (Nat.lt_of_lt_of_le hb hB) (fun e' => by injection e' with e'; have e2 : b = g := e'; omega)).trans (hc j u hu)⟩
theorem Dl.grownB {W W' : World} {g lo n c B : Nat} {A : Option Addr} {l : List Du} (h : Dl W B (.slice A n c) l) (hA : Nw lo A) (hg : g < lo) (hB : B ≤ W.heap.size) (hgr : W.grownBy W' (some g)) : Dl W' B (.slice A n c) l := by
  obtain ⟨A', c', e, hl, hm, hr⟩ := h
  injection e with e1 e2 e3
  subst e1; subst e3
  refine ⟨A, c, by rw [e2], hl, hm, hr.1, fun h0 => ?_⟩
  obtain ⟨b, o, e, hb, hc⟩ := hr.2 h0
  have hlo : lo ≤ b := hA _ e
  exact ⟨b, o, e, hb, fun j u hu => (hgr.cell_far ⟨b, o + j, none⟩ (Nat.lt_of_lt_of_le hb hB) (fun e' => by injection e' with e'; have e2 : b = g := e'; omega)).trans (hc j u hu)⟩
/-- A source and a table in a box. -/
structure BtAt (w : World) (g p Bd : Nat) (A : Option Addr) (n c : Nat) (l : List Le) (A2 : Option Addr) (n2 c2 : Nat) (h : List Du) (W : World) : Prop where
  src : SrcAt W w.heap.size g
  rt : RT W p A n c A2 n2 c2
  el : El W Bd (.slice A n c) l
  dl : Dl W Bd (.slice A2 n2 c2) h
  nw : Nw (g + 1) A ∧ Nw (g + 1) A2
  bel : Below w.heap.size w W
  ord : w.heap.size ≤ g ∧ g < p ∧ Bd ≤ W.heap.size
section
variable {w W W' : World} {g p Bd n c n2 c2 : Nat} {A A2 : Option Addr} {l : List Le} {h : List Du}
theorem BtAt.below (k : BtAt w g p Bd A n c l A2 n2 c2 h W) (hb : Below W.heap.size W W') : BtAt w g p Bd A n c l A2 n2 c2 h W' :=
  have ho := k.ord
  ⟨k.src.below hb, k.rt.below hb k.rt.lt, k.el.below (hb.mono ho.2.2), k.dl.below (hb.mono ho.2.2), k.nw, k.bel.trans (hb.mono k.bel.size), ho.1, ho.2.1, Nat.le_trans ho.2.2 hb.size⟩
theorem BtAt.grownG (k : BtAt w g p Bd A n c l A2 n2 c2 h W) (hs : SrcAt W' w.heap.size g) (hg : W.grownBy W' (some g)) : BtAt w g p Bd A n c l A2 n2 c2 h W' :=
  have ho := k.ord
  ⟨hs, k.rt.grownG hg (by omega), k.el.grownB k.nw.1 (by omega) ho.2.2 hg, k.dl.grownB k.nw.2 (by omega) ho.2.2 hg, k.nw, below_only k.bel hg ho.1 (Nat.le_refl _), ho.1, ho.2.1, Nat.le_trans ho.2.2 hg.size⟩
theorem BtAt.drew (k : BtAt w g p Bd A n c l A2 n2 c2 h W) : BtAt w g p Bd A n c l A2 n2 c2 h W.drew := k.below (Below.refl _ _).drew
theorem BtAt.alloc (k : BtAt w g p Bd A n c l A2 n2 c2 h W) (o : Obj) : BtAt w g p Bd A n c l A2 n2 c2 h (W.alloc o) := k.below ((Below.refl _ _).alloc (Nat.le_refl _) o)
theorem BtAt.s2 (k : BtAt w g p Bd A n c l A2 n2 c2 h W) : W.cell? ⟨p, 0, none⟩ = some (.slice A n c) ∧ W.cell? ⟨p, 1, none⟩ = some (.slice A2 n2 c2) := ⟨k.rt.c0, k.rt.c1⟩
theorem BtAt.eln (k : BtAt w g p Bd A n c l A2 n2 c2 h W) : El W W.heap.size (.slice A n c) l := k.el.more k.ord.2.2
theorem BtAt.dln (k : BtAt w g p Bd A n c l A2 n2 c2 h W) : Dl W W.heap.size (.slice A2 n2 c2) h := k.dl.more k.ord.2.2
end
/-- The six deadlines that a statement picks from. -/
abbrev p6 : Array Value := #[.int .i64 (-1), .int .i64 0, .int .i64 7, .int .i64 20, .int .i64 1073741824, .int .i64 1073741825]
structure PkRow (b g : Nat) (W : World) : Prop where
  lt : b < W.heap.size
  ne : b ≠ g
  at_ : ∀ j (hj : j < ([-1, 0, 7, 20, 1073741824, 1073741825] : List Int).length), W.cell? ⟨b, j, none⟩ = some (.int .i64 ([-1, 0, 7, 20, 1073741824, 1073741825] : List Int)[j])
theorem PkRow.start {g : Nat} (w : World) (hg : g < w.heap.size) (t : TypeId) : PkRow w.heap.size g (w.alloc (.cells #[.int .i64 (-1), .int .i64 0, .int .i64 7, .int .i64 20, .int .i64 1073741824, .int .i64 1073741825] t)) := ⟨by simp, by omega, row_cells w [-1, 0, 7, 20, 1073741824, 1073741825] t⟩
theorem PkRow.grown {b g : Nat} {W W' : World} (h : PkRow b g W) (hg : W.grownBy W' (some g)) : PkRow b g W' :=
  ⟨Nat.lt_of_lt_of_le h.lt hg.size, h.ne, fun j hj => (hg.cell_far ⟨b, j, none⟩ h.lt (fun e => h.ne (by injection e))).trans (h.at_ j hj)⟩
theorem PkRow.below {b g : Nat} {W W' : World} (h : PkRow b g W) (hb : Below W.heap.size W W') : PkRow b g W' :=
  ⟨Nat.lt_of_lt_of_le h.lt hb.size, h.ne, fun j hj => (hb.cell (p := ⟨b, j, none⟩) h.lt).trans (h.at_ j hj)⟩
theorem pick_row {B g b : Nat} {w : World} (h : SrcAt w B g) (k : PkRow b g w) : Calls Tryz.prog 11 #[.pointer (some ⟨g, 0, none⟩), .slice (some ⟨b, 0, none⟩) 6 6] w (SrPick B g [-1, 0, 7, 20, 1073741824, 1073741825] w) :=
  pick_any B g w h b 6 [-1, 0, 7, 20, 1073741824, 1073741825] rfl k.lt k.ne (by omega) (by omega) k.at_


theorem eown_row {W : World} {base n : Nat} {e : TypeId} {l : List Le} {v : Value} (ho : W.ownsRow base e 8 v n (ecs l)) (h0 : 0 < n) : ∃ q cap, v = .slice (some ⟨q, 0, none⟩) n cap ∧ base ≤ q ∧ n ≤ cap ∧ cap ≤ maxLen ∧ ERow W q n (lg l) := by
  rcases ho.2 with ⟨_, h⟩ | ⟨q, cap, cur, hv, hq, _, hl, hm, _⟩
  · omega
  · subst hv
    exact ⟨q, cap, rfl, hq, hl, hm, ERow.of_own ho⟩
theorem ERow.grownG {W W' : World} {q n g : Nat} {f : Nat → Le} (h : ERow W q n f) (hg : W.grownBy W' (some g)) (hne : q ≠ g) : ERow W' q n f :=
  ⟨Nat.lt_of_lt_of_le h.1 hg.size, fun k hk j hj => (hg.cell_far ⟨q, k * 8 + j, none⟩ h.1 (fun e => hne (by injection e))).trans (h.2.1 k hk j hj), fun o => (hg.frozen_far ⟨q, o, none⟩ h.1 (fun e => hne (by injection e))).trans (h.2.2 o)⟩
theorem DRow.grownG {W W' : World} {q n g : Nat} {f : Nat → Du} (h : DRow W q n f) (hg : W.grownBy W' (some g)) (hne : q ≠ g) : DRow W' q n f :=
  ⟨Nat.lt_of_lt_of_le h.1 hg.size, fun k hk j hj => (hg.cell_far ⟨q, k * 2 + j, none⟩ h.1 (fun e => hne (by injection e))).trans (h.2.1 k hk j hj), fun o => (hg.frozen_far ⟨q, o, none⟩ h.1 (fun e => hne (by injection e))).trans (h.2.2 o)⟩
theorem DRow.till {W : World} {q n : Nat} {f : Nat → Du} (h : DRow W q n f) {k : Nat} (hk : k < n) (d : Int) : DRow (W.setCell ⟨q, k * 2, none⟩ (.int .i64 d)) q n (fun i => if i = k then ⟨d, (f k).id⟩ else f i) := by
  refine ⟨by simpa using h.1, fun i hi j hj => ?_, fun o => by rw [World.frozen?_setCell]; exact h.2.2 o⟩
  by_cases e : i = k
  · subst e
    simp only [if_true]
    match j, hj with
    | 0, _ => exact World.cell?_setCell_same' W _ _ (by rw [show (⟨q, i * 2, none⟩ : Addr) = ⟨q, i * 2 + 0, none⟩ from rfl, h.2.1 i hi 0 (by omega)]; rfl)
    | 1, _ => exact (World.cell?_setCell_other W _ _ _ (fun e => by injection e with _ e2; omega)).trans (h.2.1 i hi 1 (by omega))
  · simp only [if_neg e]
    exact (World.cell?_setCell_other W _ _ _ (fun e' => by injection e' with _ e2; omega)).trans (h.2.1 i hi j hj)
/-- A message is stored into a lease. -/
theorem ERow.msg {W : World} {q n : Nat} {f : Nat → Le} (h : ERow W q n f) {k : Nat} (hk : k < n) (M : Msg) : ERow (W.setCells q (k * 8) M.l) q n (fun i => if i = k then ⟨M, (f k).dl⟩ else f i) := by
  refine ⟨by rw [sets_size]; exact h.1, fun i hi j hj => ?_, fun o => by rw [World.frozen?_setCells]; exact h.2.2 o⟩
  by_cases e : i = k
  · subst e
    simp only [if_true]
    by_cases h7 : j < 7
    · rw [World.cell?_setCells_in q M.l (i * 8) W (fun j hj => (h.there hk j (by rw [Msg.l_len] at hj; omega)).1) j (by rw [Msg.l_len]; exact h7)]
      match j, h7 with
      | 0, _ => rfl
      | 1, _ => rfl
      | 2, _ => rfl
      | 3, _ => rfl
      | 4, _ => rfl
      | 5, _ => rfl
      | 6, _ => rfl
    · obtain rfl : j = 7 := by omega
      rw [World.cell?_setCells_out q M.l (i * 8) W ⟨q, i * 8 + 7, none⟩ (fun _ _ => by rw [Msg.l_len]; show i * 8 + 7 < i * 8 ∨ i * 8 + 7 ≤ i * 8 + 7; omega)]
      exact h.2.1 i hi 7 (by omega)
  · simp only [if_neg e]
    rw [← h.2.1 i hi j hj]
    exact World.cell?_setCells_out q M.l (k * 8) W ⟨q, i * 8 + j, none⟩ (fun _ _ => by rw [Msg.l_len]; show i * 8 + j < k * 8 ∨ k * 8 + 7 ≤ i * 8 + j; omega)
theorem RT.set0 {W : World} {r n c n2 c2 : Nat} {A A2 : Option Addr} (h : RT W r A n c A2 n2 c2) (D : Option Addr) (m d : Nat) : RT (W.setCell ⟨r, 0, none⟩ (.slice D m d)) r D m d A2 n2 c2 :=
  ⟨World.cell?_setCell_same' _ _ _ (by rw [h.c0]; rfl), (World.cell?_setCell_other _ _ _ _ (fun e => by injection e with _ e _; cases e)).trans h.c1, by rw [World.frozen?_setCell]; exact h.f0, by rw [World.frozen?_setCell]; exact h.f1, by simpa using h.lt⟩
theorem RT.set1 {W : World} {r n c n2 c2 : Nat} {A A2 : Option Addr} (h : RT W r A n c A2 n2 c2) (D : Option Addr) (m d : Nat) : RT (W.setCell ⟨r, 1, none⟩ (.slice D m d)) r A n c D m d :=
  ⟨(World.cell?_setCell_other _ _ _ _ (fun e => by injection e with _ e _; cases e)).trans h.c0, World.cell?_setCell_same' _ _ _ (by rw [h.c1]; rfl), by rw [World.frozen?_setCell]; exact h.f0, by rw [World.frozen?_setCell]; exact h.f1, by simpa using h.lt⟩
theorem RT.far1 {W : World} {r n c n2 c2 : Nat} {A A2 : Option Addr} (h : RT W r A n c A2 n2 c2) {p : Addr} (hp : p.block ≠ r) (v : Value) : RT (W.setCell p v) r A n c A2 n2 c2 :=
  ⟨(World.cell?_setCell_other W p _ v (fun e => hp (by rw [e]))).trans h.c0, (World.cell?_setCell_other W p _ v (fun e => hp (by rw [e]))).trans h.c1, by rw [World.frozen?_setCell]; exact h.f0, by rw [World.frozen?_setCell]; exact h.f1, by simpa using h.lt⟩
/-- The leases are copied. -/
structure Bm (w : World) (g p q n cap : Nat) (f : Nat → Le) (A2 : Option Addr) (c2 : Nat) (h : List Du) (W : World) : Prop where
  src : SrcAt W w.heap.size g
  rt : RT W p (some ⟨q, 0, none⟩) n cap A2 n c2
  r1 : ERow W q n f
  dl : Dl W p (.slice A2 n c2) h
  bel : Below w.heap.size w W
  ord : w.heap.size ≤ g ∧ g < p ∧ p < q
  cap1 : n ≤ cap ∧ cap ≤ maxLen
/-- Both lists are copied. -/
structure Bw (w : World) (g p q q2 n cap cap2 : Nat) (f : Nat → Le) (f2 : Nat → Du) (W : World) : Prop where
  src : SrcAt W w.heap.size g
  rt : RT W p (some ⟨q, 0, none⟩) n cap (some ⟨q2, 0, none⟩) n cap2
  r1 : ERow W q n f
  r2 : DRow W q2 n f2
  bel : Below w.heap.size w W
  ord : w.heap.size ≤ g ∧ g < p ∧ p < q ∧ q < q2
  cap1 : n ≤ cap ∧ cap ≤ maxLen
  capd : n ≤ cap2 ∧ cap2 ≤ maxLen
section
variable {w W W' : World} {g p q q2 n c c2 cap cap2 : Nat} {A A2 : Option Addr} {l : List Le} {h : List Du} {f : Nat → Le} {f2 : Nat → Du}
theorem BtAt.one (k : BtAt w g p p A n c l A2 n c2 h W) (hb : Below W.heap.size W W') (hr : ERow W' q n f) (hq : W.heap.size ≤ q) (hc : n ≤ cap ∧ cap ≤ maxLen) : Bm w g p q n cap f A2 c2 h (W'.setCell ⟨p, 0, none⟩ (.slice (some ⟨q, 0, none⟩) n cap)) := by
  have k' := k.below hb
  have ho := k.ord
  have hp := k.rt.lt
  exact ⟨k'.src.other (p := ⟨p, 0, none⟩) (show p ≠ g by omega) (show w.heap.size ≤ p by omega) _, k'.rt.set0 _ _ _, hr.other (p := ⟨p, 0, none⟩) (show p ≠ q by omega) _, k'.dl.setCell (p := ⟨p, 0, none⟩) (Nat.le_refl p) _, k'.bel.setCell (p := ⟨p, 0, none⟩) (show w.heap.size ≤ p by omega) _, ⟨ho.1, ho.2.1, by omega⟩, hc⟩
theorem Bm.two (k : Bm w g p q n cap f A2 c2 h W) (hb : Below W.heap.size W W') (hr : DRow W' q2 n f2) (hq : W.heap.size ≤ q2) (hc : n ≤ cap2 ∧ cap2 ≤ maxLen) : Bw w g p q q2 n cap cap2 f f2 (W'.setCell ⟨p, 1, none⟩ (.slice (some ⟨q2, 0, none⟩) n cap2)) := by
  have ho := k.ord
  have hp := k.rt.lt
  have hq1 := k.r1.1
  exact ⟨(k.src.below hb).other (p := ⟨p, 1, none⟩) (show p ≠ g by omega) (show w.heap.size ≤ p by omega) _, (k.rt.below hb hp).set1 _ _ _, (k.r1.below hb hq1).other (p := ⟨p, 1, none⟩) (show p ≠ q by omega) _, hr.other (p := ⟨p, 1, none⟩) (show p ≠ q2 by omega) _, (k.bel.trans (hb.mono k.bel.size)).setCell (p := ⟨p, 1, none⟩) (show w.heap.size ≤ p by omega) _, ⟨ho.1, ho.2.1, ho.2.2, by omega⟩, k.cap1, hc⟩
theorem Bw.below (k : Bw w g p q q2 n cap cap2 f f2 W) (hb : Below W.heap.size W W') : Bw w g p q q2 n cap cap2 f f2 W' :=
  ⟨k.src.below hb, k.rt.below hb k.rt.lt, k.r1.below hb k.r1.1, k.r2.below hb k.r2.1, k.bel.trans (hb.mono k.bel.size), k.ord, k.cap1, k.capd⟩
theorem Bw.drew (k : Bw w g p q q2 n cap cap2 f f2 W) : Bw w g p q q2 n cap cap2 f f2 W.drew := k.below (Below.refl _ _).drew
theorem Bw.grownG (k : Bw w g p q q2 n cap cap2 f f2 W) (hs : SrcAt W' w.heap.size g) (hg : W.grownBy W' (some g)) : Bw w g p q q2 n cap cap2 f f2 W' :=
  have ho := k.ord
  ⟨hs, k.rt.grownG hg (by omega), k.r1.grownG hg (by omega), k.r2.grownG hg (by omega), below_only k.bel hg ho.1 (Nat.le_refl _), ho, k.cap1, k.capd⟩
theorem Bw.s2 (k : Bw w g p q q2 n cap cap2 f f2 W) : W.cell? ⟨p, 0, none⟩ = some (.slice (some ⟨q, 0, none⟩) n cap) ∧ W.cell? ⟨p, 1, none⟩ = some (.slice (some ⟨q2, 0, none⟩) n cap2) := ⟨k.rt.c0, k.rt.c1⟩
/-- One change: the deadline of a lease, its message, a deadline of the heap. -/
theorem Bw.dead (k : Bw w g p q q2 n cap cap2 f f2 W) {i : Nat} (hi : i < n) (d : Int) : Bw w g p q q2 n cap cap2 (fun j => if j = i then (f i).till d else f j) f2 (W.setCell ⟨q, i * 8 + 7, none⟩ (.int .i64 d)) := by
  have ho := k.ord
  exact ⟨k.src.other (p := ⟨q, i * 8 + 7, none⟩) (show q ≠ g by omega) (show w.heap.size ≤ q by omega) _, k.rt.far1 (p := ⟨q, i * 8 + 7, none⟩) (show q ≠ p by omega) _, k.r1.till hi d, k.r2.other (p := ⟨q, i * 8 + 7, none⟩) (show q ≠ q2 by omega) _, k.bel.setCell (p := ⟨q, i * 8 + 7, none⟩) (show w.heap.size ≤ q by omega) _, ho, k.cap1, k.capd⟩
theorem Bw.heap (k : Bw w g p q q2 n cap cap2 f f2 W) {i : Nat} (hi : i < n) (d : Int) : Bw w g p q q2 n cap cap2 f (fun j => if j = i then ⟨d, (f2 i).id⟩ else f2 j) (W.setCell ⟨q2, i * 2, none⟩ (.int .i64 d)) := by
  have ho := k.ord
  exact ⟨k.src.other (p := ⟨q2, i * 2, none⟩) (show q2 ≠ g by omega) (show w.heap.size ≤ q2 by omega) _, k.rt.far1 (p := ⟨q2, i * 2, none⟩) (show q2 ≠ p by omega) _, k.r1.other (p := ⟨q2, i * 2, none⟩) (show q2 ≠ q by omega) _, k.r2.till hi d, k.bel.setCell (p := ⟨q2, i * 2, none⟩) (show w.heap.size ≤ q2 by omega) _, ho, k.cap1, k.capd⟩
theorem Bw.msg (k : Bw w g p q q2 n cap cap2 f f2 W) {i : Nat} (hi : i < n) (M : Msg) : Bw w g p q q2 n cap cap2 (fun j => if j = i then ⟨M, (f i).dl⟩ else f j) f2 (W.setCells q (i * 8) M.l) := by
  have ho := k.ord
  have hs := sets_size q M.l (i * 8) W
  refine ⟨k.src.keep (by rw [hs]; exact Nat.le_refl _) (fun o => sets_far (p := ⟨g, o, none⟩) (show g ≠ q by omega) _ _) (fun o => by rw [World.frozen?_setCells]) (fun a ha => sets_far (fun e => by omega) _ _), ?_, k.r1.msg hi M, ⟨by rw [hs]; exact k.r2.1, fun a ha j hj => (sets_far (p := ⟨q2, a * 2 + j, none⟩) (show q2 ≠ q by omega) _ _).trans (k.r2.2.1 a ha j hj), fun o => by rw [World.frozen?_setCells]; exact k.r2.2.2 o⟩, sets_below (by omega) _ _ _ k.bel, ho, k.cap1, k.capd⟩
  exact ⟨(sets_far (p := ⟨p, 0, none⟩) (show p ≠ q by omega) _ _).trans k.rt.c0, (sets_far (p := ⟨p, 1, none⟩) (show p ≠ q by omega) _ _).trans k.rt.c1, by rw [World.frozen?_setCells]; exact k.rt.f0, by rw [World.frozen?_setCells]; exact k.rt.f1, by rw [hs]; exact k.rt.lt⟩
/-- What is there in the end. -/
theorem Bw.all (k : Bw w g p q q2 n cap cap2 f f2 W) : BtAt w g p W.heap.size (some ⟨q, 0, none⟩) n cap ((List.range n).map f) (some ⟨q2, 0, none⟩) n cap2 ((List.range n).map f2) W :=
  have ho := k.ord
  ⟨k.src, k.rt, k.r1.el n cap (Nat.le_refl _) k.cap1.1 k.cap1.2, k.r2.dl n cap2 (Nat.le_refl _) k.capd.1 k.capd.2, ⟨nw_some (by omega), nw_some (by omega)⟩, k.bel, ho.1, ho.2.1, Nat.le_refl _⟩
theorem Bw.less (k : Bw w g p q q2 n cap cap2 f f2 W) {m : Nat} (hm : m ≤ n) : BtAt w g p W.heap.size (some ⟨q, 0, none⟩) n cap ((List.range n).map f) (some ⟨q2, 0, none⟩) m cap2 ((List.range m).map f2) (W.setCell ⟨p, 1, none⟩ (.slice (some ⟨q2, 0, none⟩) m cap2)) := by
  have ho := k.ord
  have h1 := (k.r1.other (p := ⟨p, 1, none⟩) (show p ≠ q by omega) (.slice (some ⟨q2, 0, none⟩) m cap2)).el n cap (Nat.le_refl _) k.cap1.1 k.cap1.2
  have h2 := (k.r2.other (p := ⟨p, 1, none⟩) (show p ≠ q2 by omega) (.slice (some ⟨q2, 0, none⟩) m cap2)).dl m cap2 hm (Nat.le_trans hm k.capd.1) k.capd.2
  exact ⟨k.src.other (p := ⟨p, 1, none⟩) (show p ≠ g by omega) (show w.heap.size ≤ p by omega) _, k.rt.set1 _ _ _, h1.more (by simp), h2.more (by simp), ⟨nw_some (by omega), nw_some (by omega)⟩, k.bel.setCell (p := ⟨p, 1, none⟩) (show w.heap.size ≤ p by omega) _, ho.1, ho.2.1, by simp⟩
end
end Go.Proofs.YtjclhlejbidpgaaGreat
