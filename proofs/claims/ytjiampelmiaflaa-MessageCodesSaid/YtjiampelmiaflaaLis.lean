/- What is proved here: (plain) messages that lie in blocks and in lists, beside a source. -/
import Derived.Test.YtjiampelmiaflaaAwm
import Derived.Test.YtjiampelmiaflaaMed
import Derived.Test.YtjiampelmiaflaaMdd
import Derived.Test.YtjiampelmiaflaaSrd
namespace Go.Proofs.Ytjiampelmiaflaa
open Go.RowKit
set_option linter.unusedVariables false

/-- A message in a block, and a source. -/
abbrev S4 (B : Nat) (w : World) (p : Nat) (M : Msg) (g : Nat) (W : World) : Prop := W.cell? ⟨p, 0, none⟩ = some (.int .i64 M.id) ∧ W.cell? ⟨p, 1, none⟩ = some (.int .i64 M.rt) ∧ W.cell? ⟨p, 2, none⟩ = some (.int .i64 M.ep) ∧ W.cell? ⟨p, 3, none⟩ = some (.int .i64 M.ct) ∧ W.cell? ⟨p, 4, none⟩ = some (.int .i64 M.gn) ∧ W.cell? ⟨p, 5, none⟩ = some (.int .i64 M.st) ∧ W.cell? ⟨p, 6, none⟩ = some (.string M.bd) ∧ Hid (MAt W p M.nth M.bd ∧ SrcAt W B g ∧ (p ≠ g ∧ w.heap.size ≤ g) ∧ Below w.heap.size w W)
section
variable {w W W' : World} {B g p q : Nat} {M X : Msg}
theorem s4_mk (h : MAt W p M.nth M.bd) (h' : SrcAt W B g) (hne : p ≠ g ∧ w.heap.size ≤ g) (hb : Below w.heap.size w W) : S4 B w p M g W := by
  obtain ⟨⟨a0, a1, a2, a3, a4, a5, a6⟩, _⟩ := h.facts
  exact ⟨a0, a1, a2, a3, a4, a5, a6, Lib.hid ⟨h, h', hne, hb⟩⟩
theorem s4_hid (h : S4 B w p M g W) : MAt W p M.nth M.bd ∧ SrcAt W B g ∧ (p ≠ g ∧ w.heap.size ≤ g) ∧ Below w.heap.size w W := h.2.2.2.2.2.2.2.out
theorem s4_src (h : S4 B w p M g W) : SrcAt W B g := (s4_hid h).2.1
theorem s4_bel (h : S4 B w p M g W) : Below w.heap.size w W := (s4_hid h).2.2.2
theorem s4_grown (h : S4 B w p M g W) (hs : SrcAt W' B g) (hg : W.grownBy W' (some g)) : S4 B w p M g W' := by
  obtain ⟨h1, h2, h3, h4⟩ := s4_hid h
  exact s4_mk (h1.grown hg h3.1) hs h3 (below_only h4 hg h3.2 (Nat.le_refl _))
theorem s4_below (h : S4 B w p M g W) (hb : Below W.heap.size W W') : S4 B w p M g W' := by
  obtain ⟨h1, h2, h3, h4⟩ := s4_hid h
  exact s4_mk (h1.below hb h1.1) (h2.below hb) h3 (h4.trans (hb.mono h4.size))
theorem s4_drew (h : S4 B w p M g W) : S4 B w p M g W.drew := s4_below h ((Below.refl _ _).drew)
theorem s4_alloc (h : S4 B w p M g W) (o : Obj) : S4 B w p M g (W.alloc o) := s4_below h ((Below.refl _ _).alloc (Nat.le_refl _) o)
end

/-- Block b holds n messages. -/
def LAt (W : World) (b n : Nat) (Ms : Nat → Msg) : Prop := b < W.heap.size ∧ ∀ k, k < n → (∀ j, j < 6 → W.cell? ⟨b, k * 7 + j, none⟩ = some (.int .i64 ((Ms k).nth j))) ∧ W.cell? ⟨b, k * 7 + 6, none⟩ = some (.string (Ms k).bd)
theorem LAt.below {W W' : World} {b n B : Nat} {Ms : Nat → Msg} (h : LAt W b n Ms) (hb : Below B W W') (hg : b < B) : LAt W' b n Ms :=
  ⟨Nat.lt_of_lt_of_le h.1 hb.size, fun k hk => ⟨fun j hj => (hb.cell (p := ⟨b, k * 7 + j, none⟩) hg).trans ((h.2 k hk).1 j hj), (hb.cell (p := ⟨b, k * 7 + 6, none⟩) hg).trans (h.2 k hk).2⟩⟩
theorem LAt.facts {W : World} {b n : Nat} {Ms : Nat → Msg} (h : LAt W b n Ms) (k : Nat) (hk : k < n) (X : Msg) (hX : X = Ms k) : W.cell? ⟨b, k * 7, none⟩ = some (.int .i64 X.id) ∧ W.cell? ⟨b, k * 7 + 1, none⟩ = some (.int .i64 X.rt) ∧ W.cell? ⟨b, k * 7 + 2, none⟩ = some (.int .i64 X.ep) ∧ W.cell? ⟨b, k * 7 + 3, none⟩ = some (.int .i64 X.ct) ∧ W.cell? ⟨b, k * 7 + 4, none⟩ = some (.int .i64 X.gn) ∧ W.cell? ⟨b, k * 7 + 5, none⟩ = some (.int .i64 X.st) ∧ W.cell? ⟨b, k * 7 + 6, none⟩ = some (.string X.bd) := by
  subst hX
  obtain ⟨h1, h2⟩ := h.2 k hk
  exact ⟨h1 0 (by omega), h1 1 (by omega), h1 2 (by omega), h1 3 (by omega), h1 4 (by omega), h1 5 (by omega), h2⟩
def list2 (M0 M1 : Msg) : Nat → Msg
  | 0 => M0
  | _ => M1
theorem LAt.fresh2 (w : World) (M0 M1 : Msg) (t : TypeId) : LAt (w.alloc (.cells (M0.cs ++ M1.cs) t)) w.heap.size 2 (list2 M0 M1) := by
  refine ⟨by simp, fun k hk => ⟨fun j hj => ?_, ?_⟩⟩
  · match k, hk with
    | 0, _ => match j, hj with
      | 0, _ => simp [go_sem, list2, Msg.nth]
      | 1, _ => simp [go_sem, list2, Msg.nth]
      | 2, _ => simp [go_sem, list2, Msg.nth]
      | 3, _ => simp [go_sem, list2, Msg.nth]
      | 4, _ => simp [go_sem, list2, Msg.nth]
      | 5, _ => simp [go_sem, list2, Msg.nth]
    | 1, _ => match j, hj with
      | 0, _ => simp [go_sem, list2, Msg.nth]
      | 1, _ => simp [go_sem, list2, Msg.nth]
      | 2, _ => simp [go_sem, list2, Msg.nth]
      | 3, _ => simp [go_sem, list2, Msg.nth]
      | 4, _ => simp [go_sem, list2, Msg.nth]
      | 5, _ => simp [go_sem, list2, Msg.nth]
  · match k, hk with
    | 0, _ => simp [go_sem, list2]
    | 1, _ => simp [go_sem, list2]
theorem LAt.grown {W W' : World} {b n g : Nat} {Ms : Nat → Msg} (h : LAt W b n Ms) (hg : W.grownBy W' (some g)) (hne : b ≠ g) : LAt W' b n Ms :=
  ⟨Nat.lt_of_lt_of_le h.1 hg.size, fun k hk => ⟨fun j hj => (hg.cell_far ⟨b, k * 7 + j, none⟩ h.1 (fun e => hne (by injection e))).trans ((h.2 k hk).1 j hj), (hg.cell_far ⟨b, k * 7 + 6, none⟩ h.1 (fun e => hne (by injection e))).trans (h.2 k hk).2⟩⟩
/-- Block q holds n bytes, and may be written. -/
def RowAt (W : World) (q n : Nat) (f : Nat → UInt8) : Prop := q < W.heap.size ∧ (∀ j, j < n → W.cell? ⟨q, j, none⟩ = some (oct (f j))) ∧ ∀ j, W.frozen? ⟨q, j, none⟩ = false
section
variable {W W' : World} {q n : Nat} {f : Nat → UInt8}
theorem RowAt.below {B : Nat} (h : RowAt W q n f) (hb : Below B W W') (hg : q < B) : RowAt W' q n f :=
  ⟨Nat.lt_of_lt_of_le h.1 hb.size, fun j hj => (hb.cell (p := ⟨q, j, none⟩) hg).trans (h.2.1 j hj), fun j => (hb.frozen (p := ⟨q, j, none⟩) hg).trans (h.2.2 j)⟩
theorem RowAt.alloc (h : RowAt W q n f) (o : Obj) : RowAt (W.alloc o) q n f := h.below (W' := W.alloc o) ((Below.refl W.heap.size W).alloc (Nat.le_refl _) o) h.1
theorem RowAt.drew (h : RowAt W q n f) : RowAt W.drew q n f := h
theorem RowAt.grown (h : RowAt W q n f) {row : Option Nat} (hg : W.grownBy W' row) (hne : some q ≠ row) : RowAt W' q n f :=
  ⟨Nat.lt_of_lt_of_le h.1 hg.size, fun j hj => (hg.cell_far ⟨q, j, none⟩ h.1 hne).trans (h.2.1 j hj), fun j => (hg.frozen_far ⟨q, j, none⟩ h.1 hne).trans (h.2.2 j)⟩
theorem RowAt.put (h : RowAt W q n f) (k : Nat) (hk : k < n) (y : UInt8) : RowAt (W.setCell ⟨q, k, none⟩ (oct y)) q n (fun j => if j = k then y else f j) := by
  refine ⟨by simpa using h.1, fun j hj => ?_, fun o => by rw [World.frozen?_setCell]; exact h.2.2 o⟩
  by_cases e : j = k
  · subst e
    have := h.2.1 j hj
    simp [go_sem, this]
  · show _ = some (oct (if j = k then y else f j))
    rw [if_neg e]
    exact (World.cell?_setCell_other W _ _ _ (fun he => by injection he; omega)).trans (h.2.1 j hj)
theorem RowAt.bs (h : RowAt W q n f) (x cap : Nat) (hx : x ≤ n) (hc : x ≤ cap) (hm : cap ≤ maxLen) : Bs W W.heap.size (.slice (some ⟨q, 0, none⟩) x cap) ((List.range x).map f) := by
  refine ⟨_, cap, by simp, by simpa using hc, hm, by simp, fun _ => ⟨q, 0, rfl, h.1, fun j u hu => ?_⟩⟩
  rw [Nat.zero_add]
  simp only [List.getElem?_map, Option.map_eq_some_iff] at hu
  obtain ⟨y, ⟨z, hz, rfl⟩, rfl⟩ := hu
  obtain ⟨hj, rfl⟩ := List.getElem?_eq_some_iff.1 hz
  simp at hj
  rw [h.2.1 j (by omega)]
  simp
theorem RowAt.of_own {base : Nat} {e : TypeId} {cap : Nat} {xs : List UInt8} (h : W.ownsRow base e 1 (.slice (some ⟨q, 0, none⟩) n cap) n (xs.map oct)) : RowAt W q n (fun j => xs.getD j 0) := by
  refine ⟨?_, fun j hj => ?_, fun j => World.ownsRow.frozenAt h j⟩
  · rcases h.2 with ⟨hv, _⟩ | ⟨g', cap', cur, hv, _, hh, _⟩
    · cases hv
    · cases hv; exact (Array.getElem?_eq_some_iff.1 hh).1
  · have hl : j < xs.length := by have := h.1; simp at this; omega
    have := h.cells (g := q) rfl j (oct xs[j]) (by simp [hl])
    rw [add_mk, Nat.zero_add] at this
    rw [this]
    simp [List.getD, hl]
end
theorem RowAt.news {W : World} {q n : Nat} {f : Nat → UInt8} (h : RowAt W q n f) : ∀ j u, (((List.range n).map f).map oct)[j]? = some u → W.cell? ((⟨q, 0, none⟩ : Addr).add j) = some u := by
  intro j u hu
  rw [add_mk, Nat.zero_add]
  simp only [List.getElem?_map, Option.map_eq_some_iff] at hu
  obtain ⟨y, ⟨z, hz, rfl⟩, rfl⟩ := hu
  obtain ⟨hj, rfl⟩ := List.getElem?_eq_some_iff.1 hz
  simp at hj
  rw [h.2.1 j hj]
  simp
/-- An append onto nil: what was there stays. -/
theorem app1 {a W W' : World} {q n g1 : Nat} {f : Nat → UInt8} (hr : RowAt W q n f) (hb : Below a.heap.size a W) (hg : W.grownBy W' (Value.ownBlock (.slice none 0 0))) (ha : Value.ownBlock (.slice none 0 0) = some g1 ∨ g1 = W.heap.size) :
    RowAt W' q n f ∧ q ≠ g1 ∧ Below a.heap.size a W' ∧ a.heap.size ≤ g1 := by
  have e : g1 = W.heap.size := ha.resolve_left (by simp [Value.ownBlock])
  refine ⟨hr.grown hg (by simp [Value.ownBlock]), by have := hr.1; omega, hb.grown hg hb.size (fun k hk => by simp [Value.ownBlock] at hk), by have := hb.size; omega⟩
theorem app2 {a W W' : World} {q n g1 m cap : Nat} {f : Nat → UInt8} (hr : RowAt W q n f) (hb : Below a.heap.size a W) (hg : W.grownBy W' (Value.ownBlock (.slice (some ⟨g1, 0, none⟩) m cap))) (hne : q ≠ g1) (hle : a.heap.size ≤ g1) :
    RowAt W' q n f ∧ Below a.heap.size a W' :=
  ⟨hr.grown hg (fun e => hne (by simpa [Value.ownBlock] using e)), hb.grown hg hb.size (fun k hk => by simp [Value.ownBlock] at hk; omega)⟩
/-- Nothing is said of a world. -/
def Tru (_ : World) : Prop := True
/-- Block L holds four slices of bytes. -/
def Quad (W : World) (L : Nat) : Prop := L < W.heap.size ∧ ∀ j, j < 4 → ∃ A c zs, W.cell? ⟨L, j, none⟩ = some (.slice A zs.length c) ∧ Bs W W.heap.size (.slice A zs.length c) zs ∧ zs.length ≤ 200
theorem Quad.below {W W' : World} {L : Nat} (h : Quad W L) (hb : Below W.heap.size W W') : Quad W' L :=
  ⟨Nat.lt_of_lt_of_le h.1 hb.size, fun j hj => by
    obtain ⟨A, c, zs, h1, h2, h3⟩ := h.2 j hj
    exact ⟨A, c, zs, (hb.cell (p := ⟨L, j, none⟩) h.1).trans h1, (h2.below hb).more hb.size, h3⟩⟩
theorem Quad.fresh (w : World) (t : TypeId) (v0 v1 v2 v3 : Value) (z0 z1 z2 z3 : List UInt8) (h0 : Bs w w.heap.size v0 z0) (h1 : Bs w w.heap.size v1 z1) (h2 : Bs w w.heap.size v2 z2) (h3 : Bs w w.heap.size v3 z3)
    (l0 : z0.length ≤ 200) (l1 : z1.length ≤ 200) (l2 : z2.length ≤ 200) (l3 : z3.length ≤ 200) : Quad (w.alloc (.cells #[v0, v1, v2, v3] t)) w.heap.size := by
  refine ⟨by simp, fun j hj => ?_⟩
  have key : ∀ (v : Value) (z : List UInt8), Bs w w.heap.size v z → z.length ≤ 200 → (w.alloc (.cells #[v0, v1, v2, v3] t)).cell? ⟨w.heap.size, j, none⟩ = some v → ∃ A c zs, (w.alloc (.cells #[v0, v1, v2, v3] t)).cell? ⟨w.heap.size, j, none⟩ = some (.slice A zs.length c) ∧ Bs (w.alloc (.cells #[v0, v1, v2, v3] t)) (w.alloc (.cells #[v0, v1, v2, v3] t)).heap.size (.slice A zs.length c) zs ∧ zs.length ≤ 200 := by
    intro v z hv hl hc
    have hv' := (hv.alloc (Nat.le_refl _) (.cells #[v0, v1, v2, v3] t)).more (show w.heap.size ≤ (w.alloc (.cells #[v0, v1, v2, v3] t)).heap.size by simp)
    obtain ⟨A, c, rfl, _, _, _⟩ := (show _ from hv)
    exact ⟨A, c, z, hc, hv', hl⟩
  match j, hj with
  | 0, _ => exact key v0 z0 h0 l0 (by simp [go_sem])
  | 1, _ => exact key v1 z1 h1 l1 (by simp [go_sem])
  | 2, _ => exact key v2 z2 h2 l2 (by simp [go_sem])
  | 3, _ => exact key v3 z3 h3 l3 (by simp [go_sem])
theorem xor_u8_oct (a b : Int) : ∃ y : UInt8, Value.int .u8 (bits .xor .u8 a b) = oct y := by
  have h : 0 ≤ bits .xor .u8 a b ∧ bits .xor .u8 a b ≤ 255 := by
    show 0 ≤ IntKind.u8.wrap ((BitVec.ofInt 8 a ^^^ BitVec.ofInt 8 b).toNat : Int) ∧ IntKind.u8.wrap ((BitVec.ofInt 8 a ^^^ BitVec.ofInt 8 b).toNat : Int) ≤ 255
    generalize ((BitVec.ofInt 8 a ^^^ BitVec.ofInt 8 b).toNat : Int) = z
    unfold IntKind.wrap
    simp [IntKind.bits, IntKind.signed]
    omega
  refine ⟨UInt8.ofNat (bits .xor .u8 a b).toNat, ?_⟩
  unfold oct
  simp
  omega
end Go.Proofs.Ytjiampelmiaflaa
