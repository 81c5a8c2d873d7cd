/- What is proved here: shardqueueref05.swap, up by contracts; shardqueueref06.Grant by a contract; (plain functions) a number as bytes of a fixed size; Table of the statements' base makes a valid table; (plain) a ring that a source has made; what keeps a list of messages beside a source. -/
import Derived.Test.YtijpflljopckiaaJ10
import Derived.Deep.QuietTactic
import Derived.BigQuiet
import Derived.Test.YtijpflljopckiaaJ11
import Derived.Test.YtijpflljopckiaaJ02
import Derived.Deep.AppendLies
import Derived.Test.YtijpflljopckiaaJ09
import Derived.Test.YtijpflljopckiaaJ21
import Derived.Deep.CutRange
import Derived.Deep.DeepCutAuto
import Derived.IntWalk
import Derived.Deep.OwnRows
import Derived.Laws.MakeOwn
import Derived.Test.YtijpflljopckiaaJ13
import Derived.Test.YtijpflljopckiaaRows
import Derived.WalkKit
import Derived.Outline
import Derived.Laws.BitsAllLaws
import Derived.Laws.BitsLemmas
import Derived.Below
import Derived.Laws.ShiftsVarLaws
import Derived.RegionTactic
import Derived.Deep.RegionWith
import Derived.Test.YtijpflljopckiaaJ06
namespace Go.Proofs.Ytijpflljopckiaa
open Go.RowKit
set_option linter.unusedVariables false

theorem DlV.of_own {w W : World} {base : Nat} {l : List Du} {v : Value} (ho : W.ownsRow base 157 2 v l.length (dcs l)) (hb : w.heap.size ≤ base) (hB : Below w.heap.size w W) : DlV w l (.returned v) W := by
  obtain ⟨A', c', rfl⟩ := own_form ho
  exact ⟨A', c', rfl, nwv_of (nwv_own ho hb), Dl.of_own ho, hB⟩
/-- A list of elements, from a block on. -/
structure LsAt (w : World) (lo : Nat) (v : Value) (l : List Du) (W : World) : Prop where
  dl : Dl W W.heap.size v l
  nw : NwV lo v
  bel : Below w.heap.size w W
theorem LsAt.below {w W W' : World} {lo : Nat} {v : Value} {l : List Du} (h : LsAt w lo v l W) (hb : Below W.heap.size W W') : LsAt w lo v l W' := ⟨h.dl.up hb, h.nw, h.bel.trans (hb.mono h.bel.size)⟩
theorem LsAt.drewN {w W : World} {lo : Nat} {v : Value} {l : List Du} (h : LsAt w lo v l W) (k : Nat) : LsAt w lo v l (W.drewN k) := ⟨h.dl, h.nw, ⟨h.bel.os, h.bel.tape, h.bel.output, h.bel.size, h.bel.block⟩⟩
end Go.Proofs.Ytijpflljopckiaa
namespace Go.Proofs.Ytijpflljopckiaa
open Go.RowKit
set_option linter.unusedVariables false

/-- The work of the reference's Grant: the table, the message, the result table. -/
structure GrV (w : World) (p q r : Nat) (A : Option Addr) (c : Nat) (l : List Le) (A2 : Option Addr) (c2 : Nat) (h : List Du) (X : Le) (W : World) : Prop where
  va : VaA w p A c l A2 c2 h W
  mq : W.cell? ⟨q, 0, none⟩ = some (.int .i64 X.m.id) ∧ W.cell? ⟨q, 1, none⟩ = some (.int .i64 X.m.rt) ∧ W.cell? ⟨q, 2, none⟩ = some (.int .i64 X.m.ep) ∧ W.cell? ⟨q, 3, none⟩ = some (.int .i64 X.m.ct) ∧ W.cell? ⟨q, 4, none⟩ = some (.int .i64 X.m.gn) ∧ W.cell? ⟨q, 5, none⟩ = some (.int .i64 X.m.st) ∧ W.cell? ⟨q, 6, none⟩ = some (.string X.m.bd) ∧ q < W.heap.size
  rt : RT W r none 0 0 none 0 0
  ne : w.heap.size ≤ p ∧ p < q ∧ q < r
section
variable {w W W' : World} {p q r c c2 : Nat} {A A2 : Option Addr} {l : List Le} {h : List Du} {X : Le}
theorem GrV.below (k : GrV w p q r A c l A2 c2 h X W) (hb : Below W.heap.size W W') : GrV w p q r A c l A2 c2 h X W' := by
  obtain ⟨m0, m1, m2, m3, m4, m5, m6, ml⟩ := k.mq
  exact ⟨k.va.below hb, ⟨(hb.cell (p := ⟨q, 0, none⟩) ml).trans m0, (hb.cell (p := ⟨q, 1, none⟩) ml).trans m1, (hb.cell (p := ⟨q, 2, none⟩) ml).trans m2, (hb.cell (p := ⟨q, 3, none⟩) ml).trans m3, (hb.cell (p := ⟨q, 4, none⟩) ml).trans m4, (hb.cell (p := ⟨q, 5, none⟩) ml).trans m5, (hb.cell (p := ⟨q, 6, none⟩) ml).trans m6, Nat.lt_of_lt_of_le ml hb.size⟩, k.rt.below hb k.rt.lt, k.ne⟩
theorem GrV.start (hv : El w w.heap.size (.slice A l.length c) l) (hd : Dl w w.heap.size (.slice A2 h.length c2) h) (X : Le) : GrV w w.heap.size (w.heap.size + 1) (w.heap.size + 1 + 1) A c l A2 c2 h X (((w.alloc (.cells #[.slice A l.length c, .slice A2 h.length c2] 83)).alloc (.cells #[.int .i64 X.m.id, .int .i64 X.m.rt, .int .i64 X.m.ep, .int .i64 X.m.ct, .int .i64 X.m.gn, .int .i64 X.m.st, .string X.m.bd] 151)).alloc (.cells #[.slice none 0 0, .slice none 0 0] 83)) := by
  have e2 : ((w.alloc (.cells #[.slice A l.length c, .slice A2 h.length c2] 83)).alloc (.cells #[.int .i64 X.m.id, .int .i64 X.m.rt, .int .i64 X.m.ep, .int .i64 X.m.ct, .int .i64 X.m.gn, .int .i64 X.m.st, .string X.m.bd] 151)).heap.size = w.heap.size + 1 + 1 := by simp
  have k1 := RT.start ((w.alloc (.cells #[.slice A l.length c, .slice A2 h.length c2] 83)).alloc (.cells #[.int .i64 X.m.id, .int .i64 X.m.rt, .int .i64 X.m.ep, .int .i64 X.m.ct, .int .i64 X.m.gn, .int .i64 X.m.st, .string X.m.bd] 151)) none 0 0 none 0 0 83
  rw [e2] at k1
  exact ⟨((VaA.start 83 hv hd).alloc _).alloc _, ⟨by simp [go_sem], by simp [go_sem], by simp [go_sem], by simp [go_sem], by simp [go_sem], by simp [go_sem], by simp [go_sem], by simp⟩, k1, Nat.le_refl _, Nat.lt_succ_self _, Nat.lt_succ_self _⟩
end
end Go.Proofs.Ytijpflljopckiaa
namespace Go.Proofs.Ytijpflljopckiaa
open Go.RowKit
set_option linter.unusedVariables false

/-- The number n as s bytes, the highest one first. -/
def be (s n : Nat) : List UInt8 := (List.range s).map fun j => UInt8.ofNat (n / 2 ^ (8 * (s - 1 - j)))

end Go.Proofs.Ytijpflljopckiaa
namespace Go.Proofs.Ytijpflljopckiaa
open Go.RowKit
set_option linter.unusedVariables false

theorem RT.put {W : World} {r n c n2 c2 : Nat} {A A2 : Option Addr} (h : RT W r A n c A2 n2 c2) (D : Option Addr) (m d : Nat) (D2 : Option Addr) (m2 d2 : Nat) : RT (set2 W r (.slice D m d) (.slice D2 m2 d2)) r D m d D2 m2 d2 := by
  refine ⟨?_, ?_, by rw [set2_frozen]; exact h.f0, by rw [set2_frozen]; exact h.f1, by rw [set2_size]; exact h.lt⟩
  · rw [World.cell?_setCell_other _ _ _ _ (fun e => by injection e with _ e _; cases e), World.cell?_setCell_same' _ _ _ (by rw [h.c0]; rfl)]
  · rw [World.cell?_setCell_same' _ _ _ (by rw [World.cell?_setCell_other _ _ _ _ (fun e => by injection e with _ e _; cases e), h.c1]; rfl)]
theorem RT.far {W : World} {r y n c n2 c2 : Nat} {A A2 : Option Addr} (h : RT W r A n c A2 n2 c2) (hy : r ≠ y) (v v2 : Value) : RT (set2 W y v v2) r A n c A2 n2 c2 :=
  ⟨(set2_far hy).trans h.c0, (set2_far hy).trans h.c1, by rw [set2_frozen]; exact h.f0, by rw [set2_frozen]; exact h.f1, by rw [set2_size]; exact h.lt⟩
/-- The work of Table. -/
structure TaAt (w : World) (B g r y : Nat) (A : Option Addr) (c : Nat) (l : List Le) (A2 : Option Addr) (c2 : Nat) (h : List Du) (W : World) : Prop where
  rs : RT W r none 0 0 none 0 0
  rb : RT W y A l.length c A2 h.length c2
  el : El W W.heap.size (.slice A l.length c) l
  dl : Dl W W.heap.size (.slice A2 h.length c2) h
  src : SrcAt W B g
  grow : w.grownBy W (some g)
  nw : Nw (y + 1) A ∧ Nw (y + 1) A2
  ne : g < w.heap.size ∧ w.heap.size ≤ r ∧ r < y
section
variable {w W W' : World} {B g r y c c2 : Nat} {A A2 : Option Addr} {l : List Le} {h : List Du}
theorem TaAt.below (k : TaAt w B g r y A c l A2 c2 h W) (hb : Below W.heap.size W W') : TaAt w B g r y A c l A2 c2 h W' :=
  ⟨k.rs.below hb k.rs.lt, k.rb.below hb k.rb.lt, k.el.up hb, k.dl.up hb, k.src.below hb, only_below k.grow hb, k.nw, k.ne⟩
theorem TaAt.drew (k : TaAt w B g r y A c l A2 c2 h W) : TaAt w B g r y A c l A2 c2 h W.drew := k.below ((Below.refl _ _).drew)
theorem TaAt.store {A5 A6 : Option Addr} {c5 c6 : Nat} {l5 : List Le} {h5 : List Du} (k : TaAt w B g r y A c l A2 c2 h W) (n5 : Nw W.heap.size A5) (n6 : Nw W.heap.size A6) (hb : Below W.heap.size W W') (h1 : El W' W'.heap.size (.slice A5 l5.length c5) l5) (h2 : Dl W' W'.heap.size (.slice A6 h5.length c6) h5) :
    TaAt w B g r y A5 c5 l5 A6 c6 h5 (set2 W' y (.slice A5 l5.length c5) (.slice A6 h5.length c6)) := by
  have k' := k.below hb
  have hy := k.rb.lt
  have hne := k.ne
  refine ⟨k'.rs.far (by omega) _ _, k'.rb.put _ _ _ _ _ _, (h1.set2 n5 hy).more (by simp), (h2.set2 n6 hy).more (by simp), ?_, ?_, ⟨nw_low n5 hy, nw_low n6 hy⟩, hne⟩
  · have hB : B ≤ g := k.src.1
    exact (k'.src.other (p := ⟨y, 0, none⟩) (show y ≠ g by omega) (show B ≤ y by omega) _).other (p := ⟨y, 1, none⟩) (show y ≠ g by omega) (show B ≤ y by omega) _
  · exact only_set (only_set k'.grow (p := ⟨y, 0, none⟩) (.inr (show w.heap.size ≤ y by omega)) _) (p := ⟨y, 1, none⟩) (.inr (show w.heap.size ≤ y by omega)) _
end

end Go.Proofs.Ytijpflljopckiaa
namespace Go.Proofs.Ytijpflljopckiaa
open Go.RowKit
set_option linter.unusedVariables false

/-- An address does not lie in a block. -/
def Off (b : Nat) (A : Option Addr) : Prop := ∀ a, A = some a → a.block ≠ b
theorem off_nw {b lo : Nat} {A : Option Addr} (h : Nw lo A) (hb : b < lo) : Off b A := fun a e => by have := h a e; omega
end Go.Proofs.Ytijpflljopckiaa
