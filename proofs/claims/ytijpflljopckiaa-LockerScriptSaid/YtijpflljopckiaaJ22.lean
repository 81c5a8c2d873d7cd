/- What is proved here: Table of the statements' base makes a valid table; (plain) a ring that a source has made; what keeps a list of messages beside a source; shardqueueref04.with by a contract; shardqueueref04.PushBack by a contract; shardqueueref03.Same of two lists that read alike is true. -/
import Derived.Test.YtijpflljopckiaaJ21
import Derived.Test.YtijpflljopckiaaJ13
import Derived.Test.YtijpflljopckiaaRows
import Derived.Test.YtijpflljopckiaaJ02
import Derived.WalkKit
import Derived.Outline
import Derived.IntWalk
import Derived.Laws.BitsAllLaws
import Derived.Laws.BitsLemmas
import Derived.Below
import Derived.Laws.ShiftsVarLaws
import Derived.RegionTactic
import Derived.Deep.RegionWith
import Derived.Test.YtijpflljopckiaaJ06
import Derived.Test.YtijpflljopckiaaJ04
import Derived.Deep.RegionHeld3
import Derived.Deep.DrawnRows
import Derived.Test.YtijpflljopckiaaJ05
import Derived.Test.YtijpflljopckiaaJ03
import Derived.Deep.QuietTactic
import Derived.BigQuiet
import Derived.Test.YtijpflljopckiaaJ07
import Derived.Deep.AppendLies
namespace Go.Proofs.Ytijpflljopckiaa
open Go.RowKit
set_option linter.unusedVariables false

theorem RT.put {W : World} {r n c n2 c2 : Nat} {A A2 : Option Addr} (h : RT W r A n c A2 n2 c2) (D : Option Addr) (m d : Nat) (D2 : Option Addr) (m2 d2 : Nat) : RT (set2 W r (.slice D m d) (.slice D2 m2 d2)) r D m d D2 m2 d2 := by
  refine ⟨?_, ?_, by rw [set2_frozen]; exact h.f0, by rw [set2_frozen]; exact h.f1, by rw [set2_size]; exact h.lt⟩
  · rw [World.cell?_setCell_other _ _ _ _ (fun e => by injection e with _ e _; cases e), World.cell?_setCell_same' _ _ _ (by rw [h.c0]; rfl)]
  · rw [World.cell?_setCell_same' _ _ _ (by rw [World.cell?_setCell_other _ _ _ _ (fun e => by injection e with _ e _; cases e), h.c1]; rfl)]
theorem RT.far {W : World} {r y n c n2 c2 : Nat} {A A2 : Option Addr} (h : RT W r A n c A2 n2 c2) (hy : r ≠ y) (v v2 : Value) : RT (set2 W y v v2) r A n c A2 n2 c2 :=
  ⟨(set2_far hy).trans h.c0, (set2_far hy).trans h.c1, by rw [set2_frozen]; exact h.f0, by rw [set2_frozen]; exact h.f1, by rw [set2_size]; exact h.lt⟩
/-- The work of Table. -/
structure TaAt (w : World) (B g r y : Nat) (A : Option Addr) (c : Nat) (l : List Le) (A2 : Option Addr) (c2 : Nat) (h : List Du) (W : World) : Prop where
  rs : RT W r none 0 0 none 0 0
  rb : RT W y A l.length c A2 h.length c2
  el : El W W.heap.size (.slice A l.length c) l
  dl : Dl W W.heap.size (.slice A2 h.length c2) h
  src : SrcAt W B g
  grow : w.grownBy W (some g)
  nw : Nw (y + 1) A ∧ Nw (y + 1) A2
  ne : g < w.heap.size ∧ w.heap.size ≤ r ∧ r < y
section
variable {w W W' : World} {B g r y c c2 : Nat} {A A2 : Option Addr} {l : List Le} {h : List Du}
theorem TaAt.below (k : TaAt w B g r y A c l A2 c2 h W) (hb : Below W.heap.size W W') : TaAt w B g r y A c l A2 c2 h W' :=
  ⟨k.rs.below hb k.rs.lt, k.rb.below hb k.rb.lt, k.el.up hb, k.dl.up hb, k.src.below hb, only_below k.grow hb, k.nw, k.ne⟩
theorem TaAt.drew (k : TaAt w B g r y A c l A2 c2 h W) : TaAt w B g r y A c l A2 c2 h W.drew := k.below ((Below.refl _ _).drew)
theorem TaAt.store {A5 A6 : Option Addr} {c5 c6 : Nat} {l5 : List Le} {h5 : List Du} (k : TaAt w B g r y A c l A2 c2 h W) (n5 : Nw W.heap.size A5) (n6 : Nw W.heap.size A6) (hb : Below W.heap.size W W') (h1 : El W' W'.heap.size (.slice A5 l5.length c5) l5) (h2 : Dl W' W'.heap.size (.slice A6 h5.length c6) h5) :
    TaAt w B g r y A5 c5 l5 A6 c6 h5 (set2 W' y (.slice A5 l5.length c5) (.slice A6 h5.length c6)) := by
  have k' := k.below hb
  have hy := k.rb.lt
  have hne := k.ne
  refine ⟨k'.rs.far (by omega) _ _, k'.rb.put _ _ _ _ _ _, (h1.set2 n5 hy).more (by simp), (h2.set2 n6 hy).more (by simp), ?_, ?_, ⟨nw_low n5 hy, nw_low n6 hy⟩, hne⟩
  · have hB : B ≤ g := k.src.1
    exact (k'.src.other (p := ⟨y, 0, none⟩) (show y ≠ g by omega) (show B ≤ y by omega) _).other (p := ⟨y, 1, none⟩) (show y ≠ g by omega) (show B ≤ y by omega) _
  · exact only_set (only_set k'.grow (p := ⟨y, 0, none⟩) (.inr (show w.heap.size ≤ y by omega)) _) (p := ⟨y, 1, none⟩) (.inr (show w.heap.size ≤ y by omega)) _
end

end Go.Proofs.Ytijpflljopckiaa
namespace Go.Proofs.Ytijpflljopckiaa
open Go.RowKit
set_option linter.unusedVariables false

/-- An address does not lie in a block. -/
def Off (b : Nat) (A : Option Addr) : Prop := ∀ a, A = some a → a.block ≠ b
theorem off_nw {b lo : Nat} {A : Option Addr} (h : Nw lo A) (hb : b < lo) : Off b A := fun a e => by have := h a e; omega
end Go.Proofs.Ytijpflljopckiaa
namespace Go.Proofs.Ytijpflljopckiaa
open Go.RowKit
set_option linter.unusedVariables false

/-- The work of 'with': the result, the new cells and the new ring. -/
structure WiAt (w : World) (r z y : Nat) (n : Nat) (hd sz : Int) (f : Nat → Msg) (W : World) : Prop where
  rs : RB W r none 0 0 0 0
  row : MRow W z n f
  rb : RB W y (some ⟨z, 0, none⟩) n n hd sz
  bel : Below w.heap.size w W
  old : w.heap.size ≤ r ∧ r < z ∧ z < y
section
variable {w W W' : World} {r z y n : Nat} {hd sz : Int} {f : Nat → Msg}
theorem WiAt.drew (h : WiAt w r z y n hd sz f W) : WiAt w r z y n hd sz f W.drew := ⟨h.rs.drew, h.row, h.rb.drew, h.bel.drew, h.old⟩
theorem WiAt.put (h : WiAt w r z y n hd sz f W) {k : Nat} (hk : k < n) (M : Msg) : WiAt w r z y n hd sz (fun i => if i = k then M else f i) (((((((W.setCell ⟨z, k * 7, none⟩ (.int .i64 M.id)).setCell ⟨z, k * 7 + 1, none⟩ (.int .i64 M.rt)).setCell ⟨z, k * 7 + 2, none⟩ (.int .i64 M.ep)).setCell ⟨z, k * 7 + 3, none⟩ (.int .i64 M.ct)).setCell ⟨z, k * 7 + 4, none⟩ (.int .i64 M.gn)).setCell ⟨z, k * 7 + 5, none⟩ (.int .i64 M.st)).setCell ⟨z, k * 7 + 6, none⟩ (.string M.bd)) :=
  ⟨h.rs.sets (by have := h.old; omega) (k * 7) M.l, h.row.put7n hk M, h.rb.sets (by have := h.old; omega) (k * 7) M.l, sets_below (by have := h.old; omega) M.l (k * 7) W h.bel, h.old⟩
theorem WiAt.at_ (h : WiAt w r z y n hd sz f W) {k : Nat} (hk : k < n) : C7 W z (k * 7) (f k) ∧ (W.frozen? ⟨z, k * 7, none⟩ = false ∧ W.frozen? ⟨z, k * 7 + 1, none⟩ = false ∧ W.frozen? ⟨z, k * 7 + 2, none⟩ = false ∧ W.frozen? ⟨z, k * 7 + 3, none⟩ = false ∧ W.frozen? ⟨z, k * 7 + 4, none⟩ = false ∧ W.frozen? ⟨z, k * 7 + 5, none⟩ = false ∧ W.frozen? ⟨z, k * 7 + 6, none⟩ = false) ∧ z < W.heap.size ∧ y < W.heap.size ∧ z ≠ y ∧ y ≠ z :=
  ⟨h.row.c7 hk, h.row.free _, h.row.1, h.rb.lt, by have := h.old; omega, by have := h.old; omega⟩
theorem WiAt.s8 (h : WiAt w r z y n hd sz f W) {b m : Nat} {X : Msg} (hc : C7 W b m X) : W.cell? ⟨y, 0, none⟩ = some (.slice (some ⟨z, 0, none⟩) n n) ∧ W.cell? ⟨b, m, none⟩ = some (.int .i64 X.id) ∧ W.cell? ⟨b, m + 1, none⟩ = some (.int .i64 X.rt) ∧ W.cell? ⟨b, m + 2, none⟩ = some (.int .i64 X.ep) ∧ W.cell? ⟨b, m + 3, none⟩ = some (.int .i64 X.ct) ∧ W.cell? ⟨b, m + 4, none⟩ = some (.int .i64 X.gn) ∧ W.cell? ⟨b, m + 5, none⟩ = some (.int .i64 X.st) ∧ W.cell? ⟨b, m + 6, none⟩ = some (.string X.bd) := ⟨h.rb.c0, hc⟩
theorem WiAt.start (w : World) (o : Obj) (n : Nat) (hd sz : Int) (t u : TypeId) : WiAt w (w.heap.size + 1) (w.heap.size + 1 + 1) (w.heap.size + 1 + 1 + 1) n hd sz (fun _ => zM) ((((w.alloc o).alloc (.cells #[.slice none 0 0, .int .i64 0, .int .i64 0] t)).alloc (.cells (madeCells (Msg.v zM).cells (n * 7)) u)).alloc (.cells #[.slice (some ⟨w.heap.size + 1 + 1, 0, none⟩) n n, .int .i64 hd, .int .i64 sz] t)) := by
  have e : (w.alloc o).heap.size = w.heap.size + 1 := by simp
  have e2 : ((w.alloc o).alloc (.cells #[.slice none 0 0, .int .i64 0, .int .i64 0] t)).heap.size = w.heap.size + 1 + 1 := by simp
  have e3 : (((w.alloc o).alloc (.cells #[.slice none 0 0, .int .i64 0, .int .i64 0] t)).alloc (.cells (madeCells (Msg.v zM).cells (n * 7)) u)).heap.size = w.heap.size + 1 + 1 + 1 := by simp
  have k := RB.fresh (w.alloc o) none 0 0 0 0 t
  have h := MRow.made ((w.alloc o).alloc (.cells #[.slice none 0 0, .int .i64 0, .int .i64 0] t)) n u
  have g := RB.fresh (((w.alloc o).alloc (.cells #[.slice none 0 0, .int .i64 0, .int .i64 0] t)).alloc (.cells (madeCells (Msg.v zM).cells (n * 7)) u)) (some ⟨w.heap.size + 1 + 1, 0, none⟩) n n hd sz t
  rw [e] at k
  rw [e2] at h
  rw [e3] at g
  exact ⟨(k.alloc _).alloc _, h.alloc _, g, ((((Below.refl _ _).alloc (Nat.le_refl _) _).alloc (by omega) _).alloc (by omega) _).alloc (by omega) _, by omega, Nat.lt_succ_self _, Nat.lt_succ_self _⟩
end

attribute [local go_sem ↓] Go.wp_at_zero Go.wp_at_succ
end Go.Proofs.Ytijpflljopckiaa
namespace Go.Proofs.Ytijpflljopckiaa
open Go.RowKit
set_option linter.unusedVariables false

section
variable {w W W' : World} {p q r n c : Nat} {A : Option Addr} {hd sz : Int} {M : Msg}
theorem RB.grown (h : RB W p A n c hd sz) {row : Option Nat} (hg : W.grownBy W' row) (hr : row ≠ some p) : RB W' p A n c hd sz := by
  have e : ∀ o, W'.cell? ⟨p, o, none⟩ = W.cell? ⟨p, o, none⟩ := fun o => hg.cell_far ⟨p, o, none⟩ h.lt (fun e => hr e.symm)
  exact ⟨Nat.lt_of_lt_of_le h.lt hg.size, (e 0).trans h.c0, (e 1).trans h.c1, (e 2).trans h.c2, fun o => (hg.frozen_far ⟨p, o, none⟩ h.lt (fun e => hr e.symm)).trans (h.fr o)⟩
theorem MAt.grown' {f : Nat → Int} {b : ByteArray} (h : MAt W q f b) {row : Option Nat} (hg : W.grownBy W' row) (hr : row ≠ some q) : MAt W' q f b :=
  ⟨Nat.lt_of_lt_of_le h.1 hg.size, fun j hj => (hg.cell_far ⟨q, j, none⟩ h.1 (fun e => hr e.symm)).trans (h.2.1 j hj), (hg.cell_far ⟨q, 6, none⟩ h.1 (fun e => hr e.symm)).trans h.2.2.1, fun o ho => (hg.frozen_far ⟨q, o, none⟩ h.1 (fun e => hr e.symm)).trans (h.2.2.2 o ho)⟩
theorem PbAt.grown (h : PbAt w p q r A n c hd sz M W) {row : Option Nat} (hg : W.grownBy W' row) (hr : ∀ k, row = some k → r < k) : PbAt w p q r A n c hd sz M W' :=
  ⟨h.rb.grown hg (fun e => by have := hr p e; have := h.old; omega), h.ms.grown' hg (fun e => by have := hr q e; have := h.old; omega), h.rs.grown hg (fun e => by have := hr r e; omega), h.bel.grown hg h.bel.size (fun k hk => by have := hr k hk; have := h.old; omega), h.old⟩
theorem PbAt.alloc (h : PbAt w p q r A n c hd sz M W) (o : Obj) : PbAt w p q r A n c hd sz M (W.alloc o) := h.below ((Below.refl _ _).alloc (Nat.le_refl _) o)
end
theorem RB.set3' {W : World} {p r n c : Nat} {A : Option Addr} {hd sz : Int} (h : RB W p A n c hd sz) (hr : r ≠ p) (x y z : Value) : RB (((W.setCell ⟨r, 0, none⟩ x).setCell ⟨r, 1, none⟩ y).setCell ⟨r, 2, none⟩ z) p A n c hd sz :=
  ((h.other (a := ⟨r, 0, none⟩) hr x).other (a := ⟨r, 1, none⟩) hr y).other (a := ⟨r, 2, none⟩) hr z
theorem MAt.set3' {W : World} {q r : Nat} {f : Nat → Int} {t : ByteArray} (h : MAt W q f t) (hr : r ≠ q) (x y z : Value) : MAt (((W.setCell ⟨r, 0, none⟩ x).setCell ⟨r, 1, none⟩ y).setCell ⟨r, 2, none⟩ z) q f t :=
  ((h.other (p := ⟨r, 0, none⟩) hr x).other (p := ⟨r, 1, none⟩) hr y).other (p := ⟨r, 2, none⟩) hr z
attribute [local go_sem ↓] Go.wp_at_zero Go.wp_at_succ
end Go.Proofs.Ytijpflljopckiaa
namespace Go.Proofs.Ytijpflljopckiaa
open Go.RowKit
set_option linter.unusedVariables false

set_option maxHeartbeats 1000000 in
theorem rsame_yes (A A' : Option Addr) (n n' c c' : Nat) (l : List Msg) (w : World) (B B' : Nat) (hv : Ls w B (.slice A n c) l) (hv' : Ls w B' (.slice A' n' c') l) :
    Calls Try.prog 85 #[.slice A n c, .slice A' n' c'] w fun e w' => e = .returned (.bool true) ∧ Below w.heap.size w w' := by
  obtain ⟨rfl, hm1, hm2⟩ := hv.len
  obtain ⟨rfl, hm1', hm2'⟩ := hv'.len
  have hL : l.length ≤ 9223372036854775807 := by unfold maxLen at hm2; omega
  have HV := Lib.hid hv
  have HV' := Lib.hid hv'
  have HB := Lib.hid (Below.refl w.heap.size w)
  clear hv hm1 hm2 hv' hm1' hm2'
  go_enter Try.func85, Try.ntmps85
  go_wp2
  go_loopw [5] (fun i wr => ∃ k : Nat, k ≤ l.length ∧ i = .int .i64 k ∧ Ls wr B (.slice A l.length c) l ∧ Ls wr B' (.slice A' l.length c') l ∧ Below w.heap.size w wr) (fun i _ => l.length - (intOf i).toNat)
  case atStart => exact ⟨0, by omega, rfl, HV.out, HV'.out, HB.out⟩
  case round =>
    obtain ⟨k, hk, rfl, hv, hv', hb⟩ := hrel
    have HV := Lib.hid hv
    have HV' := Lib.hid hv'
    have HB := Lib.hid hb
    clear hv hv' hb
    by_cases hlt : k < l.length
    · obtain ⟨b, o, rfl, hb, hc⟩ := HV.out.at_ hlt
      obtain ⟨b', o', rfl, hb', hc'⟩ := HV'.out.at_ hlt
      generalize l[k] = M at *
      have hne := neqm M
      obtain ⟨c0, c1, c2, c3, c4, c5, c6⟩ := hc
      obtain ⟨d0, d1, d2, d3, d4, d5, d6⟩ := hc'
      go_wp2
      go_quiet (fail)
      go_wp2
      go_roundw
      case rel => exact ⟨k + 1, by omega, by go_num, HV.out.drewN _, HV'.out.drewN _, below_drewN HB.out _⟩
      case measure => simp [intOf]; omega
    · go_wp2
      go_ret
      exact ⟨rfl, HB.out⟩
end Go.Proofs.Ytijpflljopckiaa
