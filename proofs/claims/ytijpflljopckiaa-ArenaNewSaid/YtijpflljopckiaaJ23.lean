/- What is proved here: shardqueueref04.with by a contract; shardqueueref04.PushBack by a contract; shardqueueref03.Same of two lists that read alike is true; shardqueueref04.New and shardqueueref04.Same by contracts; RingOf of the statements' base makes a valid ring. -/
import Derived.Test.YtijpflljopckiaaJ06
import Derived.Test.YtijpflljopckiaaJ04
import Derived.Deep.RegionHeld3
import Derived.Deep.DrawnRows
import Derived.Test.YtijpflljopckiaaJ05
import Derived.Test.YtijpflljopckiaaJ03
import Derived.Test.YtijpflljopckiaaRows
import Derived.Test.YtijpflljopckiaaJ02
import Derived.WalkKit
import Derived.Outline
import Derived.IntWalk
import Derived.Deep.QuietTactic
import Derived.BigQuiet
import Derived.Test.YtijpflljopckiaaJ07
import Derived.Deep.AppendLies
import Derived.Test.YtijpflljopckiaaJ22
namespace Go.Proofs.Ytijpflljopckiaa
open Go.RowKit
set_option linter.unusedVariables false

/-- The work of 'with': the result, the new cells and the new ring. -/
structure WiAt (w : World) (r z y : Nat) (n : Nat) (hd sz : Int) (f : Nat → Msg) (W : World) : Prop where
  rs : RB W r none 0 0 0 0
  row : MRow W z n f
  rb : RB W y (some ⟨z, 0, none⟩) n n hd sz
  bel : Below w.heap.size w W
  old : w.heap.size ≤ r ∧ r < z ∧ z < y
section
variable {w W W' : World} {r z y n : Nat} {hd sz : Int} {f : Nat → Msg}
theorem WiAt.drew (h : WiAt w r z y n hd sz f W) : WiAt w r z y n hd sz f W.drew := ⟨h.rs.drew, h.row, h.rb.drew, h.bel.drew, h.old⟩
theorem WiAt.put (h : WiAt w r z y n hd sz f W) {k : Nat} (hk : k < n) (M : Msg) : WiAt w r z y n hd sz (fun i => if i = k then M else f i) (((((((W.setCell ⟨z, k * 7, none⟩ (.int .i64 M.id)).setCell ⟨z, k * 7 + 1, none⟩ (.int .i64 M.rt)).setCell ⟨z, k * 7 + 2, none⟩ (.int .i64 M.ep)).setCell ⟨z, k * 7 + 3, none⟩ (.int .i64 M.ct)).setCell ⟨z, k * 7 + 4, none⟩ (.int .i64 M.gn)).setCell ⟨z, k * 7 + 5, none⟩ (.int .i64 M.st)).setCell ⟨z, k * 7 + 6, none⟩ (.string M.bd)) :=
  ⟨h.rs.sets (by have := h.old; omega) (k * 7) M.l, h.row.put7n hk M, h.rb.sets (by have := h.old; omega) (k * 7) M.l, sets_below (by have := h.old; omega) M.l (k * 7) W h.bel, h.old⟩
theorem WiAt.at_ (h : WiAt w r z y n hd sz f W) {k : Nat} (hk : k < n) : C7 W z (k * 7) (f k) ∧ (W.frozen? ⟨z, k * 7, none⟩ = false ∧ W.frozen? ⟨z, k * 7 + 1, none⟩ = false ∧ W.frozen? ⟨z, k * 7 + 2, none⟩ = false ∧ W.frozen? ⟨z, k * 7 + 3, none⟩ = false ∧ W.frozen? ⟨z, k * 7 + 4, none⟩ = false ∧ W.frozen? ⟨z, k * 7 + 5, none⟩ = false ∧ W.frozen? ⟨z, k * 7 + 6, none⟩ = false) ∧ z < W.heap.size ∧ y < W.heap.size ∧ z ≠ y ∧ y ≠ z :=
  ⟨h.row.c7 hk, h.row.free _, h.row.1, h.rb.lt, by have := h.old; omega, by have := h.old; omega⟩
theorem WiAt.s8 (h : WiAt w r z y n hd sz f W) {b m : Nat} {X : Msg} (hc : C7 W b m X) : W.cell? ⟨y, 0, none⟩ = some (.slice (some ⟨z, 0, none⟩) n n) ∧ W.cell? ⟨b, m, none⟩ = some (.int .i64 X.id) ∧ W.cell? ⟨b, m + 1, none⟩ = some (.int .i64 X.rt) ∧ W.cell? ⟨b, m + 2, none⟩ = some (.int .i64 X.ep) ∧ W.cell? ⟨b, m + 3, none⟩ = some (.int .i64 X.ct) ∧ W.cell? ⟨b, m + 4, none⟩ = some (.int .i64 X.gn) ∧ W.cell? ⟨b, m + 5, none⟩ = some (.int .i64 X.st) ∧ W.cell? ⟨b, m + 6, none⟩ = some (.string X.bd) := ⟨h.rb.c0, hc⟩
theorem WiAt.start (w : World) (o : Obj) (n : Nat) (hd sz : Int) (t u : TypeId) : WiAt w (w.heap.size + 1) (w.heap.size + 1 + 1) (w.heap.size + 1 + 1 + 1) n hd sz (fun _ => zM) ((((w.alloc o).alloc (.cells #[.slice none 0 0, .int .i64 0, .int .i64 0] t)).alloc (.cells (madeCells (Msg.v zM).cells (n * 7)) u)).alloc (.cells #[.slice (some ⟨w.heap.size + 1 + 1, 0, none⟩) n n, .int .i64 hd, .int .i64 sz] t)) := by
  have e : (w.alloc o).heap.size = w.heap.size + 1 := by simp
  have e2 : ((w.alloc o).alloc (.cells #[.slice none 0 0, .int .i64 0, .int .i64 0] t)).heap.size = w.heap.size + 1 + 1 := by simp
  have e3 : (((w.alloc o).alloc (.cells #[.slice none 0 0, .int .i64 0, .int .i64 0] t)).alloc (.cells (madeCells (Msg.v zM).cells (n * 7)) u)).heap.size = w.heap.size + 1 + 1 + 1 := by simp
  have k := RB.fresh (w.alloc o) none 0 0 0 0 t
  have h := MRow.made ((w.alloc o).alloc (.cells #[.slice none 0 0, .int .i64 0, .int .i64 0] t)) n u
  have g := RB.fresh (((w.alloc o).alloc (.cells #[.slice none 0 0, .int .i64 0, .int .i64 0] t)).alloc (.cells (madeCells (Msg.v zM).cells (n * 7)) u)) (some ⟨w.heap.size + 1 + 1, 0, none⟩) n n hd sz t
  rw [e] at k
  rw [e2] at h
  rw [e3] at g
  exact ⟨(k.alloc _).alloc _, h.alloc _, g, ((((Below.refl _ _).alloc (Nat.le_refl _) _).alloc (by omega) _).alloc (by omega) _).alloc (by omega) _, by omega, Nat.lt_succ_self _, Nat.lt_succ_self _⟩
end

attribute [local go_sem ↓] Go.wp_at_zero Go.wp_at_succ
end Go.Proofs.Ytijpflljopckiaa
namespace Go.Proofs.Ytijpflljopckiaa
open Go.RowKit
set_option linter.unusedVariables false

section
variable {w W W' : World} {p q r n c : Nat} {A : Option Addr} {hd sz : Int} {M : Msg}
theorem RB.grown (h : RB W p A n c hd sz) {row : Option Nat} (hg : W.grownBy W' row) (hr : row ≠ some p) : RB W' p A n c hd sz := by
  have e : ∀ o, W'.cell? ⟨p, o, none⟩ = W.cell? ⟨p, o, none⟩ := fun o => hg.cell_far ⟨p, o, none⟩ h.lt (fun e => hr e.symm)
  exact ⟨Nat.lt_of_lt_of_le h.lt hg.size, (e 0).trans h.c0, (e 1).trans h.c1, (e 2).trans h.c2, fun o => (hg.frozen_far ⟨p, o, none⟩ h.lt (fun e => hr e.symm)).trans (h.fr o)⟩
theorem MAt.grown' {f : Nat → Int} {b : ByteArray} (h : MAt W q f b) {row : Option Nat} (hg : W.grownBy W' row) (hr : row ≠ some q) : MAt W' q f b :=
  ⟨Nat.lt_of_lt_of_le h.1 hg.size, fun j hj => (hg.cell_far ⟨q, j, none⟩ h.1 (fun e => hr e.symm)).trans (h.2.1 j hj), (hg.cell_far ⟨q, 6, none⟩ h.1 (fun e => hr e.symm)).trans h.2.2.1, fun o ho => (hg.frozen_far ⟨q, o, none⟩ h.1 (fun e => hr e.symm)).trans (h.2.2.2 o ho)⟩
theorem PbAt.grown (h : PbAt w p q r A n c hd sz M W) {row : Option Nat} (hg : W.grownBy W' row) (hr : ∀ k, row = some k → r < k) : PbAt w p q r A n c hd sz M W' :=
  ⟨h.rb.grown hg (fun e => by have := hr p e; have := h.old; omega), h.ms.grown' hg (fun e => by have := hr q e; have := h.old; omega), h.rs.grown hg (fun e => by have := hr r e; omega), h.bel.grown hg h.bel.size (fun k hk => by have := hr k hk; have := h.old; omega), h.old⟩
theorem PbAt.alloc (h : PbAt w p q r A n c hd sz M W) (o : Obj) : PbAt w p q r A n c hd sz M (W.alloc o) := h.below ((Below.refl _ _).alloc (Nat.le_refl _) o)
end
theorem RB.set3' {W : World} {p r n c : Nat} {A : Option Addr} {hd sz : Int} (h : RB W p A n c hd sz) (hr : r ≠ p) (x y z : Value) : RB (((W.setCell ⟨r, 0, none⟩ x).setCell ⟨r, 1, none⟩ y).setCell ⟨r, 2, none⟩ z) p A n c hd sz :=
  ((h.other (a := ⟨r, 0, none⟩) hr x).other (a := ⟨r, 1, none⟩) hr y).other (a := ⟨r, 2, none⟩) hr z
theorem MAt.set3' {W : World} {q r : Nat} {f : Nat → Int} {t : ByteArray} (h : MAt W q f t) (hr : r ≠ q) (x y z : Value) : MAt (((W.setCell ⟨r, 0, none⟩ x).setCell ⟨r, 1, none⟩ y).setCell ⟨r, 2, none⟩ z) q f t :=
  ((h.other (p := ⟨r, 0, none⟩) hr x).other (p := ⟨r, 1, none⟩) hr y).other (p := ⟨r, 2, none⟩) hr z
attribute [local go_sem ↓] Go.wp_at_zero Go.wp_at_succ
end Go.Proofs.Ytijpflljopckiaa
namespace Go.Proofs.Ytijpflljopckiaa
open Go.RowKit
set_option linter.unusedVariables false

set_option maxHeartbeats 1000000 in
theorem rsame_yes (A A' : Option Addr) (n n' c c' : Nat) (l : List Msg) (w : World) (B B' : Nat) (hv : Ls w B (.slice A n c) l) (hv' : Ls w B' (.slice A' n' c') l) :
    Calls Try.prog 85 #[.slice A n c, .slice A' n' c'] w fun e w' => e = .returned (.bool true) ∧ Below w.heap.size w w' := by
  obtain ⟨rfl, hm1, hm2⟩ := hv.len
  obtain ⟨rfl, hm1', hm2'⟩ := hv'.len
  have hL : l.length ≤ 9223372036854775807 := by unfold maxLen at hm2; omega
  have HV := Lib.hid hv
  have HV' := Lib.hid hv'
  have HB := Lib.hid (Below.refl w.heap.size w)
  clear hv hm1 hm2 hv' hm1' hm2'
  go_enter Try.func85, Try.ntmps85
  go_wp2
  go_loopw [5] (fun i wr => ∃ k : Nat, k ≤ l.length ∧ i = .int .i64 k ∧ Ls wr B (.slice A l.length c) l ∧ Ls wr B' (.slice A' l.length c') l ∧ Below w.heap.size w wr) (fun i _ => l.length - (intOf i).toNat)
  case atStart => exact ⟨0, by omega, rfl, HV.out, HV'.out, HB.out⟩
  case round =>
    obtain ⟨k, hk, rfl, hv, hv', hb⟩ := hrel
    have HV := Lib.hid hv
    have HV' := Lib.hid hv'
    have HB := Lib.hid hb
    clear hv hv' hb
    by_cases hlt : k < l.length
    · obtain ⟨b, o, rfl, hb, hc⟩ := HV.out.at_ hlt
      obtain ⟨b', o', rfl, hb', hc'⟩ := HV'.out.at_ hlt
      generalize l[k] = M at *
      have hne := neqm M
      obtain ⟨c0, c1, c2, c3, c4, c5, c6⟩ := hc
      obtain ⟨d0, d1, d2, d3, d4, d5, d6⟩ := hc'
      go_wp2
      go_quiet (fail)
      go_wp2
      go_roundw
      case rel => exact ⟨k + 1, by omega, by go_num, HV.out.drewN _, HV'.out.drewN _, below_drewN HB.out _⟩
      case measure => simp [intOf]; omega
    · go_wp2
      go_ret
      exact ⟨rfl, HB.out⟩
end Go.Proofs.Ytijpflljopckiaa
namespace Go.Proofs.Ytijpflljopckiaa
open Go.RowKit
set_option linter.unusedVariables false

set_option maxHeartbeats 2000000 in
theorem rnew4_any (k : Int) (w : World) : Calls Try.prog 88 #[.int .i64 k] w (RP w (nwC k) 0 0 (nwE k)) := by
  have HB0 := Lib.hid ((Below.refl w.heap.size w).alloc (Nat.le_refl _) (.cells #[.slice none 0 0, .int .i64 0, .int .i64 0] 79))
  by_cases a1 : k < 1
  · have HC := Lib.hid (show nwC k = [] from if_neg (by rw [wi_low a1]; decide))
    have HE := Lib.hid (show nwE k = 1 from if_neg (by rw [wi_low a1]; decide))
    go_enter Try.func88, Try.ntmps88
    go_wp2
    exact bodyPost_ret (v := .tuple #[.agg #[.slice none 0 0, .int .i64 0, .int .i64 0], .int .i64 1]) (by simp only [results, Try.results88]; go_simp <;> rfl) rfl ⟨none, 0, by rw [HC.out, HE.out]; rfl, nw_none, by rw [HC.out]; exact Ls.nil, HB0.out⟩
  by_cases a2 : (12 : Int) < k
  · have HC := Lib.hid (show nwC k = [] from if_neg (by rw [wi_high (lo := 1) a2]; decide))
    have HE := Lib.hid (show nwE k = 1 from if_neg (by rw [wi_high (lo := 1) a2]; decide))
    go_enter Try.func88, Try.ntmps88
    go_wp2
    exact bodyPost_ret (v := .tuple #[.agg #[.slice none 0 0, .int .i64 0, .int .i64 0], .int .i64 1]) (by simp only [results, Try.results88]; go_simp <;> rfl) rfl ⟨none, 0, by rw [HC.out, HE.out]; rfl, nw_none, by rw [HC.out]; exact Ls.nil, HB0.out⟩
  · have h : wi k 1 12 = true := wi_true (by omega) (by omega)
    obtain ⟨k1, k2⟩ := wi_of h
    obtain ⟨k, rfl⟩ := Int.eq_ofNat_of_zero_le (show 0 ≤ k by omega)
    have HC := Lib.hid (show nwC (k : Int) = (List.range k).map (fun _ => zM) from if_pos h)
    have HE := Lib.hid (show nwE (k : Int) = 0 from if_pos h)
    have hmk := run_make_msgs k (by omega)
    have hlen : (nwC (k : Int)).length = k := by rw [HC.out]; simp
    have HLN := Lib.hid hlen
    have HM := Lib.hid (MRow.made (w.alloc (.cells #[.slice (some ⟨w.heap.size + 1, 0, none⟩) k k, .int .i64 0, .int .i64 0] 79)) k 151)
    have HKM := Lib.hid (show k ≤ maxLen by unfold maxLen; omega)
    clear h hlen
    go_enter Try.func88, Try.ntmps88
    go_wp2
    exact bodyPost_ret (v := .tuple #[.agg #[.slice (some ⟨w.heap.size + 1, 0, none⟩) k k, .int .i64 0, .int .i64 0], .int .i64 0]) (by simp only [results, Try.results88]; go_simp <;> rfl) rfl ⟨some ⟨w.heap.size + 1, 0, none⟩, k, by rw [HLN.out, HE.out], nw_some (by omega), by rw [HLN.out]; exact new_end HM.out HC.out HKM.out, ((Below.refl _ _).alloc (Nat.le_refl _) _).alloc (by simp) _⟩

set_option maxHeartbeats 2000000 in
theorem gsame_yes (A A' : Option Addr) (n n' c c' : Nat) (hd sz : Int) (l : List Msg) (w : World) (B B' : Nat) (hB : B ≤ w.heap.size) (hB' : B' ≤ w.heap.size) (hv : Ls w B (.slice A n c) l) (hv' : Ls w B' (.slice A' n' c') l) :
    Calls Try.prog 86 #[.agg #[.slice A n c, .int .i64 hd, .int .i64 sz], .agg #[.slice A' n' c', .int .i64 hd, .int .i64 sz]] w fun e w' => e = .returned (.bool true) ∧ Below w.heap.size w w' := by
  have HB := Lib.hid (((Below.refl w.heap.size w).alloc (Nat.le_refl _) (.cells #[.slice A n c, .int .i64 hd, .int .i64 sz] 79)).alloc (by simp) (.cells #[.slice A' n' c', .int .i64 hd, .int .i64 sz] 79))
  have HS := Lib.hid (fun w1 (h : Below w.heap.size w w1) => rsame_yes A A' n n' c c' l w1 B B' (hv.keep fun p hp => h.cell (Nat.lt_of_lt_of_le hp hB)) (hv'.keep fun p hp => h.cell (Nat.lt_of_lt_of_le hp hB')))
  clear hv hv' hB hB'
  go_enter Try.func86, Try.ntmps86
  go_wp2_with fail
  refine (HS.out _ HB.out).mono ?_
  rintro e w1 ⟨rfl, hb⟩
  have HB1 := Lib.hid (HB.out.trans (hb.mono HB.out.size))
  clear hb
  go_wp2
  go_ret
  exact ⟨rfl, HB1.out⟩
end Go.Proofs.Ytijpflljopckiaa
namespace Go.Proofs.Ytijpflljopckiaa
open Go.RowKit
set_option linter.unusedVariables false

/-- The work of RingOf: a ring in a block, the result, the source. -/
structure RoAt (w : World) (B g r y : Nat) (A : Option Addr) (k c hd : Nat) (L : List Msg) (W : World) : Prop where
  rb : RB W y A k c hd L.length
  rs : RB W r none 0 0 0 0
  ls : Ls W W.heap.size (.slice A k c) (fil k hd L)
  src : SrcAt W B g
  grow : w.grownBy W (some g)
  nw : Nw (r + 1) A
  offy : Off y A
  old : w.heap.size ≤ r ∧ r < y ∧ g < w.heap.size ∧ B ≤ g
section
variable {w W W' : World} {B g r y k c hd : Nat} {A : Option Addr} {L : List Msg}
theorem RoAt.drew (h : RoAt w B g r y A k c hd L W) : RoAt w B g r y A k c hd L W.drew := ⟨h.rb.drew, h.rs.drew, h.ls, h.src, only_drew h.grow, h.nw, h.offy, h.old⟩
theorem RoAt.below (h : RoAt w B g r y A k c hd L W) (hb : Below W.heap.size W W') : RoAt w B g r y A k c hd L W' :=
  ⟨h.rb.below hb h.rb.lt, h.rs.below hb h.rs.lt, (h.ls.below hb).more hb.size, h.src.below hb, only_below h.grow hb, h.nw, h.offy, h.old⟩
/-- A new ring is stored. -/
theorem RoAt.store {W1 : World} {A1 : Option Addr} {c1 hd1 : Nat} {L1 : List Msg} (h : RoAt w B g r y A k c hd L W) (hb : Below W.heap.size W W1) (hnw : Nw W.heap.size A1) (hl : Ls W1 W1.heap.size (.slice A1 k c1) (fil k hd1 L1)) (z : Int) (hz : z = (L1.length : Int)) : RoAt w B g r y A1 k c1 hd1 L1 (((W1.setCell ⟨y, 0, none⟩ (.slice A1 k c1)).setCell ⟨y, 1, none⟩ (.int .i64 hd1)).setCell ⟨y, 2, none⟩ (.int .i64 z)) := by
  subst hz
  have h1 := h.below hb
  have hy : y < W.heap.size := h.rb.lt
  have hyr : y ≠ r := by have := h.old; omega
  have hyg : y ≠ g := by have := h.old; omega
  have hyB : B ≤ y := by have := h.old; omega
  refine ⟨((h1.rb.setA A1 k c1).setH hd1).setS L1.length, h1.rs.set3' hyr _ _ _, ?_, ((h1.src.other (p := ⟨y, 0, none⟩) hyg hyB _).other (p := ⟨y, 1, none⟩) hyg hyB _).other (p := ⟨y, 2, none⟩) hyg hyB _, only_set (only_set (only_set h1.grow (.inr (by show w.heap.size ≤ y; have := h.old; omega)) _) (.inr (by show w.heap.size ≤ y; have := h.old; omega)) _) (.inr (by show w.heap.size ≤ y; have := h.old; omega)) _, nw_low hnw (by have := h.old; omega), off_nw hnw hy, h.old⟩
  have := (hl.off3 hnw hy (.slice A1 k c1) (.int .i64 hd1) (.int .i64 L1.length))
  simpa using this
theorem RoAt.s3 (h : RoAt w B g r y A k c hd L W) : W.cell? ⟨y, 0, none⟩ = some (.slice A k c) ∧ W.cell? ⟨y, 1, none⟩ = some (.int .i64 hd) ∧ W.cell? ⟨y, 2, none⟩ = some (.int .i64 L.length) := ⟨h.rb.c0, h.rb.c1, h.rb.c2⟩
end
end Go.Proofs.Ytijpflljopckiaa
