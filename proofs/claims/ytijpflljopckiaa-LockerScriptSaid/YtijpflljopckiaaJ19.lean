/- What is proved here: shard.hasSameID and shard.messages by contracts; lease.leaseError, lease.dueOf, lease.listError by contracts; '==' and '!=' of two deadlines; slices.Contains of deadlines, lease.consistsOf, lease.Validate by contracts; shard.liveError by a contract. -/
import Derived.Test.YtijpflljopckiaaJ18
import Derived.Test.YtijpflljopckiaaJ12
import Derived.Test.YtijpflljopckiaaJ03
import Derived.Test.YtijpflljopckiaaRows
import Derived.Test.YtijpflljopckiaaJ02
import Derived.WalkKit
import Derived.Outline
import Derived.IntWalk
import Derived.Test.YtijpflljopckiaaJ05
import Derived.Test.YtijpflljopckiaaJ10
import Derived.Test.YtijpflljopckiaaJ09
import Derived.Laws.StructEq
import Derived.KernelRfl
import Derived.Deep.QuietTactic
import Derived.BigQuiet
import Derived.Deep.RegionHeld3
namespace Go.Proofs.Ytijpflljopckiaa
open Go.RowKit
set_option linter.unusedVariables false

/-- A box of a message, of whose ID something is asked. -/
def IdAt (q : Nat) (id : Int) (W : World) : Prop := q < W.heap.size ∧ W.cell? ⟨q, 0, none⟩ = some (.int .i64 id)
theorem IdAt.below {q : Nat} {id : Int} (W W' : World) (h : IdAt q id W) (hb : Below W.heap.size W W') : IdAt q id W' := ⟨Nat.lt_of_lt_of_le h.1 hb.size, (hb.cell (p := ⟨q, 0, none⟩) h.1).trans h.2⟩
end Go.Proofs.Ytijpflljopckiaa
namespace Go.Proofs.Ytijpflljopckiaa
open Go.RowKit
set_option linter.unusedVariables false

/-- A lease in a box, all its cells. -/
abbrev El8 (W : World) (q : Nat) (X : Le) : Prop := W.cell? ⟨q, 0, none⟩ = some (.int .i64 X.m.id) ∧ W.cell? ⟨q, 1, none⟩ = some (.int .i64 X.m.rt) ∧ W.cell? ⟨q, 2, none⟩ = some (.int .i64 X.m.ep) ∧ W.cell? ⟨q, 3, none⟩ = some (.int .i64 X.m.ct) ∧ W.cell? ⟨q, 4, none⟩ = some (.int .i64 X.m.gn) ∧ W.cell? ⟨q, 5, none⟩ = some (.int .i64 X.m.st) ∧ W.cell? ⟨q, 6, none⟩ = some (.string X.m.bd) ∧ W.cell? ⟨q, 7, none⟩ = some (.int .i64 X.dl) ∧ q < W.heap.size
theorem El8.start (w : World) (X : Le) (t : TypeId) : El8 (w.alloc (.cells #[.int .i64 X.m.id, .int .i64 X.m.rt, .int .i64 X.m.ep, .int .i64 X.m.ct, .int .i64 X.m.gn, .int .i64 X.m.st, .string X.m.bd, .int .i64 X.dl] t)) w.heap.size X :=
  ⟨by simp [go_sem], by simp [go_sem], by simp [go_sem], by simp [go_sem], by simp [go_sem], by simp [go_sem], by simp [go_sem], by simp [go_sem], by simp⟩
theorem El8.below {B : Nat} {W W' : World} {q : Nat} {X : Le} (h : El8 W q X) (hb : Below B W W') (hq : q < B) : El8 W' q X := by
  obtain ⟨h0, h1, h2, h3, h4, h5, h6, h7, hl⟩ := h
  exact ⟨(hb.cell (p := ⟨q, 0, none⟩) hq).trans h0, (hb.cell (p := ⟨q, 1, none⟩) hq).trans h1, (hb.cell (p := ⟨q, 2, none⟩) hq).trans h2, (hb.cell (p := ⟨q, 3, none⟩) hq).trans h3, (hb.cell (p := ⟨q, 4, none⟩) hq).trans h4, (hb.cell (p := ⟨q, 5, none⟩) hq).trans h5, (hb.cell (p := ⟨q, 6, none⟩) hq).trans h6, (hb.cell (p := ⟨q, 7, none⟩) hq).trans h7, Nat.lt_of_lt_of_le hl hb.size⟩
end Go.Proofs.Ytijpflljopckiaa
namespace Go.Proofs.Ytijpflljopckiaa
open Go.RowKit
set_option linter.unusedVariables false

open Classical in
theorem eqd_in (a b : Du) (W : World) : (Op.equalIn 10000 157 a.v b.v).run Try.prog W = .ok (decide (a = b)) W := by
  have u3 := Try.underlying3
  have hS : Try.prog.underlying 157 = some (.struct (Try.prog.fieldsOf 157)) := by kernel_rfl
  have hp : Try.prog.stoodInHeld 157 = false := by kernel_rfl
  rw [show (10000 : Nat) = 9999 + 1 from rfl, run_equalIn_agg W 9999 157 _ _ hS hp]
  simp only [Program.fieldsOf, Try.underlying157]
  by_cases h0 : a.dl = b.dl
  · by_cases h1 : a.id = b.id
    · have e : decide (a = b) = true := decide_eq_true (by cases a; cases b; simp_all)
      have h0' : (a.dl == b.dl) = true := by simpa using h0
      have h1' : (a.id == b.id) = true := by simpa using h1
      rw [e]
      clear e h0 h1
      go_simp
    · have e : decide (a = b) = false := decide_eq_false (fun e => h1 (by rw [e]))
      have h0' : (a.dl == b.dl) = true := by simpa using h0
      have h1' : (a.id == b.id) = false := by simpa using h1
      rw [e]
      clear e h0 h1
      go_simp
  · have e : decide (a = b) = false := decide_eq_false (fun e => h0 (by rw [e]))
    have h0' : (a.dl == b.dl) = false := by simpa using h0
    rw [e]
    clear e h0
    go_simp
open Classical in
theorem neqd_no (a : Du) : ∀ W, (binOp .neq 157 a.v a.v).run Try.prog W = .ok (.bool false) W := fun W => by
  rw [run_neq_struct, eqd_in, decide_eq_true (show a = a from rfl)]; rfl
end Go.Proofs.Ytijpflljopckiaa
namespace Go.Proofs.Ytijpflljopckiaa
open Go.RowKit
set_option linter.unusedVariables false

/-- A deadline in a box. -/
abbrev DB (W : World) (p : Nat) (d : Du) : Prop := W.cell? ⟨p, 0, none⟩ = some (.int .i64 d.dl) ∧ W.cell? ⟨p, 1, none⟩ = some (.int .i64 d.id) ∧ p < W.heap.size
theorem DB.start (w : World) (d : Du) (t : TypeId) : DB (w.alloc (.cells #[.int .i64 d.dl, .int .i64 d.id] t)) w.heap.size d := ⟨by simp [go_sem], by simp [go_sem], by simp⟩
theorem DB.below {B : Nat} {W W' : World} {p : Nat} {d : Du} (h : DB W p d) (hb : Below B W W') (hp : p < B) : DB W' p d :=
  ⟨(hb.cell (p := ⟨p, 0, none⟩) hp).trans h.1, (hb.cell (p := ⟨p, 1, none⟩) hp).trans h.2.1, Nat.lt_of_lt_of_le h.2.2 hb.size⟩
end Go.Proofs.Ytijpflljopckiaa
namespace Go.Proofs.Ytijpflljopckiaa
open Go.RowKit
set_option linter.unusedVariables false

/-- The cells of a shard in a block. -/
abbrev K8 (p : Nat) (S : Sh) (D : Sx) (W : World) : Prop := W.cell? ⟨p, 0, none⟩ = some (.bool S.lv) ∧ W.cell? ⟨p, 1, none⟩ = some (.int .i64 S.lo) ∧ W.cell? ⟨p, 2, none⟩ = some (.int .i64 S.hi) ∧ W.cell? ⟨p, 3, none⟩ = some (.slice D.A S.cs.length D.c) ∧ W.cell? ⟨p, 4, none⟩ = some (.int .i64 S.hd) ∧ W.cell? ⟨p, 5, none⟩ = some (.int .i64 S.sz) ∧ W.cell? ⟨p, 6, none⟩ = some (.slice D.A2 S.l.length D.c2) ∧ W.cell? ⟨p, 7, none⟩ = some (.slice D.A3 S.h.length D.c3)
theorem SAt.k8 {w W : World} {p : Nat} {S : Sh} {D : Sx} (h : SAt w p S D W) : K8 p S D W := ⟨h.s8.c0, h.s8.c1, h.s8.c2, h.s8.c3, h.s8.c4, h.s8.c5, h.s8.c6, h.s8.c7⟩
theorem SB8.k8 {W : World} {p : Nat} {S : Sh} {D : Sx} (h : SB8 W p S D) : K8 p S D W := ⟨h.c0, h.c1, h.c2, h.c3, h.c4, h.c5, h.c6, h.c7⟩
/-- A box of a shard, whose routes something is asked of. -/
def ShAt (p : Nat) (S : Sh) (D : Sx) (W : World) : Prop := p < W.heap.size ∧ K8 p S D W
theorem ShAt.below {p : Nat} {S : Sh} {D : Sx} (W W' : World) (h : ShAt p S D W) (hb : Below W.heap.size W W') : ShAt p S D W' := by
  obtain ⟨hp, h0, h1, h2, h3, h4, h5, h6, h7⟩ := h
  have c : ∀ o, W'.cell? ⟨p, o, none⟩ = W.cell? ⟨p, o, none⟩ := fun o => hb.cell (p := ⟨p, o, none⟩) hp
  exact ⟨Nat.lt_of_lt_of_le hp hb.size, (c 0).trans h0, (c 1).trans h1, (c 2).trans h2, (c 3).trans h3, (c 4).trans h4, (c 5).trans h5, (c 6).trans h6, (c 7).trans h7⟩
end Go.Proofs.Ytijpflljopckiaa
