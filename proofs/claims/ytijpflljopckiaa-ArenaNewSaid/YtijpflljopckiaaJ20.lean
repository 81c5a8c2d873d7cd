/- What is proved here: '==' and '!=' of two deadlines; slices.Contains of deadlines, lease.consistsOf, lease.Validate by contracts; shard.liveError by a contract; shard.examine by a contract; (plain) what keeps 'nothing old is turned' along a walk; a ring that a statement holds. -/
import Derived.Test.YtijpflljopckiaaRows
import Derived.Test.YtijpflljopckiaaJ02
import Derived.WalkKit
import Derived.Outline
import Derived.IntWalk
import Derived.Test.YtijpflljopckiaaJ09
import Derived.Laws.StructEq
import Derived.KernelRfl
import Derived.Test.YtijpflljopckiaaJ19
import Derived.Test.YtijpflljopckiaaJ10
import Derived.Deep.QuietTactic
import Derived.BigQuiet
import Derived.Test.YtijpflljopckiaaJ05
import Derived.Deep.RegionHeld3
import Derived.Test.YtijpflljopckiaaJ07
import Derived.BigFrame
namespace Go.Proofs.Ytijpflljopckiaa
open Go.RowKit
set_option linter.unusedVariables false

open Classical in
theorem eqd_in (a b : Du) (W : World) : (Op.equalIn 10000 157 a.v b.v).run Try.prog W = .ok (decide (a = b)) W := by
  have u3 := Try.underlying3
  have hS : Try.prog.underlying 157 = some (.struct (Try.prog.fieldsOf 157)) := by kernel_rfl
  have hp : Try.prog.stoodInHeld 157 = false := by kernel_rfl
  rw [show (10000 : Nat) = 9999 + 1 from rfl, run_equalIn_agg W 9999 157 _ _ hS hp]
  simp only [Program.fieldsOf, Try.underlying157]
  by_cases h0 : a.dl = b.dl
  · by_cases h1 : a.id = b.id
    · have e : decide (a = b) = true := decide_eq_true (by cases a; cases b; simp_all)
      have h0' : (a.dl == b.dl) = true := by simpa using h0
      have h1' : (a.id == b.id) = true := by simpa using h1
      rw [e]
      clear e h0 h1
      go_simp
    · have e : decide (a = b) = false := decide_eq_false (fun e => h1 (by rw [e]))
      have h0' : (a.dl == b.dl) = true := by simpa using h0
      have h1' : (a.id == b.id) = false := by simpa using h1
      rw [e]
      clear e h0 h1
      go_simp
  · have e : decide (a = b) = false := decide_eq_false (fun e => h0 (by rw [e]))
    have h0' : (a.dl == b.dl) = false := by simpa using h0
    rw [e]
    clear e h0
    go_simp
open Classical in
theorem neqd_no (a : Du) : ∀ W, (binOp .neq 157 a.v a.v).run Try.prog W = .ok (.bool false) W := fun W => by
  rw [run_neq_struct, eqd_in, decide_eq_true (show a = a from rfl)]; rfl
end Go.Proofs.Ytijpflljopckiaa
namespace Go.Proofs.Ytijpflljopckiaa
open Go.RowKit
set_option linter.unusedVariables false

/-- A deadline in a box. -/
abbrev DB (W : World) (p : Nat) (d : Du) : Prop := W.cell? ⟨p, 0, none⟩ = some (.int .i64 d.dl) ∧ W.cell? ⟨p, 1, none⟩ = some (.int .i64 d.id) ∧ p < W.heap.size
theorem DB.start (w : World) (d : Du) (t : TypeId) : DB (w.alloc (.cells #[.int .i64 d.dl, .int .i64 d.id] t)) w.heap.size d := ⟨by simp [go_sem], by simp [go_sem], by simp⟩
theorem DB.below {B : Nat} {W W' : World} {p : Nat} {d : Du} (h : DB W p d) (hb : Below B W W') (hp : p < B) : DB W' p d :=
  ⟨(hb.cell (p := ⟨p, 0, none⟩) hp).trans h.1, (hb.cell (p := ⟨p, 1, none⟩) hp).trans h.2.1, Nat.lt_of_lt_of_le h.2.2 hb.size⟩
end Go.Proofs.Ytijpflljopckiaa
namespace Go.Proofs.Ytijpflljopckiaa
open Go.RowKit
set_option linter.unusedVariables false

/-- The cells of a shard in a block. -/
abbrev K8 (p : Nat) (S : Sh) (D : Sx) (W : World) : Prop := W.cell? ⟨p, 0, none⟩ = some (.bool S.lv) ∧ W.cell? ⟨p, 1, none⟩ = some (.int .i64 S.lo) ∧ W.cell? ⟨p, 2, none⟩ = some (.int .i64 S.hi) ∧ W.cell? ⟨p, 3, none⟩ = some (.slice D.A S.cs.length D.c) ∧ W.cell? ⟨p, 4, none⟩ = some (.int .i64 S.hd) ∧ W.cell? ⟨p, 5, none⟩ = some (.int .i64 S.sz) ∧ W.cell? ⟨p, 6, none⟩ = some (.slice D.A2 S.l.length D.c2) ∧ W.cell? ⟨p, 7, none⟩ = some (.slice D.A3 S.h.length D.c3)
theorem SAt.k8 {w W : World} {p : Nat} {S : Sh} {D : Sx} (h : SAt w p S D W) : K8 p S D W := ⟨h.s8.c0, h.s8.c1, h.s8.c2, h.s8.c3, h.s8.c4, h.s8.c5, h.s8.c6, h.s8.c7⟩
theorem SB8.k8 {W : World} {p : Nat} {S : Sh} {D : Sx} (h : SB8 W p S D) : K8 p S D W := ⟨h.c0, h.c1, h.c2, h.c3, h.c4, h.c5, h.c6, h.c7⟩
/-- A box of a shard, whose routes something is asked of. -/
def ShAt (p : Nat) (S : Sh) (D : Sx) (W : World) : Prop := p < W.heap.size ∧ K8 p S D W
theorem ShAt.below {p : Nat} {S : Sh} {D : Sx} (W W' : World) (h : ShAt p S D W) (hb : Below W.heap.size W W') : ShAt p S D W' := by
  obtain ⟨hp, h0, h1, h2, h3, h4, h5, h6, h7⟩ := h
  have c : ∀ o, W'.cell? ⟨p, o, none⟩ = W.cell? ⟨p, o, none⟩ := fun o => hb.cell (p := ⟨p, o, none⟩) hp
  exact ⟨Nat.lt_of_lt_of_le hp hb.size, (c 0).trans h0, (c 1).trans h1, (c 2).trans h2, (c 3).trans h3, (c 4).trans h4, (c 5).trans h5, (c 6).trans h6, (c 7).trans h7⟩
end Go.Proofs.Ytijpflljopckiaa
namespace Go.Proofs.Ytijpflljopckiaa
open Go.RowKit
set_option linter.unusedVariables false

/-- A number and its range. -/
structure Rn where
  n : Int
  lo : Int
  hi : Int
def Rn.l (x : Rn) : List Value := [.int .i64 x.n, .int .i64 x.lo, .int .i64 x.hi]
def Rn.ok (x : Rn) : Bool := wi x.n x.lo x.hi
def rcs (R : List Rn) : List Value := R.flatMap Rn.l
theorem rcs_cons (x : Rn) (R : List Rn) : rcs (x :: R) = x.l ++ rcs R := rfl
theorem rcs_drop (R : List Rn) (k : Nat) : (rcs R).drop (k * 3) = rcs (R.drop k) := by
  induction k generalizing R with
  | zero => simp
  | succ k ih =>
    cases R with
    | nil => simp [rcs]
    | cons x R =>
      rw [rcs_cons, List.drop_succ_cons, ← ih, show (k + 1) * 3 = x.l.length + k * 3 by simp [Rn.l]; omega, List.drop_append, List.drop_eq_nil_of_le (by omega)]
      simp
theorem rcs_at (R : List Rn) (k j : Nat) (hk : k < R.length) (hj : j < 3) : (rcs R)[k * 3 + j]? = R[k].l[j]? := by
  have h := rcs_drop R k
  have e : (rcs R)[k * 3 + j]? = ((rcs R).drop (k * 3))[j]? := by rw [List.getElem?_drop]
  rw [e, h, List.drop_eq_getElem_cons hk, rcs_cons, List.getElem?_append_left (by simp [Rn.l]; exact hj)]
/-- A value that is a slice and reads as these numbers and ranges. -/
def Nl (W : World) (B : Nat) (v : Value) (R : List Rn) : Prop := ∃ A c, v = .slice A R.length c ∧ R.length ≤ c ∧ c ≤ maxLen ∧ Rd W B 3 A R.length (rcs R)
theorem Nl.nil {W : World} {B : Nat} : Nl W B (.slice none 0 0) [] := ⟨none, 0, rfl, Nat.le_refl _, Nat.zero_le _, Rd.nil none⟩
section
variable {W W' : World} {B : Nat} {v : Value} {R : List Rn} {A : Option Addr} {n c : Nat}
theorem Nl.below (h : Nl W B v R) (hb : Below B W W') : Nl W' B v R := by
  obtain ⟨A, c, e, h1, h2, h3⟩ := h; exact ⟨A, c, e, h1, h2, h3.below hb⟩
theorem Nl.len (h : Nl W B (.slice A n c) R) : n = R.length ∧ n ≤ c ∧ c ≤ maxLen := by
  obtain ⟨A', c', e, hl, hm, h⟩ := h
  injection e with e1 e2 e3
  subst e2; subst e3
  exact ⟨rfl, hl, hm⟩
theorem Nl.at_ {k : Nat} (h : Nl W B (.slice A n c) R) (hk : k < R.length) : ∃ b o, A = some ⟨b, o, none⟩ ∧ b < B ∧ W.cell? ⟨b, o + k * 3, none⟩ = some (.int .i64 R[k].n) ∧ W.cell? ⟨b, o + k * 3 + 1, none⟩ = some (.int .i64 R[k].lo) ∧ W.cell? ⟨b, o + k * 3 + 2, none⟩ = some (.int .i64 R[k].hi) := by
  obtain ⟨A', c', e, hl, hm, hr⟩ := h
  injection e with e1 e2 e3
  subst e1
  obtain ⟨b, o, e, hb, hc⟩ := hr.2 (by omega)
  have g : ∀ j u, j < 3 → R[k].l[j]? = some u → W.cell? ⟨b, o + k * 3 + j, none⟩ = some u := fun j u hj hu => by
    rw [Nat.add_assoc]; exact hc _ u (by rw [rcs_at R k j hk hj]; exact hu)
  exact ⟨b, o, e, hb, g 0 _ (by omega) rfl, g 1 _ (by omega) rfl, g 2 _ (by omega) rfl⟩
end
end Go.Proofs.Ytijpflljopckiaa
namespace Go.Proofs.Ytijpflljopckiaa
open Go.RowKit
set_option linter.unusedVariables false

theorem bal {a w : World} (h : Below a.heap.size a w) (o : Obj) : Below a.heap.size a (w.alloc o) := h.alloc h.size o
theorem btr {a b c : World} (h : Below a.heap.size a b) (k : Below b.heap.size b c) : Below a.heap.size a c := h.trans (k.mono h.size)
theorem MAt.new (w : World) (X : Msg) (t : TypeId) : MAt (w.alloc (.cells X.cs t)) w.heap.size X.nth X.bd := MAt.fresh (f := X.nth) w X.id X.rt X.ep X.ct X.gn X.st X.bd t rfl rfl rfl rfl rfl rfl
section
variable {wr w4 : World} {A4 : Option Addr} {k c4 lo x m : Nat} {hd z : Int} {X : Msg} {l : List Msg}
end

/-- A ring that a statement holds, and the list of its messages. -/
structure RvAt (w : World) (p : Nat) (A : Option Addr) (k c hd : Nat) (L : List Msg) (AL : Option Addr) (cL : Nat) (W : World) : Prop where
  rb : RB W p A k c hd L.length
  ls : Ls W W.heap.size (.slice A k c) (fil k hd L)
  la : Ls W W.heap.size (.slice AL L.length cL) L
  bel : Below w.heap.size w W
  old : w.heap.size ≤ p
theorem RvAt.below {w W W' : World} {p k c hd cL : Nat} {A AL : Option Addr} {L : List Msg} (h : RvAt w p A k c hd L AL cL W) (hb : Below W.heap.size W W') : RvAt w p A k c hd L AL cL W' :=
  ⟨h.rb.below hb h.rb.lt, h.ls.up hb, h.la.up hb, h.bel.trans (hb.mono h.bel.size), h.old⟩
/-- A result of Remove, seen from an earlier world. -/
def RMQ (w0 w : World) (cs : List Msg) (hd sz : Int) (X : Msg) (x : Int) (e : Ending) (w' : World) : Prop := ∃ A c, e = .returned (.tuple #[.agg #[.slice A cs.length c, .int .i64 hd, .int .i64 sz], X.v, .int .i64 x]) ∧ Nw w.heap.size A ∧ Ls w' w'.heap.size (.slice A cs.length c) cs ∧ Below w.heap.size w w' ∧ Below w0.heap.size w0 w'
theorem RMQ.of {w0 w : World} {cs : List Msg} {hd sz : Int} {X : Msg} {x : Int} {e : Ending} {w' : World} (h0 : Below w0.heap.size w0 w) (h : RMP w cs hd sz X x e w') : RMQ w0 w cs hd sz X x e w' := by
  obtain ⟨A, c, e, hn, hl, hb⟩ := h
  exact ⟨A, c, e, hn, hl, hb, btr h0 hb⟩
/-- A result that is a list of messages, seen from an earlier world. -/
def LsQ (w0 : World) (l : List Msg) (w : World) (e : Ending) (w' : World) : Prop := ∃ A c, e = .returned (.slice A l.length c) ∧ Nw w.heap.size A ∧ Ls w' w'.heap.size (.slice A l.length c) l ∧ Below w.heap.size w w' ∧ Below w0.heap.size w0 w'
theorem LsQ.of {w0 w : World} {l : List Msg} {e : Ending} {w' : World} (h0 : Below w0.heap.size w0 w) (h : LsP l w e w') : LsQ w0 l w e w' := by
  obtain ⟨v, e, hn, hl, hb⟩ := h
  obtain ⟨A, c, rfl, _, _⟩ := hl.form
  exact ⟨A, c, e, nwv_of hn, hl, hb, btr h0 hb⟩
end Go.Proofs.Ytijpflljopckiaa
