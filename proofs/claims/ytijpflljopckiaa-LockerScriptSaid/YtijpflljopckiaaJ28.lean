/- What is proved here: stripe.endError, stripe.Begin, stripe.End, ref11.End by contracts; stripe.Begin, stripe.End, ref11.End by contracts; awake of shardqueuelaw11 returns true; boxes of stripes; shard.Nack by a contract; shard.Take by a contract. -/
import Derived.Test.YtijpflljopckiaaJ27
import Derived.Test.YtijpflljopckiaaJ19
import Derived.Test.YtijpflljopckiaaJ25
import Derived.Test.YtijpflljopckiaaJ23
import Derived.Test.YtijpflljopckiaaJ18
import Derived.Test.YtijpflljopckiaaJ02
import Derived.Deep.QuietTactic
import Derived.BigQuiet
import Derived.ArgAppend
import Derived.Test.YtijpflljopckiaaJ20
import Derived.Test.YtijpflljopckiaaJ06
import Derived.Test.YtijpflljopckiaaJ21
import Derived.Test.YtijpflljopckiaaJ24
namespace Go.Proofs.Ytijpflljopckiaa
open Go.RowKit
set_option linter.unusedVariables false

section
variable {s : St} {S : Sh} {ep lim : Int}
end
/-- A stripe's box beside a shard's box. -/
structure YB (w : World) (p q : Nat) (s : St) (S : Sh) (D : Sx) (W : World) : Prop where
  sa : SAt w q S D W
  c0 : W.cell? ⟨p, 0, none⟩ = some (.int .i64 s.sq)
  c1 : W.cell? ⟨p, 1, none⟩ = some (.int .i64 s.ep)
  c2 : W.cell? ⟨p, 2, none⟩ = some (.int .i64 s.rd)
  c3 : W.cell? ⟨p, 3, none⟩ = some (.int .i64 s.ls)
  lt : p < W.heap.size
section
variable {w W W' : World} {p q : Nat} {s : St} {S : Sh} {D : Sx}
theorem YB.below (h : YB w p q s S D W) (hb : Below W.heap.size W W') : YB w p q s S D W' :=
  ⟨h.sa.below hb, (hb.cell (p := ⟨p, 0, none⟩) h.lt).trans h.c0, (hb.cell (p := ⟨p, 1, none⟩) h.lt).trans h.c1, (hb.cell (p := ⟨p, 2, none⟩) h.lt).trans h.c2, (hb.cell (p := ⟨p, 3, none⟩) h.lt).trans h.c3, Nat.lt_of_lt_of_le h.lt hb.size⟩
theorem YB.start (s : St) (h : SR w w.heap.size S D) (t u : TypeId) : YB w w.heap.size (w.heap.size + 1) s S D ((w.alloc (.cells #[.int .i64 s.sq, .int .i64 s.ep, .int .i64 s.rd, .int .i64 s.ls] t)).alloc (.cells #[.bool S.lv, .int .i64 S.lo, .int .i64 S.hi, .slice D.A S.cs.length D.c, .int .i64 S.hd, .int .i64 S.sz, .slice D.A2 S.l.length D.c2, .slice D.A3 S.h.length D.c3] u)) := by
  have hb := (Below.refl w.heap.size w).alloc (Nat.le_refl _) (.cells #[.int .i64 s.sq, .int .i64 s.ep, .int .i64 s.rd, .int .i64 s.ls] t)
  have k := SAt.start u (h.up hb)
  have e : (w.alloc (.cells #[.int .i64 s.sq, .int .i64 s.ep, .int .i64 s.rd, .int .i64 s.ls] t)).heap.size = w.heap.size + 1 := by simp
  rw [e] at k
  refine ⟨⟨k.s8, k.sr, k.off, hb.trans (k.bel.mono (by rw [e]; omega)), by omega⟩, by simp [go_sem], by simp [go_sem], by simp [go_sem], by simp [go_sem], by simp; omega⟩
theorem YB.all (h : YB w p q s S D W) : (W.cell? ⟨p, 0, none⟩ = some (.int .i64 s.sq) ∧ W.cell? ⟨p, 1, none⟩ = some (.int .i64 s.ep) ∧ W.cell? ⟨p, 2, none⟩ = some (.int .i64 s.rd) ∧ W.cell? ⟨p, 3, none⟩ = some (.int .i64 s.ls) ∧ p < W.heap.size) ∧ (W.cell? ⟨q, 0, none⟩ = some (.bool S.lv) ∧ W.cell? ⟨q, 1, none⟩ = some (.int .i64 S.lo) ∧ W.cell? ⟨q, 2, none⟩ = some (.int .i64 S.hi) ∧ W.cell? ⟨q, 3, none⟩ = some (.slice D.A S.cs.length D.c) ∧ W.cell? ⟨q, 4, none⟩ = some (.int .i64 S.hd) ∧ W.cell? ⟨q, 5, none⟩ = some (.int .i64 S.sz) ∧ W.cell? ⟨q, 6, none⟩ = some (.slice D.A2 S.l.length D.c2) ∧ W.cell? ⟨q, 7, none⟩ = some (.slice D.A3 S.h.length D.c3) ∧ q < W.heap.size) := ⟨⟨h.c0, h.c1, h.c2, h.c3, h.lt⟩, h.sa.s8.facts⟩
end

end Go.Proofs.Ytijpflljopckiaa
namespace Go.Proofs.Ytijpflljopckiaa
open Go.RowKit
set_option linter.unusedVariables false

/-- .. and a box of a result. -/
structure YC (w : World) (p q r : Nat) (s : St) (S : Sh) (D : Sx) (W : World) : Prop where
  yb : YB w p q s S D W
  r0 : W.cell? ⟨r, 0, none⟩ = some (.int .i64 0)
  r1 : W.cell? ⟨r, 1, none⟩ = some (.int .i64 0)
  r2 : W.cell? ⟨r, 2, none⟩ = some (.int .i64 0)
  r3 : W.cell? ⟨r, 3, none⟩ = some (.int .i64 0)
  fr : ∀ o, W.frozen? ⟨r, o, none⟩ = false
  lt : r < W.heap.size
  old : w.heap.size ≤ r
section
variable {w W W' : World} {p q r : Nat} {s : St} {S : Sh} {D : Sx}
theorem YC.below (h : YC w p q r s S D W) (hb : Below W.heap.size W W') : YC w p q r s S D W' :=
  ⟨h.yb.below hb, (hb.cell (p := ⟨r, 0, none⟩) h.lt).trans h.r0, (hb.cell (p := ⟨r, 1, none⟩) h.lt).trans h.r1, (hb.cell (p := ⟨r, 2, none⟩) h.lt).trans h.r2, (hb.cell (p := ⟨r, 3, none⟩) h.lt).trans h.r3, fun o => (hb.frozen (p := ⟨r, o, none⟩) h.lt).trans (h.fr o), Nat.lt_of_lt_of_le h.lt hb.size, h.old⟩
theorem YC.start (s : St) (h : SR w w.heap.size S D) (t u : TypeId) : YC w w.heap.size (w.heap.size + 1) (w.heap.size + 1 + 1) s S D (((w.alloc (.cells #[.int .i64 s.sq, .int .i64 s.ep, .int .i64 s.rd, .int .i64 s.ls] t)).alloc (.cells #[.bool S.lv, .int .i64 S.lo, .int .i64 S.hi, .slice D.A S.cs.length D.c, .int .i64 S.hd, .int .i64 S.sz, .slice D.A2 S.l.length D.c2, .slice D.A3 S.h.length D.c3] u)).alloc (.cells #[.int .i64 0, .int .i64 0, .int .i64 0, .int .i64 0] t)) := by
  have k := (YB.start s h t u)
  exact ⟨k.below ((Below.refl _ _).alloc (Nat.le_refl _) _), by simp [go_sem], by simp [go_sem], by simp [go_sem], by simp [go_sem], fun o => by simp [go_sem], by simp, by omega⟩
theorem YC.all (h : YC w p q r s S D W) : ((W.cell? ⟨p, 0, none⟩ = some (.int .i64 s.sq) ∧ W.cell? ⟨p, 1, none⟩ = some (.int .i64 s.ep) ∧ W.cell? ⟨p, 2, none⟩ = some (.int .i64 s.rd) ∧ W.cell? ⟨p, 3, none⟩ = some (.int .i64 s.ls) ∧ p < W.heap.size) ∧ (W.cell? ⟨q, 0, none⟩ = some (.bool S.lv) ∧ W.cell? ⟨q, 1, none⟩ = some (.int .i64 S.lo) ∧ W.cell? ⟨q, 2, none⟩ = some (.int .i64 S.hi) ∧ W.cell? ⟨q, 3, none⟩ = some (.slice D.A S.cs.length D.c) ∧ W.cell? ⟨q, 4, none⟩ = some (.int .i64 S.hd) ∧ W.cell? ⟨q, 5, none⟩ = some (.int .i64 S.sz) ∧ W.cell? ⟨q, 6, none⟩ = some (.slice D.A2 S.l.length D.c2) ∧ W.cell? ⟨q, 7, none⟩ = some (.slice D.A3 S.h.length D.c3) ∧ q < W.heap.size)) ∧ W.cell? ⟨r, 0, none⟩ = some (.int .i64 0) ∧ W.cell? ⟨r, 1, none⟩ = some (.int .i64 0) ∧ W.cell? ⟨r, 2, none⟩ = some (.int .i64 0) ∧ W.cell? ⟨r, 3, none⟩ = some (.int .i64 0) ∧ r < W.heap.size ∧ W.frozen? ⟨r, 0, none⟩ = false ∧ W.frozen? ⟨r, 1, none⟩ = false ∧ W.frozen? ⟨r, 2, none⟩ = false ∧ W.frozen? ⟨r, 3, none⟩ = false := ⟨h.yb.all, h.r0, h.r1, h.r2, h.r3, h.lt, h.fr 0, h.fr 1, h.fr 2, h.fr 3⟩
theorem YC.out (h : YC w p q r s S D W) (a b c d : Value) : Below w.heap.size w ((((W.setCell ⟨r, 0, none⟩ a).setCell ⟨r, 1, none⟩ b).setCell ⟨r, 2, none⟩ c).setCell ⟨r, 3, none⟩ d) := below4 h.yb.sa.bel h.old a b c d
end

end Go.Proofs.Ytijpflljopckiaa
namespace Go.Proofs.Ytijpflljopckiaa
open Go.RowKit
set_option linter.unusedVariables false

/-- Block r holds a stripe. -/
def YT (W : World) (r : Nat) (T : St) : Prop := (W.cell? ⟨r, 0, none⟩ = some (.int .i64 T.sq) ∧ W.cell? ⟨r, 1, none⟩ = some (.int .i64 T.ep) ∧ W.cell? ⟨r, 2, none⟩ = some (.int .i64 T.rd) ∧ W.cell? ⟨r, 3, none⟩ = some (.int .i64 T.ls)) ∧ r < W.heap.size
theorem YT.up {W W' : World} {r : Nat} {T : St} (h : YT W r T) (hb : Below W.heap.size W W') : YT W' r T :=
  ⟨⟨(hb.cell (p := ⟨r, 0, none⟩) h.2).trans h.1.1, (hb.cell (p := ⟨r, 1, none⟩) h.2).trans h.1.2.1, (hb.cell (p := ⟨r, 2, none⟩) h.2).trans h.1.2.2.1, (hb.cell (p := ⟨r, 3, none⟩) h.2).trans h.1.2.2.2⟩, Nat.lt_of_lt_of_le h.2 hb.size⟩
theorem YT.start (w : World) (T : St) (t : TypeId) : YT (w.alloc (.cells #[.int .i64 T.sq, .int .i64 T.ep, .int .i64 T.rd, .int .i64 T.ls] t)) w.heap.size T :=
  ⟨⟨by simp [go_sem], by simp [go_sem], by simp [go_sem], by simp [go_sem]⟩, by simp⟩
end Go.Proofs.Ytijpflljopckiaa
namespace Go.Proofs.Ytijpflljopckiaa
open Go.RowKit
set_option linter.unusedVariables false

/-- What region 1 of Nack reads. -/
abbrev NkK (p q b : Nat) (S : Sh) (D : Sx) (H : Hn) (lim : Int) (W : World) : Prop := K8 p S D W ∧ W.cell? ⟨q, 0, none⟩ = some (.int .i64 H.id) ∧ W.cell? ⟨q, 1, none⟩ = some (.int .i64 H.gn) ∧ W.cell? ⟨q, 2, none⟩ = some (.int .i64 H.rt) ∧ W.cell? ⟨q, 3, none⟩ = some (.int .i64 H.ht) ∧ W.cell? ⟨b, 0, none⟩ = some (.int .i64 lim)
theorem NkK.mk {p q b : Nat} {S : Sh} {D : Sx} {H : Hn} {lim : Int} {W : World} (h : K8 p S D W) (k : H4 W q H) (c : W.cell? ⟨b, 0, none⟩ = some (.int .i64 lim)) : NkK p q b S D H lim W := ⟨h, k.1, k.2.1, k.2.2.1, k.2.2.2.1, c⟩
end Go.Proofs.Ytijpflljopckiaa
namespace Go.Proofs.Ytijpflljopckiaa
open Go.RowKit
set_option linter.unusedVariables false

/-- The shard, the boxes of the epoch and the limit, the result box. -/
structure TqAt (w : World) (p b1 b2 r : Nat) (S : Sh) (D : Sx) (ep lim : Int) (W : World) : Prop where
  sa : SAt w p S D W
  cap : CapAt b1 b2 ep lim W
  rs : SB8 W r zS zX
  ne : p < b1 ∧ b1 < b2 ∧ b2 < r
abbrev TqK (p b1 b2 : Nat) (S : Sh) (D : Sx) (ep lim : Int) (W : World) : Prop := K8 p S D W ∧ W.cell? ⟨b1, 0, none⟩ = some (.int .i64 ep) ∧ W.cell? ⟨b2, 0, none⟩ = some (.int .i64 lim)
section
variable {w W W' : World} {p b1 b2 r : Nat} {S : Sh} {D : Sx} {ep lim : Int}
theorem TqAt.below (h : TqAt w p b1 b2 r S D ep lim W) (hb : Below W.heap.size W W') : TqAt w p b1 b2 r S D ep lim W' := ⟨h.sa.below hb, h.cap.below hb, h.rs.up hb, h.ne⟩
theorem TqAt.alloc (h : TqAt w p b1 b2 r S D ep lim W) (o : Obj) : TqAt w p b1 b2 r S D ep lim (W.alloc o) := h.below ((Below.refl _ _).alloc (Nat.le_refl _) o)
theorem TqAt.drew (h : TqAt w p b1 b2 r S D ep lim W) : TqAt w p b1 b2 r S D ep lim W.drew := h.below ((Below.refl _ _).drew)
theorem TqAt.k (h : TqAt w p b1 b2 r S D ep lim W) : TqK p b1 b2 S D ep lim W := ⟨h.sa.k8, h.cap.1, h.cap.2.1⟩
theorem TqAt.start (w : World) (S : Sh) (D : Sx) (ep lim : Int) (t u : TypeId) (hs : SR w w.heap.size S D) : TqAt w w.heap.size (w.heap.size + 1) (w.heap.size + 1 + 1) (w.heap.size + 1 + 1 + 1) S D ep lim ((((w.alloc (.cells #[.bool S.lv, .int .i64 S.lo, .int .i64 S.hi, .slice D.A S.cs.length D.c, .int .i64 S.hd, .int .i64 S.sz, .slice D.A2 S.l.length D.c2, .slice D.A3 S.h.length D.c3] t)).alloc (.cells #[.int .i64 ep] u)).alloc (.cells #[.int .i64 lim] u)).alloc (.cells #[.bool false, .int .i64 0, .int .i64 0, .slice none 0 0, .int .i64 0, .int .i64 0, .slice none 0 0, .slice none 0 0] t)) := by
  have h := SB8.zero (((w.alloc (.cells #[.bool S.lv, .int .i64 S.lo, .int .i64 S.hi, .slice D.A S.cs.length D.c, .int .i64 S.hd, .int .i64 S.sz, .slice D.A2 S.l.length D.c2, .slice D.A3 S.h.length D.c3] t)).alloc (.cells #[.int .i64 ep] u)).alloc (.cells #[.int .i64 lim] u)) t
  rw [show (((w.alloc (.cells #[.bool S.lv, .int .i64 S.lo, .int .i64 S.hi, .slice D.A S.cs.length D.c, .int .i64 S.hd, .int .i64 S.sz, .slice D.A2 S.l.length D.c2, .slice D.A3 S.h.length D.c3] t)).alloc (.cells #[.int .i64 ep] u)).alloc (.cells #[.int .i64 lim] u)).heap.size = w.heap.size + 1 + 1 + 1 by simp] at h
  exact ⟨(((SAt.start t hs).alloc _).alloc _).alloc _, ⟨by simp [go_sem, World.cell?_alloc_past], by simp [go_sem, World.cell?_alloc_past], by simp, by simp⟩, h, by omega, by omega, by omega⟩
end
end Go.Proofs.Ytijpflljopckiaa
