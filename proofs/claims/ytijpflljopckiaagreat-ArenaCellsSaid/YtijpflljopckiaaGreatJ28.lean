/- What is proved here: stripe.Begin, stripe.End, ref11.End by contracts; awake of shardqueuelaw11 returns true; boxes of stripes; shard.Nack by a contract; shard.Take by a contract; shard.Take of a valid live shard. -/
import Derived.Test.YtijpflljopckiaaGreatJ27
import Derived.Deep.QuietTactic
import Derived.BigQuiet
import Derived.Test.YtijpflljopckiaaGreatJ23
import Derived.Test.YtijpflljopckiaaGreatJ25
import Derived.ArgAppend
import Derived.Test.YtijpflljopckiaaGreatJ20
import Derived.Test.YtijpflljopckiaaGreatJ06
import Derived.Test.YtijpflljopckiaaGreatJ21
import Derived.Test.YtijpflljopckiaaGreatJ24
namespace Go.Proofs.YtijpflljopckiaaGreat
open Go.RowKit
set_option linter.unusedVariables false

/-- .. and a box of a result. -/
structure YC (w : World) (p q r : Nat) (s : St) (S : Sh) (D : Sx) (W : World) : Prop where
  yb : YB w p q s S D W
  r0 : W.cell? ⟨r, 0, none⟩ = some (.int .i64 0)
  r1 : W.cell? ⟨r, 1, none⟩ = some (.int .i64 0)
  r2 : W.cell? ⟨r, 2, none⟩ = some (.int .i64 0)
  r3 : W.cell? ⟨r, 3, none⟩ = some (.int .i64 0)
  fr : ∀ o, W.frozen? ⟨r, o, none⟩ = false
  lt : r < W.heap.size
  old : w.heap.size ≤ r
section
variable {w W W' : World} {p q r : Nat} {s : St} {S : Sh} {D : Sx}
theorem YC.below (h : YC w p q r s S D W) (hb : Below W.heap.size W W') : YC w p q r s S D W' :=
  ⟨h.yb.below hb, (hb.cell (p := ⟨r, 0, none⟩) h.lt).trans h.r0, (hb.cell (p := ⟨r, 1, none⟩) h.lt).trans h.r1, (hb.cell (p := ⟨r, 2, none⟩) h.lt).trans h.r2, (hb.cell (p := ⟨r, 3, none⟩) h.lt).trans h.r3, fun o => (hb.frozen (p := ⟨r, o, none⟩) h.lt).trans (h.fr o), Nat.lt_of_lt_of_le h.lt hb.size, h.old⟩
theorem YC.start (s : St) (h : SR w w.heap.size S D) (t u : TypeId) : YC w w.heap.size (w.heap.size + 1) (w.heap.size + 1 + 1) s S D (((w.alloc (.cells #[.int .i64 s.sq, .int .i64 s.ep, .int .i64 s.rd, .int .i64 s.ls] t)).alloc (.cells #[.bool S.lv, .int .i64 S.lo, .int .i64 S.hi, .slice D.A S.cs.length D.c, .int .i64 S.hd, .int .i64 S.sz, .slice D.A2 S.l.length D.c2, .slice D.A3 S.h.length D.c3] u)).alloc (.cells #[.int .i64 0, .int .i64 0, .int .i64 0, .int .i64 0] t)) := by
  have k := (YB.start s h t u)
  exact ⟨k.below ((Below.refl _ _).alloc (Nat.le_refl _) _), by simp [go_sem], by simp [go_sem], by simp [go_sem], by simp [go_sem], fun o => by simp [go_sem], by simp, by omega⟩
theorem YC.all (h : YC w p q r s S D W) : ((W.cell? ⟨p, 0, none⟩ = some (.int .i64 s.sq) ∧ W.cell? ⟨p, 1, none⟩ = some (.int .i64 s.ep) ∧ W.cell? ⟨p, 2, none⟩ = some (.int .i64 s.rd) ∧ W.cell? ⟨p, 3, none⟩ = some (.int .i64 s.ls) ∧ p < W.heap.size) ∧ (W.cell? ⟨q, 0, none⟩ = some (.bool S.lv) ∧ W.cell? ⟨q, 1, none⟩ = some (.int .i64 S.lo) ∧ W.cell? ⟨q, 2, none⟩ = some (.int .i64 S.hi) ∧ W.cell? ⟨q, 3, none⟩ = some (.slice D.A S.cs.length D.c) ∧ W.cell? ⟨q, 4, none⟩ = some (.int .i64 S.hd) ∧ W.cell? ⟨q, 5, none⟩ = some (.int .i64 S.sz) ∧ W.cell? ⟨q, 6, none⟩ = some (.slice D.A2 S.l.length D.c2) ∧ W.cell? ⟨q, 7, none⟩ = some (.slice D.A3 S.h.length D.c3) ∧ q < W.heap.size)) ∧ W.cell? ⟨r, 0, none⟩ = some (.int .i64 0) ∧ W.cell? ⟨r, 1, none⟩ = some (.int .i64 0) ∧ W.cell? ⟨r, 2, none⟩ = some (.int .i64 0) ∧ W.cell? ⟨r, 3, none⟩ = some (.int .i64 0) ∧ r < W.heap.size ∧ W.frozen? ⟨r, 0, none⟩ = false ∧ W.frozen? ⟨r, 1, none⟩ = false ∧ W.frozen? ⟨r, 2, none⟩ = false ∧ W.frozen? ⟨r, 3, none⟩ = false := ⟨h.yb.all, h.r0, h.r1, h.r2, h.r3, h.lt, h.fr 0, h.fr 1, h.fr 2, h.fr 3⟩
theorem YC.out (h : YC w p q r s S D W) (a b c d : Value) : Below w.heap.size w ((((W.setCell ⟨r, 0, none⟩ a).setCell ⟨r, 1, none⟩ b).setCell ⟨r, 2, none⟩ c).setCell ⟨r, 3, none⟩ d) := below4 h.yb.sa.bel h.old a b c d
end

end Go.Proofs.YtijpflljopckiaaGreat
namespace Go.Proofs.YtijpflljopckiaaGreat
open Go.RowKit
set_option linter.unusedVariables false

/-- Block r holds a stripe. -/
def YT (W : World) (r : Nat) (T : St) : Prop := (W.cell? ⟨r, 0, none⟩ = some (.int .i64 T.sq) ∧ W.cell? ⟨r, 1, none⟩ = some (.int .i64 T.ep) ∧ W.cell? ⟨r, 2, none⟩ = some (.int .i64 T.rd) ∧ W.cell? ⟨r, 3, none⟩ = some (.int .i64 T.ls)) ∧ r < W.heap.size
theorem YT.up {W W' : World} {r : Nat} {T : St} (h : YT W r T) (hb : Below W.heap.size W W') : YT W' r T :=
  ⟨⟨(hb.cell (p := ⟨r, 0, none⟩) h.2).trans h.1.1, (hb.cell (p := ⟨r, 1, none⟩) h.2).trans h.1.2.1, (hb.cell (p := ⟨r, 2, none⟩) h.2).trans h.1.2.2.1, (hb.cell (p := ⟨r, 3, none⟩) h.2).trans h.1.2.2.2⟩, Nat.lt_of_lt_of_le h.2 hb.size⟩
theorem YT.start (w : World) (T : St) (t : TypeId) : YT (w.alloc (.cells #[.int .i64 T.sq, .int .i64 T.ep, .int .i64 T.rd, .int .i64 T.ls] t)) w.heap.size T :=
  ⟨⟨by simp [go_sem], by simp [go_sem], by simp [go_sem], by simp [go_sem]⟩, by simp⟩
end Go.Proofs.YtijpflljopckiaaGreat
namespace Go.Proofs.YtijpflljopckiaaGreat
open Go.RowKit
set_option linter.unusedVariables false

/-- What region 1 of Nack reads. -/
abbrev NkK (p q b : Nat) (S : Sh) (D : Sx) (H : Hn) (lim : Int) (W : World) : Prop := K8 p S D W ∧ W.cell? ⟨q, 0, none⟩ = some (.int .i64 H.id) ∧ W.cell? ⟨q, 1, none⟩ = some (.int .i64 H.gn) ∧ W.cell? ⟨q, 2, none⟩ = some (.int .i64 H.rt) ∧ W.cell? ⟨q, 3, none⟩ = some (.int .i64 H.ht) ∧ W.cell? ⟨b, 0, none⟩ = some (.int .i64 lim)
theorem NkK.mk {p q b : Nat} {S : Sh} {D : Sx} {H : Hn} {lim : Int} {W : World} (h : K8 p S D W) (k : H4 W q H) (c : W.cell? ⟨b, 0, none⟩ = some (.int .i64 lim)) : NkK p q b S D H lim W := ⟨h, k.1, k.2.1, k.2.2.1, k.2.2.2.1, c⟩
end Go.Proofs.YtijpflljopckiaaGreat
namespace Go.Proofs.YtijpflljopckiaaGreat
open Go.RowKit
set_option linter.unusedVariables false

/-- The shard, the boxes of the epoch and the limit, the result box. -/
structure TqAt (w : World) (p b1 b2 r : Nat) (S : Sh) (D : Sx) (ep lim : Int) (W : World) : Prop where
  sa : SAt w p S D W
  cap : CapAt b1 b2 ep lim W
  rs : SB8 W r zS zX
  ne : p < b1 ∧ b1 < b2 ∧ b2 < r
abbrev TqK (p b1 b2 : Nat) (S : Sh) (D : Sx) (ep lim : Int) (W : World) : Prop := K8 p S D W ∧ W.cell? ⟨b1, 0, none⟩ = some (.int .i64 ep) ∧ W.cell? ⟨b2, 0, none⟩ = some (.int .i64 lim)
section
variable {w W W' : World} {p b1 b2 r : Nat} {S : Sh} {D : Sx} {ep lim : Int}
theorem TqAt.below (h : TqAt w p b1 b2 r S D ep lim W) (hb : Below W.heap.size W W') : TqAt w p b1 b2 r S D ep lim W' := ⟨h.sa.below hb, h.cap.below hb, h.rs.up hb, h.ne⟩
theorem TqAt.alloc (h : TqAt w p b1 b2 r S D ep lim W) (o : Obj) : TqAt w p b1 b2 r S D ep lim (W.alloc o) := h.below ((Below.refl _ _).alloc (Nat.le_refl _) o)
theorem TqAt.drew (h : TqAt w p b1 b2 r S D ep lim W) : TqAt w p b1 b2 r S D ep lim W.drew := h.below ((Below.refl _ _).drew)
theorem TqAt.k (h : TqAt w p b1 b2 r S D ep lim W) : TqK p b1 b2 S D ep lim W := ⟨h.sa.k8, h.cap.1, h.cap.2.1⟩
theorem TqAt.start (w : World) (S : Sh) (D : Sx) (ep lim : Int) (t u : TypeId) (hs : SR w w.heap.size S D) : TqAt w w.heap.size (w.heap.size + 1) (w.heap.size + 1 + 1) (w.heap.size + 1 + 1 + 1) S D ep lim ((((w.alloc (.cells #[.bool S.lv, .int .i64 S.lo, .int .i64 S.hi, .slice D.A S.cs.length D.c, .int .i64 S.hd, .int .i64 S.sz, .slice D.A2 S.l.length D.c2, .slice D.A3 S.h.length D.c3] t)).alloc (.cells #[.int .i64 ep] u)).alloc (.cells #[.int .i64 lim] u)).alloc (.cells #[.bool false, .int .i64 0, .int .i64 0, .slice none 0 0, .int .i64 0, .int .i64 0, .slice none 0 0, .slice none 0 0] t)) := by
  have h := SB8.zero (((w.alloc (.cells #[.bool S.lv, .int .i64 S.lo, .int .i64 S.hi, .slice D.A S.cs.length D.c, .int .i64 S.hd, .int .i64 S.sz, .slice D.A2 S.l.length D.c2, .slice D.A3 S.h.length D.c3] t)).alloc (.cells #[.int .i64 ep] u)).alloc (.cells #[.int .i64 lim] u)) t
  rw [show (((w.alloc (.cells #[.bool S.lv, .int .i64 S.lo, .int .i64 S.hi, .slice D.A S.cs.length D.c, .int .i64 S.hd, .int .i64 S.sz, .slice D.A2 S.l.length D.c2, .slice D.A3 S.h.length D.c3] t)).alloc (.cells #[.int .i64 ep] u)).alloc (.cells #[.int .i64 lim] u)).heap.size = w.heap.size + 1 + 1 + 1 by simp] at h
  exact ⟨(((SAt.start t hs).alloc _).alloc _).alloc _, ⟨by simp [go_sem, World.cell?_alloc_past], by simp [go_sem, World.cell?_alloc_past], by simp, by simp⟩, h, by omega, by omega, by omega⟩
end
end Go.Proofs.YtijpflljopckiaaGreat
namespace Go.Proofs.YtijpflljopckiaaGreat
open Go.RowKit
set_option linter.unusedVariables false

/-- The work of Take: the shard, the result box, the messages that are leased, the leases. -/
structure TkAt (w : World) (p r B : Nat) (S : Sh) (D : Sx) (A0 : Option Addr) (c0 : Nat) (L : List Msg) (lv : Value) (K : List Le) (W : World) : Prop where
  sa : SAt w p S D W
  rs : SB8 W r zS zX
  l0 : Ls W B (.slice A0 L.length c0) L
  o0 : OffB p L.length A0
  own : W.ownsRow B 115 8 lv K.length (ecs K)
  dj : ∀ q, lv.ownBlock = some q → SOff S D q
  dr : D.nw (r + 1)
  ne : p < r ∧ r < B ∧ B ≤ W.heap.size
section
variable {w W W' : World} {p r B c0 : Nat} {S : Sh} {D : Sx} {A0 : Option Addr} {L : List Msg} {K K' : List Le} {lv : Value}
theorem TkAt.below (h : TkAt w p r B S D A0 c0 L lv K W) (hb : Below W.heap.size W W') : TkAt w p r B S D A0 c0 L lv K W' :=
  ⟨h.sa.below hb, h.rs.up hb, h.l0.below (hb.mono h.ne.2.2), h.o0, own_below h.own hb, h.dj, h.dr, h.ne.1, h.ne.2.1, Nat.le_trans h.ne.2.2 hb.size⟩
/-- Stores into a box behind all lists. -/
theorem TkAt.box (h : TkAt w p r B S D A0 c0 L lv K W) {q : Addr} (hq : B ≤ q.block) (hrow : ∀ x, lv.ownBlock = some x → x ≠ q.block) (ho : SOff S D q.block) (v : Value) : TkAt w p r B S D A0 c0 L lv K (W.setCell q v) := by
  have hne := h.ne
  refine ⟨h.sa.other (by omega) ho (by have := h.sa.old; omega) v, h.rs.other (by omega) v, h.l0.setCell hq v, h.o0, ?_, h.dj, h.dr, hne.1, hne.2.1, by simpa using hne.2.2⟩
  refine ⟨h.own.1, h.own.2.imp_right fun ⟨g, cap, cur, hv, hg, hh, rr⟩ => ⟨g, cap, cur, hv, hg, ?_, rr⟩⟩
  rw [← hh]
  exact Below.heap_setCell W q v g (fun e => hrow g (by rw [hv]; rfl) e)
/-- A lease more. -/
theorem TkAt.app {lv' : Value} (h : TkAt w p r B S D A0 c0 L lv K W) (ho : W'.ownsRow B 115 8 lv' K'.length (ecs K')) (hg : W.grownBy W' lv.ownBlock) (hw : ∀ q, lv'.ownBlock = some q → lv.ownBlock = some q ∨ W.heap.size ≤ q) : TkAt w p r B S D A0 c0 L lv' K' W' := by
  have hne := h.ne
  have hlt : ∀ q, lv.ownBlock = some q → B ≤ q := fun q e => (h.own.lt q e).1
  refine ⟨h.sa.grown hg (fun q e => ⟨h.dj q e, by have := hlt q e; omega⟩), h.rs.grown hg (fun q e => by have := hlt q e; omega), h.l0.grownR hne.2.2 hg (fun q e => ?_), h.o0, ho, fun q e => ?_, h.dr, hne.1, hne.2.1, Nat.le_trans hne.2.2 hg.size⟩
  · exact rd_off h.l0.rd (hlt q e)
  · rcases hw q e with e' | e'
    · exact h.dj q e'
    · exact h.sa.sr.offs e'
end
theorem Ls.setsP {W : World} {p B n c : Nat} {A : Option Addr} {l : List Msg} (ho : OffB p n A) : ∀ (vs : List Value) (m : Nat) (W : World), Ls W B (.slice A n c) l → Ls (W.setCells p m vs) B (.slice A n c) l
  | [], _, _, h => h
  | v :: r, m, W, h => Ls.setsP (W := W) ho r (m + 1) _ (h.offp (p := ⟨p, m, none⟩) ho v)
end Go.Proofs.YtijpflljopckiaaGreat
