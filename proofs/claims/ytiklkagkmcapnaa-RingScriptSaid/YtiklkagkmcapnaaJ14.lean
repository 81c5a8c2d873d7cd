/- What is proved here: (plain) what keeps 'nothing old is turned' along a walk; a ring that a statement holds; (plain) the source of numbers that the statements' base reads from: what lies at its block, and how it is kept; (plain) a slice that reads as a list of numbers. -/
import Derived.Test.YtiklkagkmcapnaaJ13
import Derived.BigFrame
import Derived.Test.YtiklkagkmcapnaaJ11
import Derived.Test.YtiklkagkmcapnaaJ12
import Derived.Test.YtiklkagkmcapnaaJ01
import Derived.Deep.AppendLies
import Derived.Maps.AppendAt
namespace Go.Proofs.Ytiklkagkmcapnaa
open Go.RowKit
set_option linter.unusedVariables false

theorem bal {a w : World} (h : Below a.heap.size a w) (o : Obj) : Below a.heap.size a (w.alloc o) := h.alloc h.size o
theorem bst {a w : World} (h : Below a.heap.size a w) {p : Addr} (hp : a.heap.size ≤ p.block) (v : Value) : Below a.heap.size a (w.setCell p v) := h.setCell hp v
theorem bdr {a w : World} (h : Below a.heap.size a w) : Below a.heap.size a w.drew := h.drew
theorem btr {a b c : World} (h : Below a.heap.size a b) (k : Below b.heap.size b c) : Below a.heap.size a c := h.trans (k.mono h.size)
theorem ball {B : Nat} {a w : World} (h : Below B a w) (hB : B ≤ a.heap.size) (o : Obj) : Below B a (w.alloc o) := h.alloc (Nat.le_trans hB h.size) o
theorem btrl {B : Nat} {a b c : World} (h : Below B a b) (hB : B ≤ b.heap.size) (k : Below b.heap.size b c) : Below B a c := h.trans (k.mono hB)

theorem nw_cut {lo : Nat} {A : Option Addr} (h : Nw lo A) (c k m : Nat) : Nw lo (if c = k then A else A.map (·.add m)) := by
  split
  · exact h
  · cases A with
    | none => exact nw_none
    | some a =>
      intro b e
      simp only [Option.map_some, Option.some.injEq] at e
      subst e
      have := h a rfl
      unfold Addr.add
      split <;> simpa using this

/-- New zero blocks of a ring and of a message behind a draw, the first or the second one of two. -/
theorem RB.zero1 (w : World) (t : TypeId) : RB (w.drew.alloc (.cells #[.slice none 0 0, .int .i64 0, .int .i64 0] t)) w.heap.size none 0 0 0 0 := RB.fresh w.drew none 0 0 0 0 t
theorem RB.zero2 (w : World) (o : Obj) (t : TypeId) : RB ((w.drew.alloc o).alloc (.cells #[.slice none 0 0, .int .i64 0, .int .i64 0] t)) (w.heap.size + 1) none 0 0 0 0 := by
  have h := RB.fresh (w.drew.alloc o) none 0 0 0 0 t
  rw [show (w.drew.alloc o).heap.size = w.heap.size + 1 by simp] at h
  exact h
theorem MAt.zero1 (w : World) (t : TypeId) : MAt (w.drew.alloc (.cells #[.int .i64 0, .int .i64 0, .int .i64 0, .int .i64 0, .int .i64 0, .int .i64 0, .string ⟨#[]⟩] t)) w.heap.size zM.nth zM.bd := MAt.fresh (f := zM.nth) w.drew 0 0 0 0 0 0 ByteArray.empty t rfl rfl rfl rfl rfl rfl
theorem MAt.zero2 (w : World) (o : Obj) (t : TypeId) : MAt ((w.drew.alloc o).alloc (.cells #[.int .i64 0, .int .i64 0, .int .i64 0, .int .i64 0, .int .i64 0, .int .i64 0, .string ⟨#[]⟩] t)) (w.heap.size + 1) zM.nth zM.bd := by
  have h := MAt.fresh (f := zM.nth) (w.drew.alloc o) 0 0 0 0 0 0 ByteArray.empty t rfl rfl rfl rfl rfl rfl
  rw [show (w.drew.alloc o).heap.size = w.heap.size + 1 by simp] at h
  exact h

/-- A ring and a message in new blocks, behind a call. -/
def ReN (wr : World) (A4 : Option Addr) (k c4 : Nat) (hd z : Int) (X : Msg) (l : List Msg) (W : World) (x m : Nat) : Prop :=
  Below wr.heap.size wr W ∧ RB W x A4 k c4 hd z ∧ MAt W m X.nth X.bd ∧ Ls W W.heap.size (.slice A4 k c4) l
theorem MAt.new (w : World) (X : Msg) (t : TypeId) : MAt (w.alloc (.cells X.cs t)) w.heap.size X.nth X.bd := MAt.fresh (f := X.nth) w X.id X.rt X.ep X.ct X.gn X.st X.bd t rfl rfl rfl rfl rfl rfl
section
variable {wr w4 : World} {A4 : Option Addr} {k c4 lo x m : Nat} {hd z : Int} {X : Msg} {l : List Msg}
theorem re1 (hb : Below wr.heap.size wr w4) (hl : Ls w4 w4.heap.size (.slice A4 k c4) l) (t u : TypeId) :
    ReN wr A4 k c4 hd z X l ((w4.alloc (.cells #[.slice A4 k c4, .int .i64 hd, .int .i64 z] t)).alloc (.cells #[.int .i64 X.id, .int .i64 X.rt, .int .i64 X.ep, .int .i64 X.ct, .int .i64 X.gn, .int .i64 X.st, .string X.bd] u)) w4.heap.size (w4.heap.size + 1) := by
  have h := MAt.new (w4.alloc (.cells #[.slice A4 k c4, .int .i64 hd, .int .i64 z] t)) X u
  rw [show (w4.alloc (.cells #[.slice A4 k c4, .int .i64 hd, .int .i64 z] t)).heap.size = w4.heap.size + 1 by simp] at h
  exact ⟨bal (bal hb _) _, (RB.fresh w4 A4 k c4 hd z t).alloc _, h, ((hl.alloc (Nat.le_refl _) _).alloc (by simp) _).more (by simp <;> omega)⟩
theorem re2 (hb : Below wr.heap.size wr w4) (hl : Ls w4 w4.heap.size (.slice A4 k c4) l) (t u : TypeId) :
    ReN wr A4 k c4 hd z X l ((w4.alloc (.cells #[.int .i64 X.id, .int .i64 X.rt, .int .i64 X.ep, .int .i64 X.ct, .int .i64 X.gn, .int .i64 X.st, .string X.bd] u)).alloc (.cells #[.slice A4 k c4, .int .i64 hd, .int .i64 z] t)) (w4.heap.size + 1) w4.heap.size := by
  have h := RB.fresh (w4.alloc (.cells X.cs u)) A4 k c4 hd z t
  rw [show (w4.alloc (.cells X.cs u)).heap.size = w4.heap.size + 1 by simp] at h
  exact ⟨bal (bal hb _) _, h, (MAt.new w4 X u).alloc _, ((hl.alloc (Nat.le_refl _) _).alloc (by simp) _).more (by simp <;> omega)⟩
theorem re3 (hb : Below wr.heap.size wr w4) (hl : Ls w4 w4.heap.size (.slice A4 k c4) l) (hnw : Nw lo A4) (hx : x < lo) (hr : wr.heap.size ≤ x) (hrb : RB w4 x none 0 0 0 0) (u : TypeId) :
    ReN wr A4 k c4 hd z X l ((((w4.setCell ⟨x, 0, none⟩ (.slice A4 k c4)).setCell ⟨x, 1, none⟩ (.int .i64 hd)).setCell ⟨x, 2, none⟩ (.int .i64 z)).alloc (.cells #[.int .i64 X.id, .int .i64 X.rt, .int .i64 X.ep, .int .i64 X.ct, .int .i64 X.gn, .int .i64 X.st, .string X.bd] u)) x w4.heap.size := by
  have e : (((w4.setCell ⟨x, 0, none⟩ (.slice A4 k c4)).setCell ⟨x, 1, none⟩ (.int .i64 hd)).setCell ⟨x, 2, none⟩ (.int .i64 z)).heap.size = w4.heap.size := by simp
  have h := MAt.new (((w4.setCell ⟨x, 0, none⟩ (.slice A4 k c4)).setCell ⟨x, 1, none⟩ (.int .i64 hd)).setCell ⟨x, 2, none⟩ (.int .i64 z)) X u
  rw [e] at h
  exact ⟨bal (bst (bst (bst hb (p := ⟨x, 0, none⟩) hr _) (p := ⟨x, 1, none⟩) hr _) (p := ⟨x, 2, none⟩) hr _) _, (hrb.all A4 k c4 hd z).alloc _, h, ((hl.off3 hnw hx _ _ _).alloc (by simp) _).more (by simp)⟩
theorem re4 (hb : Below wr.heap.size wr w4) (hl : Ls w4 w4.heap.size (.slice A4 k c4) l) (hnw : Nw lo A4) (hx : x < lo) (hr : wr.heap.size ≤ x) (hrb : RB w4 x none 0 0 0 0) (hm : m < lo) (hrm : wr.heap.size ≤ m) (hma : MAt w4 m zM.nth zM.bd) (hne : x ≠ m) :
    ReN wr A4 k c4 hd z X l ((((((((((w4.setCell ⟨x, 0, none⟩ (.slice A4 k c4)).setCell ⟨x, 1, none⟩ (.int .i64 hd)).setCell ⟨x, 2, none⟩ (.int .i64 z)).setCell ⟨m, 0, none⟩ (.int .i64 X.id)).setCell ⟨m, 1, none⟩ (.int .i64 X.rt)).setCell ⟨m, 2, none⟩ (.int .i64 X.ep)).setCell ⟨m, 3, none⟩ (.int .i64 X.ct)).setCell ⟨m, 4, none⟩ (.int .i64 X.gn)).setCell ⟨m, 5, none⟩ (.int .i64 X.st)).setCell ⟨m, 6, none⟩ (.string X.bd)) x m := by
  have h1 : Below wr.heap.size wr (((w4.setCell ⟨x, 0, none⟩ (.slice A4 k c4)).setCell ⟨x, 1, none⟩ (.int .i64 hd)).setCell ⟨x, 2, none⟩ (.int .i64 z)) := bst (bst (bst hb (p := ⟨x, 0, none⟩) hr _) (p := ⟨x, 1, none⟩) hr _) (p := ⟨x, 2, none⟩) hr _
  exact ⟨below7 h1 hrm _ _ _ _ _ _ _, (hrb.all A4 k c4 hd z).lit7 (fun e => hne e.symm) X, (hma.set3 hne _ _ _).own7 X, ((hl.off3 hnw hx _ _ _).off7 hnw hm X).more (by simp)⟩
theorem re5 (hb : Below wr.heap.size wr w4) (hl : Ls w4 w4.heap.size (.slice A4 k c4) l) (hnw : Nw lo A4) (hm : m < lo) (hrm : wr.heap.size ≤ m) (hma : MAt w4 m zM.nth zM.bd) (t : TypeId) :
    ReN wr A4 k c4 hd z X l ((((((((w4.setCell ⟨m, 0, none⟩ (.int .i64 X.id)).setCell ⟨m, 1, none⟩ (.int .i64 X.rt)).setCell ⟨m, 2, none⟩ (.int .i64 X.ep)).setCell ⟨m, 3, none⟩ (.int .i64 X.ct)).setCell ⟨m, 4, none⟩ (.int .i64 X.gn)).setCell ⟨m, 5, none⟩ (.int .i64 X.st)).setCell ⟨m, 6, none⟩ (.string X.bd)).alloc (.cells #[.slice A4 k c4, .int .i64 hd, .int .i64 z] t)) w4.heap.size m := by
  have e : (((((((w4.setCell ⟨m, 0, none⟩ (.int .i64 X.id)).setCell ⟨m, 1, none⟩ (.int .i64 X.rt)).setCell ⟨m, 2, none⟩ (.int .i64 X.ep)).setCell ⟨m, 3, none⟩ (.int .i64 X.ct)).setCell ⟨m, 4, none⟩ (.int .i64 X.gn)).setCell ⟨m, 5, none⟩ (.int .i64 X.st)).setCell ⟨m, 6, none⟩ (.string X.bd)).heap.size = w4.heap.size := by simp
  have h := RB.fresh (((((((w4.setCell ⟨m, 0, none⟩ (.int .i64 X.id)).setCell ⟨m, 1, none⟩ (.int .i64 X.rt)).setCell ⟨m, 2, none⟩ (.int .i64 X.ep)).setCell ⟨m, 3, none⟩ (.int .i64 X.ct)).setCell ⟨m, 4, none⟩ (.int .i64 X.gn)).setCell ⟨m, 5, none⟩ (.int .i64 X.st)).setCell ⟨m, 6, none⟩ (.string X.bd)) A4 k c4 hd z t
  rw [e] at h
  exact ⟨bal (below7 hb hrm _ _ _ _ _ _ _) _, h, (hma.own7 X).alloc _, ((hl.off7 hnw hm X).alloc (by simp) _).more (by simp)⟩
end

/-- 'append(own, read...)' behind a guard that says yes. -/
theorem wpList_append_rw {P : Program} (w : World) {ops : Array Oper} {rest : List Oper} {o : Oper} {a : Act} {Q : Exit → Act → World → Prop} (hw : Region.wanted o (yielded ops a.tmps) = true) (s x : Operand) (t : TypeId)
    (ho : o.op = .call { callee := .builtin .append, args := #[s, x], argTypes := #[t, t] })
    (base : Nat) (e : TypeId) (i : TypeInfo) (z : Value) (size bytes : Nat) (ht : P.underlying t = some (.slice e)) (hi : P.info? e = some i) (hz : i.zero = some z)
    (hsize : i.size = size) (hby : i.bytes = bytes) (hzs : z.cells.size = size) (hsz : 0 < size)
    (v : Value) (n : Nat) (xs : List Value) (hs : a.eval s = v) (hown : w.ownsRow base e size v n xs)
    (B : Nat) (A : Option Addr) (m c : Nat) (news : List Value) (hx : a.eval x = .slice A m c) (hr : Rd w B size A m news) (h1 : ∀ u ∈ news, u.oneCell' = true)
    (h63 : n + m ≤ maxLen) (hbytes : (n + m) * bytes ≤ 140737488355328) (hbase : base ≤ w.heap.size)
    (h : ∀ v' w', w'.ownsRow base e size v' (n + m) (xs ++ news) → w.grownBy w' v.ownBlock → (v'.ownBlock = v.ownBlock ∨ v'.ownBlock = some w.heap.size) → wpList P ops Q rest (a.put o.dst v') w') : wpList P ops Q (o :: rest) a w :=
  BigFrame.wpList_want hw fun _ hK => wp_append_rd w s x t ho base e i z size bytes ht hi hz hsize hby hzs hsz v n xs hs hown B A m c news hx hr h1 h63 hbytes hbase fun v' w' h2 h3 h4 => hK _ _ (h v' w' h2 h3 h4)

/-- A ring that a statement holds, and the list of its messages. -/
structure RvAt (w : World) (p : Nat) (A : Option Addr) (k c hd : Nat) (L : List Msg) (AL : Option Addr) (cL : Nat) (W : World) : Prop where
  rb : RB W p A k c hd L.length
  ls : Ls W W.heap.size (.slice A k c) (fil k hd L)
  la : Ls W W.heap.size (.slice AL L.length cL) L
  bel : Below w.heap.size w W
  old : w.heap.size ≤ p
theorem RvAt.below {w W W' : World} {p k c hd cL : Nat} {A AL : Option Addr} {L : List Msg} (h : RvAt w p A k c hd L AL cL W) (hb : Below W.heap.size W W') : RvAt w p A k c hd L AL cL W' :=
  ⟨h.rb.below hb h.rb.lt, h.ls.up hb, h.la.up hb, h.bel.trans (hb.mono h.bel.size), h.old⟩
/-- A result of Remove, seen from an earlier world. -/
def RMQ (w0 w : World) (cs : List Msg) (hd sz : Int) (X : Msg) (x : Int) (e : Ending) (w' : World) : Prop := ∃ A c, e = .returned (.tuple #[.agg #[.slice A cs.length c, .int .i64 hd, .int .i64 sz], X.v, .int .i64 x]) ∧ Nw w.heap.size A ∧ Ls w' w'.heap.size (.slice A cs.length c) cs ∧ Below w.heap.size w w' ∧ Below w0.heap.size w0 w'
theorem RMQ.of {w0 w : World} {cs : List Msg} {hd sz : Int} {X : Msg} {x : Int} {e : Ending} {w' : World} (h0 : Below w0.heap.size w0 w) (h : RMP w cs hd sz X x e w') : RMQ w0 w cs hd sz X x e w' := by
  obtain ⟨A, c, e, hn, hl, hb⟩ := h
  exact ⟨A, c, e, hn, hl, hb, btr h0 hb⟩
/-- A result that is a list of messages, seen from an earlier world. -/
def LsQ (w0 : World) (l : List Msg) (w : World) (e : Ending) (w' : World) : Prop := ∃ A c, e = .returned (.slice A l.length c) ∧ Nw w.heap.size A ∧ Ls w' w'.heap.size (.slice A l.length c) l ∧ Below w.heap.size w w' ∧ Below w0.heap.size w0 w'
theorem LsQ.of {w0 w : World} {l : List Msg} {e : Ending} {w' : World} (h0 : Below w0.heap.size w0 w) (h : LsP l w e w') : LsQ w0 l w e w' := by
  obtain ⟨v, e, hn, hl, hb⟩ := h
  obtain ⟨A, c, rfl, _, _⟩ := hl.form
  exact ⟨A, c, e, nwv_of hn, hl, hb, btr h0 hb⟩
end Go.Proofs.Ytiklkagkmcapnaa
namespace Go.Proofs.Ytiklkagkmcapnaa
open Go.RowKit
set_option linter.unusedVariables false

/-- A number of 64 bits as a cell. -/
def i64v (z : Int) : Value := .int .i64 z

/-- Block g, from B on, is a source: a list that lies below B, and a position in it. -/
def SrcAt (W : World) (B g : Nat) : Prop := B ≤ g ∧ g < W.heap.size ∧ ∃ (A : Option Addr) (n c k : Nat) (zs : List Int),
  k ≤ n ∧ n ≤ 4000 ∧ n ≤ c ∧ c ≤ maxLen ∧ W.cell? ⟨g, 0, none⟩ = some (.slice A n c) ∧ W.cell? ⟨g, 1, none⟩ = some (.int .i64 k) ∧ W.frozen? ⟨g, 1, none⟩ = false ∧ Rd W B 1 A n (zs.map i64v) ∧ ∀ z ∈ zs, -9223372036854775808 ≤ z ∧ z ≤ 9223372036854775807

section
variable {W W' : World} {B g h : Nat}
theorem SrcAt.keep (s : SrcAt W B g) (hs : W.heap.size ≤ W'.heap.size) (h0 : ∀ o, W'.cell? ⟨g, o, none⟩ = W.cell? ⟨g, o, none⟩) (h1 : ∀ o, W'.frozen? ⟨g, o, none⟩ = W.frozen? ⟨g, o, none⟩) (hk : ∀ p : Addr, p.block < B → W'.cell? p = W.cell? p) : SrcAt W' B g := by
  obtain ⟨hB, hg, A, n, c, k, zs, a1, a2, a3, a4, a5, a6, a7, a8, a9⟩ := s
  exact ⟨hB, by omega, A, n, c, k, zs, a1, a2, a3, a4, (h0 0).trans a5, (h0 1).trans a6, (h1 1).trans a7, a8.keep hk, a9⟩
theorem SrcAt.grown (s : SrcAt W B g) (hg : W.grownBy W' (some h)) (hne : h ≠ g) (hB : B ≤ h) : SrcAt W' B g :=
  s.keep hg.size (fun o => hg.cell_far _ s.2.1 (fun e => hne (by injection e with e; exact e.symm))) (fun o => hg.frozen_far _ s.2.1 (fun e => hne (by injection e with e; exact e.symm)))
    (fun p hp => hg.cell_far p (by have := s.1; have := s.2.1; omega) (fun e => by injection e with e; omega))
theorem SrcAt.below (s : SrcAt W B g) (hb : Below W.heap.size W W') : SrcAt W' B g :=
  s.keep hb.size (fun o => hb.cell s.2.1) (fun o => hb.frozen s.2.1) (fun p hp => hb.cell (by have := s.1; have := s.2.1; omega))
theorem SrcAt.alloc (s : SrcAt W B g) (o : Obj) : SrcAt (W.alloc o) B g := s.below ((Below.refl _ _).alloc (Nat.le_refl _) o)
theorem SrcAt.drew (s : SrcAt W B g) : SrcAt W.drew B g := s
theorem SrcAt.drewN (s : SrcAt W B g) (n : Nat) : SrcAt (W.drewN n) B g := s
theorem SrcAt.other (s : SrcAt W B g) {p : Addr} (hp : p.block ≠ g) (hB : B ≤ p.block) (v : Value) : SrcAt (W.setCell p v) B g :=
  s.keep (by simp) (fun o => World.cell?_setCell_other W p _ v (fun e => hp (by rw [e]))) (fun o => by rw [World.frozen?_setCell]) (fun q hq => World.cell?_setCell_other W p q v (fun e => by rw [e] at hB; omega))

theorem SrcAt.next (s : SrcAt W B g) {A : Option Addr} {n c k : Nat} (h0 : W.cell? ⟨g, 0, none⟩ = some (.slice A n c)) (h1 : W.cell? ⟨g, 1, none⟩ = some (.int .i64 k)) (hk : k < n) : SrcAt (W.setCell ⟨g, 1, none⟩ (.int .i64 ((k : Int) + 1))) B g := by
  obtain ⟨hB, hg, A', n', c', k', zs, a1, a2, a3, a4, a5, a6, a7, a8, a9⟩ := s
  rw [h0] at a5
  injection a5 with a5
  injection a5 with e1 e2 e3
  subst e1; subst e2; subst e3
  refine ⟨hB, by simpa using hg, A, n, c, k + 1, zs, by omega, a2, a3, a4, (World.cell?_setCell_other W _ _ _ (fun e => by injection e; omega)).trans h0, ?_, by rw [World.frozen?_setCell]; exact a7, a8.setCell hB _, a9⟩
  simp [go_sem, h1]

theorem only_drewN {a w : World} {row : Option Nat} (h : a.grownBy w row) (n : Nat) : a.grownBy (w.drewN n) row := ⟨h.os, h.tape, h.output, h.size, h.block⟩
theorem only_drew {a w : World} {row : Option Nat} (h : a.grownBy w row) : a.grownBy w.drew row := ⟨h.os, h.tape, h.output, h.size, h.block⟩
theorem gdrew {w w' : World} {row : Option Nat} (h : w.drew.grownBy w' row) : w.grownBy w' row := ⟨h.os, h.tape, h.output, h.size, h.block⟩
theorem only_alloc {a w : World} {row : Option Nat} (h : a.grownBy w row) (o : Obj) : a.grownBy (w.alloc o) row :=
  ⟨h.os, h.tape, h.output, Nat.le_trans h.size (by simp), fun i hi hne => (Below.heap_alloc w o i (Nat.lt_of_lt_of_le hi h.size)).trans (h.block i hi hne)⟩
theorem only_set {a w : World} {g : Nat} (h : a.grownBy w (some g)) {p : Addr} (hp : p.block = g ∨ a.heap.size ≤ p.block) (u : Value) : a.grownBy (w.setCell p u) (some g) :=
  ⟨h.os, h.tape, h.output, by simpa [World.setCell] using h.size, fun i hi hne => (Below.heap_setCell w p u i (by
    rintro rfl
    rcases hp with hp | hp
    · exact hne (by rw [hp])
    · omega)).trans (h.block i hi hne)⟩
theorem only_below {a w w' : World} {g : Nat} (h : a.grownBy w (some g)) (hb : Below w.heap.size w w') : a.grownBy w' (some g) :=
  ⟨hb.os.trans h.os, hb.tape.trans h.tape, hb.output.trans h.output, Nat.le_trans h.size hb.size, fun i hi hne => (hb.block i (Nat.lt_of_lt_of_le hi h.size)).trans (h.block i hi hne)⟩
/-- A source lies behind B: what is below stays. -/
theorem below_only {B g : Nat} {a w w' : World} (h : Below B a w) (hg : w.grownBy w' (some g)) (hB : B ≤ g) (hz : B ≤ a.heap.size) : Below B a w' :=
  h.grown hg (Nat.le_trans hz h.size) (fun k hk => by injection hk with hk; omega)
end

/-- A call that reads a number of a source. -/
def SrInt (B g : Nat) (lo hi : Int) (w : World) (e : Ending) (w' : World) : Prop := ∃ x, e = .returned (.int .i64 x) ∧ lo ≤ x ∧ x ≤ hi ∧ SrcAt w' B g ∧ w.grownBy w' (some g)
end Go.Proofs.Ytiklkagkmcapnaa
namespace Go.Proofs.Ytiklkagkmcapnaa
open Go.RowKit
set_option linter.unusedVariables false

/-- A value that is a slice, reads as the numbers zs and lies below B. -/
def Ns (w : World) (B : Nat) (v : Value) (zs : List Int) : Prop := ∃ A c, v = .slice A zs.length c ∧ zs.length ≤ c ∧ c ≤ maxLen ∧ Rd w B 1 A zs.length (zs.map i64v) ∧ ∀ z ∈ zs, -9223372036854775808 ≤ z ∧ z ≤ 9223372036854775807

section
variable {w w' : World} {B B' : Nat} {v : Value} {zs : List Int}
theorem Ns.nil : Ns w B (.slice none 0 0) [] := ⟨none, 0, rfl, Nat.le_refl _, Nat.zero_le _, Rd.nil none, by simp⟩
theorem Ns.below (h : Ns w B v zs) (hb : Below B w w') : Ns w' B v zs := by
  obtain ⟨A, c, e, hl, hm, h, hz⟩ := h; exact ⟨A, c, e, hl, hm, h.below hb, hz⟩
theorem Ns.parts {A : Option Addr} {n c : Nat} (h : Ns w B (.slice A n c) zs) : n = zs.length ∧ n ≤ c ∧ c ≤ maxLen ∧ Rd w B 1 A n (zs.map i64v) ∧ ∀ z ∈ zs, -9223372036854775808 ≤ z ∧ z ≤ 9223372036854775807 := by
  obtain ⟨A', c', e, hl, hm, h, hz⟩ := h
  injection e with e1 e2 e3
  subst e1; subst e2; subst e3
  exact ⟨rfl, hl, hm, h, hz⟩
/-- From the way in which the guide opens a slice of numbers that came in. -/
theorem Ns.of_cells {a : Addr} {l c : Nat} {zs : List Int} (hl : l ≤ c) (hm : c ≤ maxLen) (hz : zs.length = c) (hc : ∀ i, i < zs.length → w.cell? (a.add i) = some (.int .i64 (zs.getD i 0))) (hw : ∀ n ∈ zs, (Lit.int .i64 n).wf = true) :
    ∃ ys, Ns w w.heap.size (.slice (some a) l c) ys := by
  have hlen : (zs.take l).length = l := by simp; omega
  refine ⟨zs.take l, some a, c, by rw [hlen], by omega, hm, ⟨by simp, fun hn => ?_⟩, fun z hz' => ?_⟩
  · rw [hlen] at hn
    obtain ⟨b, o, spot⟩ := a
    have h0 := hc 0 (by omega)
    have hspot : spot = none := by simpa [Addr.add] using World.cell?_spot h0
    subst hspot
    refine ⟨b, o, rfl, World.block_lt_of_cell? w ⟨b, o, none⟩ (by simpa [Addr.add] using h0), fun j u hu => ?_⟩
    simp only [List.getElem?_map, Option.map_eq_some_iff] at hu
    obtain ⟨x, hx, rfl⟩ := hu
    obtain ⟨hj, rfl⟩ := List.getElem?_eq_some_iff.1 hx
    have hj' : j < zs.length := by simp at hj; omega
    have h := hc j hj'
    rw [add_mk] at h
    rw [h]
    simp [i64v, List.getD, hj']
  · have := hw z (List.mem_of_mem_take hz')
    simp only [Lit.wf, Bool.and_eq_true, decide_eq_true_eq] at this
    exact this
end
end Go.Proofs.Ytiklkagkmcapnaa
