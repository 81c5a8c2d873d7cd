/- What is proved here: (plain) what Detach and Absorb of rings return; (plain) what keeps 'nothing old is turned' along a walk; a ring that a statement holds; shard.Stored by a contract; slices.BinarySearchFunc of leases, lease.place by contracts. -/
import Derived.Test.YtbeafcjbldnkhaaGreatJ10
import Derived.BigFrame
import Derived.Test.YtbeafcjbldnkhaaGreatJ09
import Derived.Test.YtbeafcjbldnkhaaGreatJ21
import Derived.Test.YtbeafcjbldnkhaaGreatJ20
import Derived.Test.YtbeafcjbldnkhaaGreatJ13
import Derived.Deep.LoopGhost
namespace Go.Proofs.YtbeafcjbldnkhaaGreat
open Go.RowKit
set_option linter.unusedVariables false

/-- The error of Detach. -/
noncomputable def dtE (cs : List Msg) (hd sz k : Int) : Int := if rgV cs hd sz ≠ 0 then rgV cs hd sz else if wi k 0 sz = true then 0 else 1
/-- What Detach returns: the cells and the messages. -/
noncomputable def dtC (cs : List Msg) (hd sz k : Int) : List Msg := if dtE cs hd sz k = 0 then fil cs.length hd.toNat ((ord cs hd.toNat sz.toNat).take (sz - k).toNat) else []
noncomputable def dtL (cs : List Msg) (hd sz k : Int) : List Msg := if dtE cs hd sz k = 0 then (ord cs hd.toNat sz.toNat).drop (sz - k).toNat else []
theorem dtE_zero {cs : List Msg} {hd sz k : Int} (h : dtE cs hd sz k = 0) : rgV cs hd sz = 0 ∧ 0 ≤ k ∧ k ≤ sz := by
  unfold dtE at h
  by_cases h0 : rgV cs hd sz = 0
  · rw [if_neg (by simpa using h0)] at h
    by_cases h1 : wi k 0 sz = true
    · have := wi_of h1; exact ⟨h0, this.1, this.2⟩
    · rw [if_neg h1] at h; exact absurd h (by decide)
  · rw [if_pos h0] at h; exact absurd h h0

/-- The error of the pushes of Absorb. -/
noncomputable def abE (cs : List Msg) (hd sz : Int) : List Msg → Int
  | [] => 0
  | M :: r => if puE cs hd sz M = 0 then abE (pbC cs hd sz M) hd (sz + 1) r else puE cs hd sz M
/-- The cells after them. -/
noncomputable def abS (cs : List Msg) (hd sz : Int) : List Msg → List Msg
  | [] => cs
  | M :: r => abS (pbC cs hd sz M) hd (sz + 1) r
/-- The error of Absorb. -/
noncomputable def aoE (cs : List Msg) (hd sz : Int) (l : List Msg) : Int := if rgV cs hd sz ≠ 0 then rgV cs hd sz else if (cs.length : Int) - sz < (l.length : Int) then 3 else abE cs hd sz l
noncomputable def aoC (cs : List Msg) (hd sz : Int) (l : List Msg) : List Msg := if aoE cs hd sz l = 0 then abS cs hd sz l else []
theorem abE_hit {cs : List Msg} {hd sz : Int} {M : Msg} {r : List Msg} (h : puE cs hd sz M ≠ 0) : abE cs hd sz (M :: r) = puE cs hd sz M := if_neg h
theorem abE_step {cs : List Msg} {hd sz : Int} {M : Msg} {r : List Msg} (h : puE cs hd sz M = 0) : abE cs hd sz (M :: r) = abE (pbC cs hd sz M) hd (sz + 1) r := if_pos h
theorem pbC_len {cs : List Msg} {hd sz : Int} {M : Msg} (h : puE cs hd sz M = 0) : (pbC cs hd sz M).length = cs.length := by
  unfold pbC; rw [if_pos h, fil_len]
section
variable {n hd : Nat} {l : List Msg}
theorem dt_fil (h1 : 1 ≤ n) (h2 : n ≤ 12) (hh : hd < n) (hl : l.length ≤ n) (hg : Gd l) {k : Nat} (hk : k ≤ l.length) :
    dtE (fil n hd l) (hd : Int) (l.length : Int) (k : Int) = 0 ∧ dtC (fil n hd l) (hd : Int) (l.length : Int) (k : Int) = fil n hd (l.take (l.length - k)) ∧ dtL (fil n hd l) (hd : Int) (l.length : Int) (k : Int) = l.drop (l.length - k) := by
  have hv := rgV_fil h1 h2 hh hl hg
  have ho : ord (fil n hd l) (hd : Int).toNat (l.length : Int).toNat = l := by simp only [Int.toNat_natCast]; exact ord_fil l hh hl
  have he : dtE (fil n hd l) (hd : Int) (l.length : Int) (k : Int) = 0 := by
    unfold dtE
    rw [if_neg (by simpa using hv), if_pos (wi_true (by omega) (by omega))]
  have hs : ((l.length : Int) - (k : Int)).toNat = l.length - k := by omega
  refine ⟨he, ?_, ?_⟩
  · unfold dtC
    rw [if_pos he, ho, fil_len, hs]
    simp only [Int.toNat_natCast]
  · unfold dtL
    rw [if_pos he, ho, hs]
theorem ab_fil (h1 : 1 ≤ n) (h2 : n ≤ 12) (hh : hd < n) (P : List Msg) : ∀ (l : List Msg), l.length + P.length ≤ n → Gd (l ++ P) → abE (fil n hd l) (hd : Int) (l.length : Int) P = 0 ∧ abS (fil n hd l) (hd : Int) (l.length : Int) P = fil n hd (l ++ P) := by
  induction P with
  | nil => intro l _ _; exact ⟨rfl, by simp [abS]⟩
  | cons M P ih =>
    intro l hl hg
    simp only [List.length_cons] at hl
    have hgl : Gd l := gd_sub (List.sublist_append_left _ _) hg
    have hM : vf M = 0 := hg.1 M (by simp)
    have hi : ∀ N ∈ l, N.id ≠ M.id := fun N hN => by
      have h := (dup_pair _).1 hg.2
      rw [List.pairwise_append] at h
      exact h.2.2 N hN M (by simp)
    have hp := puE_fil h1 h2 hh (by omega) hgl hM hi
    have hc := pbC_fil h1 h2 hh (by omega) hgl hM hi
    have hg2 : Gd (l ++ [M] ++ P) := by simpa using hg
    have h := ih (l ++ [M]) (by simp; omega) hg2
    have e : (((l ++ [M]).length : Nat) : Int) = (l.length : Int) + 1 := by simp
    rw [e] at h
    refine ⟨?_, ?_⟩
    · rw [abE_step hp, hc]; exact h.1
    · show abS (pbC (fil n hd l) (hd : Int) (l.length : Int) M) hd ((l.length : Int) + 1) P = _
      rw [hc, h.2]
      simp
theorem ao_fil (h1 : 1 ≤ n) (h2 : n ≤ 12) (hh : hd < n) {P : List Msg} (hl : l.length + P.length ≤ n) (hg : Gd (l ++ P)) : aoE (fil n hd l) (hd : Int) (l.length : Int) P = 0 ∧ aoC (fil n hd l) (hd : Int) (l.length : Int) P = fil n hd (l ++ P) := by
  have hgl : Gd l := gd_sub (List.sublist_append_left _ _) hg
  have hv := rgV_fil h1 h2 hh (by omega) hgl
  have h := ab_fil h1 h2 hh P l hl hg
  have he : aoE (fil n hd l) (hd : Int) (l.length : Int) P = 0 := by
    unfold aoE
    rw [if_neg (by simpa using hv), if_neg (by rw [fil_len]; omega)]
    exact h.1
  exact ⟨he, by unfold aoC; rw [if_pos he]; exact h.2⟩
end
/-- A result that is a ring, messages and an error. -/
def RLP (w : World) (cs : List Msg) (hd sz : Int) (l : List Msg) (x : Int) (e : Ending) (w' : World) : Prop := ∃ A c A2 c2, e = .returned (.tuple #[.agg #[.slice A cs.length c, .int .i64 hd, .int .i64 sz], .slice A2 l.length c2, .int .i64 x]) ∧ Nw w.heap.size A ∧ Nw w.heap.size A2 ∧ Ls w' w'.heap.size (.slice A cs.length c) cs ∧ Ls w' w'.heap.size (.slice A2 l.length c2) l ∧ Below w.heap.size w w'
/-- A result that is a ring, perhaps with the cells of the argument, and an error. -/
def RQP (w : World) (A0 : Option Addr) (cs : List Msg) (hd sz x : Int) (e : Ending) (w' : World) : Prop := ∃ A c, e = .returned (.tuple #[.agg #[.slice A cs.length c, .int .i64 hd, .int .i64 sz], .int .i64 x]) ∧ (Nw w.heap.size A ∨ A = A0) ∧ Ls w' w'.heap.size (.slice A cs.length c) cs ∧ Below w.heap.size w w'
end Go.Proofs.YtbeafcjbldnkhaaGreat
namespace Go.Proofs.YtbeafcjbldnkhaaGreat
open Go.RowKit
set_option linter.unusedVariables false

theorem bal {a w : World} (h : Below a.heap.size a w) (o : Obj) : Below a.heap.size a (w.alloc o) := h.alloc h.size o
theorem bst {a w : World} (h : Below a.heap.size a w) {p : Addr} (hp : a.heap.size ≤ p.block) (v : Value) : Below a.heap.size a (w.setCell p v) := h.setCell hp v
theorem bdr {a w : World} (h : Below a.heap.size a w) : Below a.heap.size a w.drew := h.drew
theorem btr {a b c : World} (h : Below a.heap.size a b) (k : Below b.heap.size b c) : Below a.heap.size a c := h.trans (k.mono h.size)
theorem ball {B : Nat} {a w : World} (h : Below B a w) (hB : B ≤ a.heap.size) (o : Obj) : Below B a (w.alloc o) := h.alloc (Nat.le_trans hB h.size) o
theorem btrl {B : Nat} {a b c : World} (h : Below B a b) (hB : B ≤ b.heap.size) (k : Below b.heap.size b c) : Below B a c := h.trans (k.mono hB)

theorem nw_cut {lo : Nat} {A : Option Addr} (h : Nw lo A) (c k m : Nat) : Nw lo (if c = k then A else A.map (·.add m)) := by
  split
  · exact h
  · cases A with
    | none => exact nw_none
    | some a =>
      intro b e
      simp only [Option.map_some, Option.some.injEq] at e
      subst e
      have := h a rfl
      unfold Addr.add
      split <;> simpa using this

/-- New zero blocks of a ring and of a message behind a draw, the first or the second one of two. -/
theorem RB.zero1 (w : World) (t : TypeId) : RB (w.drew.alloc (.cells #[.slice none 0 0, .int .i64 0, .int .i64 0] t)) w.heap.size none 0 0 0 0 := RB.fresh w.drew none 0 0 0 0 t
theorem RB.zero2 (w : World) (o : Obj) (t : TypeId) : RB ((w.drew.alloc o).alloc (.cells #[.slice none 0 0, .int .i64 0, .int .i64 0] t)) (w.heap.size + 1) none 0 0 0 0 := by
  have h := RB.fresh (w.drew.alloc o) none 0 0 0 0 t
  rw [show (w.drew.alloc o).heap.size = w.heap.size + 1 by simp] at h
  exact h
theorem MAt.zero1 (w : World) (t : TypeId) : MAt (w.drew.alloc (.cells #[.int .i64 0, .int .i64 0, .int .i64 0, .int .i64 0, .int .i64 0, .int .i64 0, .string ⟨#[]⟩] t)) w.heap.size zM.nth zM.bd := MAt.fresh (f := zM.nth) w.drew 0 0 0 0 0 0 ByteArray.empty t rfl rfl rfl rfl rfl rfl
theorem MAt.zero2 (w : World) (o : Obj) (t : TypeId) : MAt ((w.drew.alloc o).alloc (.cells #[.int .i64 0, .int .i64 0, .int .i64 0, .int .i64 0, .int .i64 0, .int .i64 0, .string ⟨#[]⟩] t)) (w.heap.size + 1) zM.nth zM.bd := by
  have h := MAt.fresh (f := zM.nth) (w.drew.alloc o) 0 0 0 0 0 0 ByteArray.empty t rfl rfl rfl rfl rfl rfl
  rw [show (w.drew.alloc o).heap.size = w.heap.size + 1 by simp] at h
  exact h

/-- A ring and a message in new blocks, behind a call. -/
def ReN (wr : World) (A4 : Option Addr) (k c4 : Nat) (hd z : Int) (X : Msg) (l : List Msg) (W : World) (x m : Nat) : Prop :=
  Below wr.heap.size wr W ∧ RB W x A4 k c4 hd z ∧ MAt W m X.nth X.bd ∧ Ls W W.heap.size (.slice A4 k c4) l
theorem MAt.new (w : World) (X : Msg) (t : TypeId) : MAt (w.alloc (.cells X.cs t)) w.heap.size X.nth X.bd := MAt.fresh (f := X.nth) w X.id X.rt X.ep X.ct X.gn X.st X.bd t rfl rfl rfl rfl rfl rfl
section
variable {wr w4 : World} {A4 : Option Addr} {k c4 lo x m : Nat} {hd z : Int} {X : Msg} {l : List Msg}
theorem re1 (hb : Below wr.heap.size wr w4) (hl : Ls w4 w4.heap.size (.slice A4 k c4) l) (t u : TypeId) :
    ReN wr A4 k c4 hd z X l ((w4.alloc (.cells #[.slice A4 k c4, .int .i64 hd, .int .i64 z] t)).alloc (.cells #[.int .i64 X.id, .int .i64 X.rt, .int .i64 X.ep, .int .i64 X.ct, .int .i64 X.gn, .int .i64 X.st, .string X.bd] u)) w4.heap.size (w4.heap.size + 1) := by
  have h := MAt.new (w4.alloc (.cells #[.slice A4 k c4, .int .i64 hd, .int .i64 z] t)) X u
  rw [show (w4.alloc (.cells #[.slice A4 k c4, .int .i64 hd, .int .i64 z] t)).heap.size = w4.heap.size + 1 by simp] at h
  exact ⟨bal (bal hb _) _, (RB.fresh w4 A4 k c4 hd z t).alloc _, h, ((hl.alloc (Nat.le_refl _) _).alloc (by simp) _).more (by simp <;> omega)⟩
theorem re2 (hb : Below wr.heap.size wr w4) (hl : Ls w4 w4.heap.size (.slice A4 k c4) l) (t u : TypeId) :
    ReN wr A4 k c4 hd z X l ((w4.alloc (.cells #[.int .i64 X.id, .int .i64 X.rt, .int .i64 X.ep, .int .i64 X.ct, .int .i64 X.gn, .int .i64 X.st, .string X.bd] u)).alloc (.cells #[.slice A4 k c4, .int .i64 hd, .int .i64 z] t)) (w4.heap.size + 1) w4.heap.size := by
  have h := RB.fresh (w4.alloc (.cells X.cs u)) A4 k c4 hd z t
  rw [show (w4.alloc (.cells X.cs u)).heap.size = w4.heap.size + 1 by simp] at h
  exact ⟨bal (bal hb _) _, h, (MAt.new w4 X u).alloc _, ((hl.alloc (Nat.le_refl _) _).alloc (by simp) _).more (by simp <;> omega)⟩
theorem re3 (hb : Below wr.heap.size wr w4) (hl : Ls w4 w4.heap.size (.slice A4 k c4) l) (hnw : Nw lo A4) (hx : x < lo) (hr : wr.heap.size ≤ x) (hrb : RB w4 x none 0 0 0 0) (u : TypeId) :
    ReN wr A4 k c4 hd z X l ((((w4.setCell ⟨x, 0, none⟩ (.slice A4 k c4)).setCell ⟨x, 1, none⟩ (.int .i64 hd)).setCell ⟨x, 2, none⟩ (.int .i64 z)).alloc (.cells #[.int .i64 X.id, .int .i64 X.rt, .int .i64 X.ep, .int .i64 X.ct, .int .i64 X.gn, .int .i64 X.st, .string X.bd] u)) x w4.heap.size := by
  have e : (((w4.setCell ⟨x, 0, none⟩ (.slice A4 k c4)).setCell ⟨x, 1, none⟩ (.int .i64 hd)).setCell ⟨x, 2, none⟩ (.int .i64 z)).heap.size = w4.heap.size := by simp
  have h := MAt.new (((w4.setCell ⟨x, 0, none⟩ (.slice A4 k c4)).setCell ⟨x, 1, none⟩ (.int .i64 hd)).setCell ⟨x, 2, none⟩ (.int .i64 z)) X u
  rw [e] at h
  exact ⟨bal (bst (bst (bst hb (p := ⟨x, 0, none⟩) hr _) (p := ⟨x, 1, none⟩) hr _) (p := ⟨x, 2, none⟩) hr _) _, (hrb.all A4 k c4 hd z).alloc _, h, ((hl.off3 hnw hx _ _ _).alloc (by simp) _).more (by simp)⟩
theorem re4 (hb : Below wr.heap.size wr w4) (hl : Ls w4 w4.heap.size (.slice A4 k c4) l) (hnw : Nw lo A4) (hx : x < lo) (hr : wr.heap.size ≤ x) (hrb : RB w4 x none 0 0 0 0) (hm : m < lo) (hrm : wr.heap.size ≤ m) (hma : MAt w4 m zM.nth zM.bd) (hne : x ≠ m) :
    ReN wr A4 k c4 hd z X l ((((((((((w4.setCell ⟨x, 0, none⟩ (.slice A4 k c4)).setCell ⟨x, 1, none⟩ (.int .i64 hd)).setCell ⟨x, 2, none⟩ (.int .i64 z)).setCell ⟨m, 0, none⟩ (.int .i64 X.id)).setCell ⟨m, 1, none⟩ (.int .i64 X.rt)).setCell ⟨m, 2, none⟩ (.int .i64 X.ep)).setCell ⟨m, 3, none⟩ (.int .i64 X.ct)).setCell ⟨m, 4, none⟩ (.int .i64 X.gn)).setCell ⟨m, 5, none⟩ (.int .i64 X.st)).setCell ⟨m, 6, none⟩ (.string X.bd)) x m := by
  have h1 : Below wr.heap.size wr (((w4.setCell ⟨x, 0, none⟩ (.slice A4 k c4)).setCell ⟨x, 1, none⟩ (.int .i64 hd)).setCell ⟨x, 2, none⟩ (.int .i64 z)) := bst (bst (bst hb (p := ⟨x, 0, none⟩) hr _) (p := ⟨x, 1, none⟩) hr _) (p := ⟨x, 2, none⟩) hr _
  exact ⟨below7 h1 hrm _ _ _ _ _ _ _, (hrb.all A4 k c4 hd z).lit7 (fun e => hne e.symm) X, (hma.set3 hne _ _ _).own7 X, ((hl.off3 hnw hx _ _ _).off7 hnw hm X).more (by simp)⟩
theorem re5 (hb : Below wr.heap.size wr w4) (hl : Ls w4 w4.heap.size (.slice A4 k c4) l) (hnw : Nw lo A4) (hm : m < lo) (hrm : wr.heap.size ≤ m) (hma : MAt w4 m zM.nth zM.bd) (t : TypeId) :
    ReN wr A4 k c4 hd z X l ((((((((w4.setCell ⟨m, 0, none⟩ (.int .i64 X.id)).setCell ⟨m, 1, none⟩ (.int .i64 X.rt)).setCell ⟨m, 2, none⟩ (.int .i64 X.ep)).setCell ⟨m, 3, none⟩ (.int .i64 X.ct)).setCell ⟨m, 4, none⟩ (.int .i64 X.gn)).setCell ⟨m, 5, none⟩ (.int .i64 X.st)).setCell ⟨m, 6, none⟩ (.string X.bd)).alloc (.cells #[.slice A4 k c4, .int .i64 hd, .int .i64 z] t)) w4.heap.size m := by
  have e : (((((((w4.setCell ⟨m, 0, none⟩ (.int .i64 X.id)).setCell ⟨m, 1, none⟩ (.int .i64 X.rt)).setCell ⟨m, 2, none⟩ (.int .i64 X.ep)).setCell ⟨m, 3, none⟩ (.int .i64 X.ct)).setCell ⟨m, 4, none⟩ (.int .i64 X.gn)).setCell ⟨m, 5, none⟩ (.int .i64 X.st)).setCell ⟨m, 6, none⟩ (.string X.bd)).heap.size = w4.heap.size := by simp
  have h := RB.fresh (((((((w4.setCell ⟨m, 0, none⟩ (.int .i64 X.id)).setCell ⟨m, 1, none⟩ (.int .i64 X.rt)).setCell ⟨m, 2, none⟩ (.int .i64 X.ep)).setCell ⟨m, 3, none⟩ (.int .i64 X.ct)).setCell ⟨m, 4, none⟩ (.int .i64 X.gn)).setCell ⟨m, 5, none⟩ (.int .i64 X.st)).setCell ⟨m, 6, none⟩ (.string X.bd)) A4 k c4 hd z t
  rw [e] at h
  exact ⟨bal (below7 hb hrm _ _ _ _ _ _ _) _, h, (hma.own7 X).alloc _, ((hl.off7 hnw hm X).alloc (by simp) _).more (by simp)⟩
end

/-- 'append(own, read...)' behind a guard that says yes. -/
theorem wpList_append_rw {P : Program} (w : World) {ops : Array Oper} {rest : List Oper} {o : Oper} {a : Act} {Q : Exit → Act → World → Prop} (hw : Region.wanted o (yielded ops a.tmps) = true) (s x : Operand) (t : TypeId)
    (ho : o.op = .call { callee := .builtin .append, args := #[s, x], argTypes := #[t, t] })
    (base : Nat) (e : TypeId) (i : TypeInfo) (z : Value) (size bytes : Nat) (ht : P.underlying t = some (.slice e)) (hi : P.info? e = some i) (hz : i.zero = some z)
    (hsize : i.size = size) (hby : i.bytes = bytes) (hzs : z.cells.size = size) (hsz : 0 < size)
    (v : Value) (n : Nat) (xs : List Value) (hs : a.eval s = v) (hown : w.ownsRow base e size v n xs)
    (B : Nat) (A : Option Addr) (m c : Nat) (news : List Value) (hx : a.eval x = .slice A m c) (hr : Rd w B size A m news) (h1 : ∀ u ∈ news, u.oneCell' = true)
    (h63 : n + m ≤ maxLen) (hbytes : (n + m) * bytes ≤ 140737488355328) (hbase : base ≤ w.heap.size)
    (h : ∀ v' w', w'.ownsRow base e size v' (n + m) (xs ++ news) → w.grownBy w' v.ownBlock → (v'.ownBlock = v.ownBlock ∨ v'.ownBlock = some w.heap.size) → wpList P ops Q rest (a.put o.dst v') w') : wpList P ops Q (o :: rest) a w :=
  BigFrame.wpList_want hw fun _ hK => wp_append_rd w s x t ho base e i z size bytes ht hi hz hsize hby hzs hsz v n xs hs hown B A m c news hx hr h1 h63 hbytes hbase fun v' w' h2 h3 h4 => hK _ _ (h v' w' h2 h3 h4)

/-- A ring that a statement holds, and the list of its messages. -/
structure RvAt (w : World) (p : Nat) (A : Option Addr) (k c hd : Nat) (L : List Msg) (AL : Option Addr) (cL : Nat) (W : World) : Prop where
  rb : RB W p A k c hd L.length
  ls : Ls W W.heap.size (.slice A k c) (fil k hd L)
  la : Ls W W.heap.size (.slice AL L.length cL) L
  bel : Below w.heap.size w W
  old : w.heap.size ≤ p
theorem RvAt.below {w W W' : World} {p k c hd cL : Nat} {A AL : Option Addr} {L : List Msg} (h : RvAt w p A k c hd L AL cL W) (hb : Below W.heap.size W W') : RvAt w p A k c hd L AL cL W' :=
  ⟨h.rb.below hb h.rb.lt, h.ls.up hb, h.la.up hb, h.bel.trans (hb.mono h.bel.size), h.old⟩
/-- A result of Remove, seen from an earlier world. -/
def RMQ (w0 w : World) (cs : List Msg) (hd sz : Int) (X : Msg) (x : Int) (e : Ending) (w' : World) : Prop := ∃ A c, e = .returned (.tuple #[.agg #[.slice A cs.length c, .int .i64 hd, .int .i64 sz], X.v, .int .i64 x]) ∧ Nw w.heap.size A ∧ Ls w' w'.heap.size (.slice A cs.length c) cs ∧ Below w.heap.size w w' ∧ Below w0.heap.size w0 w'
theorem RMQ.of {w0 w : World} {cs : List Msg} {hd sz : Int} {X : Msg} {x : Int} {e : Ending} {w' : World} (h0 : Below w0.heap.size w0 w) (h : RMP w cs hd sz X x e w') : RMQ w0 w cs hd sz X x e w' := by
  obtain ⟨A, c, e, hn, hl, hb⟩ := h
  exact ⟨A, c, e, hn, hl, hb, btr h0 hb⟩
/-- A result that is a list of messages, seen from an earlier world. -/
def LsQ (w0 : World) (l : List Msg) (w : World) (e : Ending) (w' : World) : Prop := ∃ A c, e = .returned (.slice A l.length c) ∧ Nw w.heap.size A ∧ Ls w' w'.heap.size (.slice A l.length c) l ∧ Below w.heap.size w w' ∧ Below w0.heap.size w0 w'
theorem LsQ.of {w0 w : World} {l : List Msg} {e : Ending} {w' : World} (h0 : Below w0.heap.size w0 w) (h : LsP l w e w') : LsQ w0 l w e w' := by
  obtain ⟨v, e, hn, hl, hb⟩ := h
  obtain ⟨A, c, rfl, _, _⟩ := hl.form
  exact ⟨A, c, e, nwv_of hn, hl, hb, btr h0 hb⟩
end Go.Proofs.YtbeafcjbldnkhaaGreat
namespace Go.Proofs.YtbeafcjbldnkhaaGreat
open Go.RowKit
set_option linter.unusedVariables false

/-- How many messages a shard stores. -/
noncomputable def stF (S : Sh) : Int := if exS S true = 0 then S.sz + S.l.length else 0
theorem ex_nums {S : Sh} {b : Bool} (h : exS S b = 0) : 1 ≤ S.cs.length ∧ S.cs.length ≤ 12 ∧ 0 ≤ S.sz ∧ S.sz ≤ 12 ∧ S.l.length ≤ 12 ∧ S.h.length ≤ 12 := by
  obtain ⟨-, V, k, rfl⟩ := vs_ex h
  have h1 := k.room
  have h2 := k.tb.len
  have h3 := k.tb.hlen
  have h4 := k.n1
  have h5 := k.n2
  have h6 : V.sh.cs.length = V.n := fil_len _ _ _
  have h7 : V.sh.sz = (V.L.length : Int) := rfl
  have h8 : V.sh.l = V.l := rfl
  have h9 : V.sh.h = V.h := rfl
  rw [h6, h7, h8, h9]
  omega
set_option maxHeartbeats 4000000 in
set_option maxRecDepth 20000 in
theorem sstored_any (S : Sh) (D : Sx) (w : World) (hs : SR w w.heap.size S D) :
    Calls Tryz.prog 27 #[sv S D] w (VlT w (stF S)) := by
  have H0 := Lib.hid (SAt.start 33 hs)
  have HV := Lib.hid (fun p W (k : SAt w p S D W) => sexam_any S D none 0 0 [] W k.sr Nl.nil)
  have HE : ([] : List Rn).all Rn.ok = true := rfl
  rw [HE] at HV
  clear hs HE
  go_enter Tryz.func27, Tryz.ntmps27
  obtain ⟨t0, t1, t2, t3, t4, t5, t6, t7, tl⟩ := H0.out.s8.facts
  go_wp2_with fail
  clear t0 t1 t2 t3 t4 t5 t6 t7 tl
  obtain ⟨p, hp⟩ : ∃ p, p = w.heap.size := ⟨_, rfl⟩
  rw [← hp]
  rw [← hp] at H0
  clear hp
  generalize w.alloc (.cells #[.bool S.lv, .int .i64 S.lo, .int .i64 S.hi, .slice D.A S.cs.length D.c, .int .i64 S.hd, .int .i64 S.sz, .slice D.A2 S.l.length D.c2, .slice D.A3 S.h.length D.c3] 33) = w1 at *
  refine (HV.out _ _ H0.out).mono ?_
  rintro e w2 ⟨rfl, hb⟩
  have H1 := Lib.hid (H0.out.below hb)
  clear hb
  by_cases h1 : exS S true = 0
  · have HX := Lib.hid (show stF S = S.sz + S.l.length from if_pos h1)
    have hn := ex_nums h1
    have HSZ := Lib.hid (fun W => ssize_any S D W hn.2.2.1 (by omega) (by omega))
    rw [h1]
    clear h1 hn
    obtain ⟨t0, t1, t2, t3, t4, t5, t6, t7, tl⟩ := H1.out.s8.facts
    go_wp2_with fail
    clear t0 t1 t2 t3 t4 t5 t6 t7 tl
    refine (HSZ.out _).mono ?_
    rintro e w3 ⟨rfl, hb⟩
    have H2 := Lib.hid (H1.out.below hb)
    clear hb
    go_wp2
    go_ret
    exact ⟨by rw [HX.out]; rfl, H2.out.bel⟩
  · have HX := Lib.hid (show stF S = 0 from if_neg h1)
    have hne : (exS S true != 0) = true := bne_iff_ne.2 h1
    clear h1
    generalize exS S true = x at *
    go_wp2
    go_ret
    exact ⟨by rw [HX.out]; rfl, H1.out.bel⟩
end Go.Proofs.YtbeafcjbldnkhaaGreat
namespace Go.Proofs.YtbeafcjbldnkhaaGreat
open Go.RowKit
set_option linter.unusedVariables false

theorem place1_any (X : Le) (id : Int) (w : World) : Calls Tryz.prog 167 #[X.v, .int .i64 id] w fun e w' => e = .returned (.int .i64 (ciF X.m.id id)) ∧ Below w.heap.size w w' := by
  have HB := Lib.hid ((Below.refl w.heap.size w).alloc (Nat.le_refl _) (.cells #[.int .i64 X.m.id, .int .i64 X.m.rt, .int .i64 X.m.ep, .int .i64 X.m.ct, .int .i64 X.m.gn, .int .i64 X.m.st, .string X.m.bd, .int .i64 X.dl] 61))
  have HC := Lib.hid (fun W => cmpint_any X.m.id id W)
  go_enter Tryz.func167, Tryz.ntmps167
  go_wp2_with fail
  refine (HC.out _).mono ?_
  rintro e w1 ⟨rfl, rfl⟩
  go_wp2
  go_ret
  exact ⟨rfl, HB.out⟩
theorem ciF_lt {x y : Int} (h : x < y) : ciF x y = -1 := if_pos h
theorem ciF_gt {x y : Int} (h : y < x) : ciF x y = 1 := by unfold ciF; rw [if_neg (by omega), if_pos h]
theorem ciF_eq {x y : Int} (h : x = y) : ciF x y = 0 := by unfold ciF; rw [if_neg (by omega), if_neg (by omega)]
theorem ciF_ne {x y : Int} (h : ¬ x = y) : (ciF x y == 0) = false := by
  rcases Int.lt_trichotomy x y with k | k | k
  · rw [ciF_lt k]; rfl
  · exact absurd k h
  · rw [ciF_gt k]; rfl
/-- What a search has found out: all before lo are less, none from hi on is. -/
structure Bs2 (l : List Le) (x : Int) (lo hi : Nat) : Prop where
  lo_ : ∀ j (hj : j < l.length), j < lo → l[j].id < x
  hi_ : ∀ j (hj : j < l.length), hi ≤ j → x ≤ l[j].id
theorem Bs2.start (l : List Le) (x : Int) : Bs2 l x 0 l.length := ⟨fun j _ h => absurd h (Nat.not_lt_zero _), fun j hj h => absurd hj (by omega)⟩
theorem Bs2.up {l : List Le} {x : Int} {lo hi m : Nat} (h : Bs2 l x lo hi) (ha : Asc Le.id l) (hm : m < l.length) (hx : l[m].id < x) : Bs2 l x (m + 1) hi :=
  ⟨fun j hj h' => by
    by_cases e : j = m
    · subst e; exact hx
    · exact Int.lt_trans (ha.lt (i := j) (j := m) (by omega) hm) hx, h.hi_⟩
theorem Bs2.dn {l : List Le} {x : Int} {lo hi m : Nat} (h : Bs2 l x lo hi) (ha : Asc Le.id l) (hm : m < l.length) (hx : x ≤ l[m].id) : Bs2 l x lo m :=
  ⟨h.lo_, fun j hj h' => by
    by_cases e : j = m
    · subst e; exact hx
    · exact Int.le_trans hx (Int.le_of_lt (ha.lt (i := m) (j := j) (by omega) hj))⟩
theorem Bs2.at_ {l : List Le} {x : Int} {i : Nat} (h : Bs2 l x i i) (hi : i ≤ l.length) : kAt Le.id l x = i :=
  kAt_hit hi (fun j hj => h.lo_ j _ hj) fun hk => h.hi_ i hk (Nat.le_refl _)
/-- What place tells. -/
def PlR (l : List Le) (x : Int) (w : World) (e : Ending) (w' : World) : Prop := e = .returned (.tuple #[.int .i64 (kAt Le.id l x), .bool (kHas Le.id l x)]) ∧ Below w.heap.size w w'
set_option maxHeartbeats 4000000 in
set_option maxRecDepth 20000 in
theorem bsearch_any (A : Option Addr) (n c : Nat) (l : List Le) (id : Int) (w : World) (hv : El w w.heap.size (.slice A n c) l) (ha : Asc Le.id l) (h12 : n ≤ 1000) :
    Calls Tryz.prog 166 #[.slice A n c, .int .i64 id, .func (.func 167) #[] #[]] w (PlR l id w) := by
  obtain ⟨rfl, hm1, hm2⟩ := hv.len
  have HV := Lib.hid hv
  have HA := Lib.hid ha
  have HB := Lib.hid (Below.refl w.heap.size w)
  have HS := Lib.hid (Bs2.start l id)
  clear hv ha hm1 hm2
  go_enter Tryz.func166, Tryz.ntmps166
  go_wp2
  go_loopg [9, 10] l.length (fun kx s9 s10 wr => ∃ lo hi : Nat, s9 = .int .i64 lo ∧ s10 = .int .i64 hi ∧ lo ≤ hi ∧ hi ≤ l.length ∧ hi - lo ≤ kx ∧ Hid (Below w.heap.size w wr) ∧ Hid (Bs2 l id lo hi))
  case atStart => exact ⟨0, l.length, rfl, rfl, Nat.zero_le _, Nat.le_refl _, by omega, HB, HS⟩
  case round =>
    clear HB HS
    obtain ⟨lo, hi, rfl, rfl, hlh, hin, hg, HB, HS⟩ := hrel
    have HVK := Lib.hid (HV.out.below HB.out)
    by_cases hlt : lo < hi
    · have hm : (lo + hi) / 2 < l.length := by omega
      obtain ⟨b, o, rfl, _⟩ := HVK.out.some_ (by omega)
      obtain ⟨⟨c0, c1, c2, c3, c4, c5, c6, c7⟩, hb⟩ := HVK.out.c8 hm
      obtain ⟨X, hX⟩ : ∃ X, l[(lo + hi) / 2] = X := ⟨_, rfl⟩
      rw [hX] at c0 c1 c2 c3 c4 c5 c6 c7
      have HX := Lib.hid hX
      have HC := Lib.hid (fun W => place1_any X id W)
      clear hX hb
      by_cases hx : X.m.id < id
      · rw [ciF_lt hx] at HC
        have HN := Lib.hid (HS.out.up HA.out hm (by rw [HX.out]; exact hx))
        clear hx
        go_wp2_with fail
        refine (HC.out _).mono ?_
        rintro e w1 ⟨rfl, hb1⟩
        have HB1 := Lib.hid (HB.out.trans (hb1.mono HB.out.size))
        clear hb1 c0 c1 c2 c3 c4 c5 c6 c7
        go_wp2
        go_roundg (hi - ((lo + hi) / 2 + 1))
        case measure => omega
        case rel => exact ⟨(lo + hi) / 2 + 1, hi, by rw [show ((lo : Int) + (hi : Int)) / 2 + 1 = (((lo + hi) / 2 + 1 : Nat) : Int) by omega], rfl, by omega, hin, Nat.le_refl _, HB1, HN⟩
      · have HN := Lib.hid (HS.out.dn HA.out hm (by rw [HX.out]; exact Int.not_lt.1 hx))
        have hci : ¬ ciF X.m.id id < 0 := by unfold ciF; rw [if_neg hx]; split <;> omega
        clear hx
        generalize ciF X.m.id id = y at *
        go_wp2_with fail
        refine (HC.out _).mono ?_
        rintro e w1 ⟨rfl, hb1⟩
        have HB1 := Lib.hid (HB.out.trans (hb1.mono HB.out.size))
        clear hb1 c0 c1 c2 c3 c4 c5 c6 c7
        go_wp2
        go_roundg ((lo + hi) / 2 - lo)
        case measure => omega
        case rel => exact ⟨lo, (lo + hi) / 2, rfl, by rw [show ((lo : Int) + (hi : Int)) / 2 = (((lo + hi) / 2 : Nat) : Int) by omega], by omega, by omega, Nat.le_refl _, HB1, HN⟩
    · obtain rfl : hi = lo := by omega
      have HK := Lib.hid (HS.out.at_ hin)
      by_cases hn : hi < l.length
      · obtain ⟨b, o, rfl, _⟩ := HVK.out.some_ (by omega)
        obtain ⟨⟨c0, c1, c2, c3, c4, c5, c6, c7⟩, hb⟩ := HVK.out.c8 hn
        obtain ⟨X, hX⟩ : ∃ X, l[hi] = X := ⟨_, rfl⟩
        rw [hX] at c0 c1 c2 c3 c4 c5 c6 c7
        have HX := Lib.hid hX
        have HC := Lib.hid (fun W => place1_any X id W)
        clear hX hb
        by_cases hx : X.m.id = id
        · have HR := Lib.hid (show kHas Le.id l id = true from kAt_eq (by rw [HK.out]; exact hn) (by simp only [HK.out]; rw [HX.out]; exact hx))
          rw [ciF_eq hx] at HC
          clear hx
          go_wp2_with fail
          refine (HC.out _).mono ?_
          rintro e w1 ⟨rfl, hb1⟩
          have HB1 := Lib.hid (HB.out.trans (hb1.mono HB.out.size))
          clear hb1 c0 c1 c2 c3 c4 c5 c6 c7
          go_wp2
          go_ret2
          exact ⟨by rw [HK.out, HR.out]; rfl, HB1.out⟩
        · have HR := Lib.hid (show kHas Le.id l id = false from kAt_ne HA.out (fun hl => by simp only [HK.out]; rw [HX.out]; exact hx))
          have hci : (ciF X.m.id id == 0) = false := ciF_ne hx
          clear hx
          generalize ciF X.m.id id = y at *
          go_wp2_with fail
          refine (HC.out _).mono ?_
          rintro e w1 ⟨rfl, hb1⟩
          have HB1 := Lib.hid (HB.out.trans (hb1.mono HB.out.size))
          clear hb1 c0 c1 c2 c3 c4 c5 c6 c7
          go_wp2
          go_ret2
          exact ⟨by rw [HK.out, HR.out]; rfl, HB1.out⟩
      · have HR := Lib.hid (show kHas Le.id l id = false from kAt_ne HA.out (fun hl => absurd hl (by rw [HK.out]; exact hn)))
        go_wp2
        go_ret2
        exact ⟨by rw [HK.out, HR.out]; rfl, HB.out⟩
theorem lplace_any (A : Option Addr) (n c : Nat) (l : List Le) (id : Int) (w : World) (hv : El w w.heap.size (.slice A n c) l) (ha : Asc Le.id l) (h12 : n ≤ 1000) :
    Calls Tryz.prog 123 #[.slice A n c, .int .i64 id] w (PlR l id w) := by
  have HC := Lib.hid (bsearch_any A n c l id w hv ha h12)
  clear hv ha
  generalize kAt Le.id l id = i at *
  go_enter Tryz.func123, Tryz.ntmps123
  go_wp2_with fail
  refine HC.out.mono ?_
  rintro e w1 ⟨rfl, hb⟩
  have HB := Lib.hid hb
  clear hb
  go_wp2
  go_ret2
  exact ⟨rfl, HB.out⟩
end Go.Proofs.YtbeafcjbldnkhaaGreat
