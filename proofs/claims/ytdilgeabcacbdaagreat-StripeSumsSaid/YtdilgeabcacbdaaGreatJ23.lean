/- What is proved here: (plain) what keeps 'nothing old is turned' along a walk; a ring that a statement holds; shard.Stored by a contract; slices.BinarySearchFunc of leases, lease.place by contracts; lease.Find by a contract. -/
import Derived.Test.YtdilgeabcacbdaaGreatJ22
import Derived.BigFrame
import Derived.Test.YtdilgeabcacbdaaGreatJ09
import Derived.Test.YtdilgeabcacbdaaGreatJ21
import Derived.Test.YtdilgeabcacbdaaGreatJ13
import Derived.Deep.LoopGhost
import Derived.Test.YtdilgeabcacbdaaGreatJ15
namespace Go.Proofs.YtdilgeabcacbdaaGreat
open Go.RowKit
set_option linter.unusedVariables false

theorem bal {a w : World} (h : Below a.heap.size a w) (o : Obj) : Below a.heap.size a (w.alloc o) := h.alloc h.size o
theorem btr {a b c : World} (h : Below a.heap.size a b) (k : Below b.heap.size b c) : Below a.heap.size a c := h.trans (k.mono h.size)
theorem MAt.new (w : World) (X : Msg) (t : TypeId) : MAt (w.alloc (.cells X.cs t)) w.heap.size X.nth X.bd := MAt.fresh (f := X.nth) w X.id X.rt X.ep X.ct X.gn X.st X.bd t rfl rfl rfl rfl rfl rfl
section
variable {wr w4 : World} {A4 : Option Addr} {k c4 lo x m : Nat} {hd z : Int} {X : Msg} {l : List Msg}
end

/-- A ring that a statement holds, and the list of its messages. -/
structure RvAt (w : World) (p : Nat) (A : Option Addr) (k c hd : Nat) (L : List Msg) (AL : Option Addr) (cL : Nat) (W : World) : Prop where
  rb : RB W p A k c hd L.length
  ls : Ls W W.heap.size (.slice A k c) (fil k hd L)
  la : Ls W W.heap.size (.slice AL L.length cL) L
  bel : Below w.heap.size w W
  old : w.heap.size ≤ p
theorem RvAt.below {w W W' : World} {p k c hd cL : Nat} {A AL : Option Addr} {L : List Msg} (h : RvAt w p A k c hd L AL cL W) (hb : Below W.heap.size W W') : RvAt w p A k c hd L AL cL W' :=
  ⟨h.rb.below hb h.rb.lt, h.ls.up hb, h.la.up hb, h.bel.trans (hb.mono h.bel.size), h.old⟩
/-- A result of Remove, seen from an earlier world. -/
def RMQ (w0 w : World) (cs : List Msg) (hd sz : Int) (X : Msg) (x : Int) (e : Ending) (w' : World) : Prop := ∃ A c, e = .returned (.tuple #[.agg #[.slice A cs.length c, .int .i64 hd, .int .i64 sz], X.v, .int .i64 x]) ∧ Nw w.heap.size A ∧ Ls w' w'.heap.size (.slice A cs.length c) cs ∧ Below w.heap.size w w' ∧ Below w0.heap.size w0 w'
theorem RMQ.of {w0 w : World} {cs : List Msg} {hd sz : Int} {X : Msg} {x : Int} {e : Ending} {w' : World} (h0 : Below w0.heap.size w0 w) (h : RMP w cs hd sz X x e w') : RMQ w0 w cs hd sz X x e w' := by
  obtain ⟨A, c, e, hn, hl, hb⟩ := h
  exact ⟨A, c, e, hn, hl, hb, btr h0 hb⟩
/-- A result that is a list of messages, seen from an earlier world. -/
def LsQ (w0 : World) (l : List Msg) (w : World) (e : Ending) (w' : World) : Prop := ∃ A c, e = .returned (.slice A l.length c) ∧ Nw w.heap.size A ∧ Ls w' w'.heap.size (.slice A l.length c) l ∧ Below w.heap.size w w' ∧ Below w0.heap.size w0 w'
theorem LsQ.of {w0 w : World} {l : List Msg} {e : Ending} {w' : World} (h0 : Below w0.heap.size w0 w) (h : LsP l w e w') : LsQ w0 l w e w' := by
  obtain ⟨v, e, hn, hl, hb⟩ := h
  obtain ⟨A, c, rfl, _, _⟩ := hl.form
  exact ⟨A, c, e, nwv_of hn, hl, hb, btr h0 hb⟩
end Go.Proofs.YtdilgeabcacbdaaGreat
namespace Go.Proofs.YtdilgeabcacbdaaGreat
open Go.RowKit
set_option linter.unusedVariables false

theorem ex_nums {S : Sh} {b : Bool} (h : exS S b = 0) : 1 ≤ S.cs.length ∧ S.cs.length ≤ 12 ∧ 0 ≤ S.sz ∧ S.sz ≤ 12 ∧ S.l.length ≤ 12 ∧ S.h.length ≤ 12 := by
  obtain ⟨-, V, k, rfl⟩ := vs_ex h
  have h1 := k.room
  have h2 := k.tb.len
  have h3 := k.tb.hlen
  have h4 := k.n1
  have h5 := k.n2
  have h6 : V.sh.cs.length = V.n := fil_len _ _ _
  have h7 : V.sh.sz = (V.L.length : Int) := rfl
  have h8 : V.sh.l = V.l := rfl
  have h9 : V.sh.h = V.h := rfl
  rw [h6, h7, h8, h9]
  omega
end Go.Proofs.YtdilgeabcacbdaaGreat
namespace Go.Proofs.YtdilgeabcacbdaaGreat
open Go.RowKit
set_option linter.unusedVariables false

/-- What a search has found out: all before lo are less, none from hi on is. -/
structure Bs2 (l : List Le) (x : Int) (lo hi : Nat) : Prop where
  lo_ : ∀ j (hj : j < l.length), j < lo → l[j].id < x
  hi_ : ∀ j (hj : j < l.length), hi ≤ j → x ≤ l[j].id
theorem Bs2.start (l : List Le) (x : Int) : Bs2 l x 0 l.length := ⟨fun j _ h => absurd h (Nat.not_lt_zero _), fun j hj h => absurd hj (by omega)⟩
theorem Bs2.up {l : List Le} {x : Int} {lo hi m : Nat} (h : Bs2 l x lo hi) (ha : Asc Le.id l) (hm : m < l.length) (hx : l[m].id < x) : Bs2 l x (m + 1) hi :=
  ⟨fun j hj h' => by
    by_cases e : j = m
    · subst e; exact hx
    · exact Int.lt_trans (ha.lt (i := j) (j := m) (by omega) hm) hx, h.hi_⟩
theorem Bs2.at_ {l : List Le} {x : Int} {i : Nat} (h : Bs2 l x i i) (hi : i ≤ l.length) : kAt Le.id l x = i :=
  kAt_hit hi (fun j hj => h.lo_ j _ hj) fun hk => h.hi_ i hk (Nat.le_refl _)
end Go.Proofs.YtdilgeabcacbdaaGreat
namespace Go.Proofs.YtdilgeabcacbdaaGreat
open Go.RowKit
set_option linter.unusedVariables false

end Go.Proofs.YtdilgeabcacbdaaGreat
