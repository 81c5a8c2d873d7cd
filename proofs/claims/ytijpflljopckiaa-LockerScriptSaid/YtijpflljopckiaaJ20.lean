/- What is proved here: shard.examine by a contract; (plain) what keeps 'nothing old is turned' along a walk; a ring that a statement holds; shard.New by a contract; slices.BinarySearchFunc of leases, lease.place by contracts; lease.removed, lease.Release by contracts. -/
import Derived.Test.YtijpflljopckiaaJ19
import Derived.Test.YtijpflljopckiaaJ07
import Derived.BigFrame
import Derived.Test.YtijpflljopckiaaJ09
import Derived.Deep.LoopGhost
import Derived.Test.YtijpflljopckiaaJ18
import Derived.Test.YtijpflljopckiaaJ11
namespace Go.Proofs.Ytijpflljopckiaa
open Go.RowKit
set_option linter.unusedVariables false

/-- A number and its range. -/
structure Rn where
  n : Int
  lo : Int
  hi : Int
def Rn.l (x : Rn) : List Value := [.int .i64 x.n, .int .i64 x.lo, .int .i64 x.hi]
def Rn.ok (x : Rn) : Bool := wi x.n x.lo x.hi
def rcs (R : List Rn) : List Value := R.flatMap Rn.l
theorem rcs_cons (x : Rn) (R : List Rn) : rcs (x :: R) = x.l ++ rcs R := rfl
theorem rcs_drop (R : List Rn) (k : Nat) : (rcs R).drop (k * 3) = rcs (R.drop k) := by
  induction k generalizing R with
  | zero => simp
  | succ k ih =>
    cases R with
    | nil => simp [rcs]
    | cons x R =>
      rw [rcs_cons, List.drop_succ_cons, ← ih, show (k + 1) * 3 = x.l.length + k * 3 by simp [Rn.l]; omega, List.drop_append, List.drop_eq_nil_of_le (by omega)]
      simp
theorem rcs_at (R : List Rn) (k j : Nat) (hk : k < R.length) (hj : j < 3) : (rcs R)[k * 3 + j]? = R[k].l[j]? := by
  have h := rcs_drop R k
  have e : (rcs R)[k * 3 + j]? = ((rcs R).drop (k * 3))[j]? := by rw [List.getElem?_drop]
  rw [e, h, List.drop_eq_getElem_cons hk, rcs_cons, List.getElem?_append_left (by simp [Rn.l]; exact hj)]
/-- A value that is a slice and reads as these numbers and ranges. -/
def Nl (W : World) (B : Nat) (v : Value) (R : List Rn) : Prop := ∃ A c, v = .slice A R.length c ∧ R.length ≤ c ∧ c ≤ maxLen ∧ Rd W B 3 A R.length (rcs R)
theorem Nl.nil {W : World} {B : Nat} : Nl W B (.slice none 0 0) [] := ⟨none, 0, rfl, Nat.le_refl _, Nat.zero_le _, Rd.nil none⟩
section
variable {W W' : World} {B : Nat} {v : Value} {R : List Rn} {A : Option Addr} {n c : Nat}
theorem Nl.below (h : Nl W B v R) (hb : Below B W W') : Nl W' B v R := by
  obtain ⟨A, c, e, h1, h2, h3⟩ := h; exact ⟨A, c, e, h1, h2, h3.below hb⟩
theorem Nl.len (h : Nl W B (.slice A n c) R) : n = R.length ∧ n ≤ c ∧ c ≤ maxLen := by
  obtain ⟨A', c', e, hl, hm, h⟩ := h
  injection e with e1 e2 e3
  subst e2; subst e3
  exact ⟨rfl, hl, hm⟩
theorem Nl.at_ {k : Nat} (h : Nl W B (.slice A n c) R) (hk : k < R.length) : ∃ b o, A = some ⟨b, o, none⟩ ∧ b < B ∧ W.cell? ⟨b, o + k * 3, none⟩ = some (.int .i64 R[k].n) ∧ W.cell? ⟨b, o + k * 3 + 1, none⟩ = some (.int .i64 R[k].lo) ∧ W.cell? ⟨b, o + k * 3 + 2, none⟩ = some (.int .i64 R[k].hi) := by
  obtain ⟨A', c', e, hl, hm, hr⟩ := h
  injection e with e1 e2 e3
  subst e1
  obtain ⟨b, o, e, hb, hc⟩ := hr.2 (by omega)
  have g : ∀ j u, j < 3 → R[k].l[j]? = some u → W.cell? ⟨b, o + k * 3 + j, none⟩ = some u := fun j u hj hu => by
    rw [Nat.add_assoc]; exact hc _ u (by rw [rcs_at R k j hk hj]; exact hu)
  exact ⟨b, o, e, hb, g 0 _ (by omega) rfl, g 1 _ (by omega) rfl, g 2 _ (by omega) rfl⟩
end
end Go.Proofs.Ytijpflljopckiaa
namespace Go.Proofs.Ytijpflljopckiaa
open Go.RowKit
set_option linter.unusedVariables false

theorem bal {a w : World} (h : Below a.heap.size a w) (o : Obj) : Below a.heap.size a (w.alloc o) := h.alloc h.size o
theorem bst {a w : World} (h : Below a.heap.size a w) {p : Addr} (hp : a.heap.size ≤ p.block) (v : Value) : Below a.heap.size a (w.setCell p v) := h.setCell hp v
theorem bdr {a w : World} (h : Below a.heap.size a w) : Below a.heap.size a w.drew := h.drew
theorem btr {a b c : World} (h : Below a.heap.size a b) (k : Below b.heap.size b c) : Below a.heap.size a c := h.trans (k.mono h.size)
theorem MAt.new (w : World) (X : Msg) (t : TypeId) : MAt (w.alloc (.cells X.cs t)) w.heap.size X.nth X.bd := MAt.fresh (f := X.nth) w X.id X.rt X.ep X.ct X.gn X.st X.bd t rfl rfl rfl rfl rfl rfl
section
variable {wr w4 : World} {A4 : Option Addr} {k c4 lo x m : Nat} {hd z : Int} {X : Msg} {l : List Msg}
end

/-- A ring that a statement holds, and the list of its messages. -/
structure RvAt (w : World) (p : Nat) (A : Option Addr) (k c hd : Nat) (L : List Msg) (AL : Option Addr) (cL : Nat) (W : World) : Prop where
  rb : RB W p A k c hd L.length
  ls : Ls W W.heap.size (.slice A k c) (fil k hd L)
  la : Ls W W.heap.size (.slice AL L.length cL) L
  bel : Below w.heap.size w W
  old : w.heap.size ≤ p
theorem RvAt.below {w W W' : World} {p k c hd cL : Nat} {A AL : Option Addr} {L : List Msg} (h : RvAt w p A k c hd L AL cL W) (hb : Below W.heap.size W W') : RvAt w p A k c hd L AL cL W' :=
  ⟨h.rb.below hb h.rb.lt, h.ls.up hb, h.la.up hb, h.bel.trans (hb.mono h.bel.size), h.old⟩
/-- A result of Remove, seen from an earlier world. -/
def RMQ (w0 w : World) (cs : List Msg) (hd sz : Int) (X : Msg) (x : Int) (e : Ending) (w' : World) : Prop := ∃ A c, e = .returned (.tuple #[.agg #[.slice A cs.length c, .int .i64 hd, .int .i64 sz], X.v, .int .i64 x]) ∧ Nw w.heap.size A ∧ Ls w' w'.heap.size (.slice A cs.length c) cs ∧ Below w.heap.size w w' ∧ Below w0.heap.size w0 w'
theorem RMQ.of {w0 w : World} {cs : List Msg} {hd sz : Int} {X : Msg} {x : Int} {e : Ending} {w' : World} (h0 : Below w0.heap.size w0 w) (h : RMP w cs hd sz X x e w') : RMQ w0 w cs hd sz X x e w' := by
  obtain ⟨A, c, e, hn, hl, hb⟩ := h
  exact ⟨A, c, e, hn, hl, hb, btr h0 hb⟩
/-- A result that is a list of messages, seen from an earlier world. -/
def LsQ (w0 : World) (l : List Msg) (w : World) (e : Ending) (w' : World) : Prop := ∃ A c, e = .returned (.slice A l.length c) ∧ Nw w.heap.size A ∧ Ls w' w'.heap.size (.slice A l.length c) l ∧ Below w.heap.size w w' ∧ Below w0.heap.size w0 w'
theorem LsQ.of {w0 w : World} {l : List Msg} {e : Ending} {w' : World} (h0 : Below w0.heap.size w0 w) (h : LsP l w e w') : LsQ w0 l w e w' := by
  obtain ⟨v, e, hn, hl, hb⟩ := h
  obtain ⟨A, c, rfl, _, _⟩ := hl.form
  exact ⟨A, c, e, nwv_of hn, hl, hb, btr h0 hb⟩
end Go.Proofs.Ytijpflljopckiaa
namespace Go.Proofs.Ytijpflljopckiaa
open Go.RowKit
set_option linter.unusedVariables false

/-- The error of New, and what it returns. -/
noncomputable def neE (k lo hi : Int) : Int := if nwE k ≠ 0 then nwE k else if spB lo hi = true then 0 else 1
noncomputable def neS (k lo hi : Int) : Sh := if neE k lo hi = 0 then ⟨true, lo, hi, nwC k, 0, 0, [], []⟩ else zS
/-- The stores of a zero shard. -/
abbrev z8 (W : World) (r : Nat) : World := ((((((((W.setCell ⟨r, 0, none⟩ (.bool false)).setCell ⟨r, 1, none⟩ (.int .i64 0)).setCell ⟨r, 2, none⟩ (.int .i64 0)).setCell ⟨r, 3, none⟩ (.slice none 0 0)).setCell ⟨r, 4, none⟩ (.int .i64 0)).setCell ⟨r, 5, none⟩ (.int .i64 0)).setCell ⟨r, 6, none⟩ (.slice none 0 0)).setCell ⟨r, 7, none⟩ (.slice none 0 0))
theorem se_zeroA {w w' : World} {x : Int} {r : Nat} (hr : w.heap.size ≤ r) (hb : Below w.heap.size w w') (o : Obj) : SE w zS x (.returned (.tuple #[.agg #[.bool false, .int .i64 0, .int .i64 0, .slice none 0 0, .int .i64 0, .int .i64 0, .slice none 0 0, .slice none 0 0], .int .i64 x])) ((z8 w' r).alloc o) :=
  ⟨zX, rfl, zX_nw _, SR.zero, bal (set8s_below hr hb zS zX) o⟩
set_option maxHeartbeats 4000000 in
set_option maxRecDepth 20000 in
theorem snew_any (k lo hi : Int) (w : World) :
    Calls Try.prog 69 #[.int .i64 k, .int .i64 lo, .int .i64 hi] w (SE w (neS k lo hi) (neE k lo hi)) := by
  have R0 := Lib.hid (SB8.zero w 85)
  have B0 := Lib.hid ((Below.refl w.heap.size w).alloc (Nat.le_refl _) (.cells #[.bool false, .int .i64 0, .int .i64 0, .slice none 0 0, .int .i64 0, .int .i64 0, .slice none 0 0, .slice none 0 0] 85))
  have HN := Lib.hid (fun W => gnew_any k W)
  have HSP := Lib.hid (fun W => sspan_any lo hi W)
  go_enter Try.func69, Try.ntmps69
  go_wp2_with fail
  obtain ⟨r, hr⟩ : ∃ r, r = w.heap.size := ⟨_, rfl⟩
  have HRW := Lib.hid (show w.heap.size ≤ r by omega)
  rw [← hr]
  rw [← hr] at R0
  clear hr
  generalize w.alloc (.cells #[.bool false, .int .i64 0, .int .i64 0, .slice none 0 0, .int .i64 0, .int .i64 0, .slice none 0 0, .slice none 0 0] 85) = w1 at *
  refine (HN.out _).mono ?_
  rintro e w2 ⟨A, c, rfl, hnw, hl, hb⟩
  have B2 := Lib.hid (btr B0.out hb)
  have R2 := Lib.hid (R0.out.up hb)
  have L2 := Lib.hid hl
  have N2 := Lib.hid (nw_low hnw (show r + 1 ≤ _ from R0.out.lt))
  have HRL := Lib.hid (show r < w2.heap.size from Nat.lt_of_lt_of_le R0.out.lt hb.size)
  clear hb hl hnw
  by_cases h1 : nwE k = 0
  · have HX1 := Lib.hid h1
    rw [h1]
    clear h1
    have hrl := HRL.out
    go_wp2_with fail
    refine (HSP.out _).mono ?_
    rintro e w3 ⟨rfl, rfl⟩
    obtain ⟨r0, r1, r2, r3, r4, r5, r6, r7, rl⟩ := R2.out.facts
    obtain ⟨f0, f1, f2, f3, f4, f5, f6, f7⟩ := R2.out.free
    cases h2 : spB lo hi with
    | true =>
      have hE : neE k lo hi = 0 := by unfold neE; rw [if_neg (fun g => g HX1.out), if_pos h2]
      have hS : neS k lo hi = ⟨true, lo, hi, nwC k, 0, 0, [], []⟩ := if_pos hE
      have HF := Lib.hid (show SE w (neS k lo hi) (neE k lo hi) (.returned (.tuple #[.agg #[.bool true, .int .i64 lo, .int .i64 hi, .slice A (nwC k).length c, .int .i64 0, .int .i64 0, .slice none 0 0, .slice none 0 0], .int .i64 0])) (((((((((w2.setCell ⟨r, 0, none⟩ (.bool true)).setCell ⟨r, 1, none⟩ (.int .i64 lo)).setCell ⟨r, 2, none⟩ (.int .i64 hi)).setCell ⟨r, 3, none⟩ (.slice A (nwC k).length c)).setCell ⟨r, 4, none⟩ (.int .i64 0)).setCell ⟨r, 5, none⟩ (.int .i64 0)).setCell ⟨r, 6, none⟩ (.slice none 0 0)).setCell ⟨r, 7, none⟩ (.slice none 0 0)).alloc (.cells #[.slice A (nwC k).length c, .int .i64 0, .int .i64 0] 79)) from by
        rw [hE, hS]
        exact ⟨⟨A, c, none, 0, none, 0⟩, rfl, ⟨nw_low N2.out (by have := HRW.out; omega), nw_none, nw_none⟩, (SR.sets (S := ⟨true, lo, hi, nwC k, 0, 0, [], []⟩) (D := ⟨A, c, none, 0, none, 0⟩) ⟨offb_nw N2.out (Nat.lt_succ_self r), offb_none, offb_none⟩ (Sh.l8 ⟨true, lo, hi, nwC k, 0, 0, [], []⟩ ⟨A, c, none, 0, none, 0⟩) 0 w2 ⟨L2.out, El.nil, Dl.nil⟩).up ((Below.refl _ _).alloc (Nat.le_refl _) _), bal (set8s_below HRW.out B2.out ⟨true, lo, hi, nwC k, 0, 0, [], []⟩ ⟨A, c, none, 0, none, 0⟩) _⟩)
      clear hE hS
      go_wp2
      exact bodyPost_ret (v := .tuple #[.agg #[.bool true, .int .i64 lo, .int .i64 hi, .slice A (nwC k).length c, .int .i64 0, .int .i64 0, .slice none 0 0, .slice none 0 0], .int .i64 0]) (by simp only [results, Try.results69]; go_simp <;> rfl) rfl HF.out
    | false =>
      have hE : neE k lo hi = 1 := by unfold neE; rw [if_neg (fun g => g HX1.out), if_neg (by simp [h2])]
      have hS : neS k lo hi = zS := if_neg (by rw [hE]; decide)
      have HF := Lib.hid (show SE w (neS k lo hi) (neE k lo hi) (.returned (.tuple #[.agg #[.bool false, .int .i64 0, .int .i64 0, .slice none 0 0, .int .i64 0, .int .i64 0, .slice none 0 0, .slice none 0 0], .int .i64 1])) ((z8 w2 r).alloc (.cells #[.slice A (nwC k).length c, .int .i64 0, .int .i64 0] 79)) from by
        rw [hE, hS]
        exact se_zeroA HRW.out B2.out _)
      clear hE hS
      go_wp2
      exact bodyPost_ret (v := .tuple #[.agg #[.bool false, .int .i64 0, .int .i64 0, .slice none 0 0, .int .i64 0, .int .i64 0, .slice none 0 0, .slice none 0 0], .int .i64 1]) (by simp only [results, Try.results69]; go_simp <;> rfl) rfl HF.out
  · have hE : neE k lo hi = nwE k := if_pos h1
    have hS : neS k lo hi = zS := if_neg (by rw [hE]; exact h1)
    have hne : (nwE k != 0) = true := bne_iff_ne.2 h1
    obtain ⟨r0, r1, r2, r3, r4, r5, r6, r7, rl⟩ := R2.out.facts
    obtain ⟨f0, f1, f2, f3, f4, f5, f6, f7⟩ := R2.out.free
    have HF := Lib.hid (show SE w (neS k lo hi) (neE k lo hi) (.returned (.tuple #[.agg #[.bool false, .int .i64 0, .int .i64 0, .slice none 0 0, .int .i64 0, .int .i64 0, .slice none 0 0, .slice none 0 0], .int .i64 (nwE k)])) ((z8 w2 r).alloc (.cells #[.slice A (nwC k).length c, .int .i64 0, .int .i64 0] 79)) from by
      rw [hE, hS]
      exact se_zeroA HRW.out B2.out _)
    clear hE hS h1
    have hrl := HRL.out
    generalize nwE k = x at *
    go_wp2
    exact bodyPost_ret (v := .tuple #[.agg #[.bool false, .int .i64 0, .int .i64 0, .slice none 0 0, .int .i64 0, .int .i64 0, .slice none 0 0, .slice none 0 0], .int .i64 x]) (by simp only [results, Try.results69]; go_simp <;> rfl) rfl HF.out
end Go.Proofs.Ytijpflljopckiaa
namespace Go.Proofs.Ytijpflljopckiaa
open Go.RowKit
set_option linter.unusedVariables false

/-- What a search has found out: all before lo are less, none from hi on is. -/
structure Bs2 (l : List Le) (x : Int) (lo hi : Nat) : Prop where
  lo_ : ∀ j (hj : j < l.length), j < lo → l[j].id < x
  hi_ : ∀ j (hj : j < l.length), hi ≤ j → x ≤ l[j].id
theorem Bs2.start (l : List Le) (x : Int) : Bs2 l x 0 l.length := ⟨fun j _ h => absurd h (Nat.not_lt_zero _), fun j hj h => absurd hj (by omega)⟩
theorem Bs2.up {l : List Le} {x : Int} {lo hi m : Nat} (h : Bs2 l x lo hi) (ha : Asc Le.id l) (hm : m < l.length) (hx : l[m].id < x) : Bs2 l x (m + 1) hi :=
  ⟨fun j hj h' => by
    by_cases e : j = m
    · subst e; exact hx
    · exact Int.lt_trans (ha.lt (i := j) (j := m) (by omega) hm) hx, h.hi_⟩
theorem Bs2.dn {l : List Le} {x : Int} {lo hi m : Nat} (h : Bs2 l x lo hi) (ha : Asc Le.id l) (hm : m < l.length) (hx : x ≤ l[m].id) : Bs2 l x lo m :=
  ⟨h.lo_, fun j hj h' => by
    by_cases e : j = m
    · subst e; exact hx
    · exact Int.le_trans hx (Int.le_of_lt (ha.lt (i := m) (j := j) (by omega) hj))⟩
theorem Bs2.at_ {l : List Le} {x : Int} {i : Nat} (h : Bs2 l x i i) (hi : i ≤ l.length) : kAt Le.id l x = i :=
  kAt_hit hi (fun j hj => h.lo_ j _ hj) fun hk => h.hi_ i hk (Nat.le_refl _)
end Go.Proofs.Ytijpflljopckiaa
namespace Go.Proofs.Ytijpflljopckiaa
open Go.RowKit
set_option linter.unusedVariables false

/-- A list of leases as a result: it is new. -/
def ElV (w : World) (l : List Le) (e : Ending) (w' : World) : Prop := ∃ A c, e = .returned (.slice A l.length c) ∧ Nw w.heap.size A ∧ El w' w'.heap.size (.slice A l.length c) l ∧ Below w.heap.size w w'
/-- A box of a message that may be written. -/
abbrev RMs (W : World) (r : Nat) (M : Msg) : Prop := W.cell? ⟨r, 0, none⟩ = some (.int .i64 M.id) ∧ W.cell? ⟨r, 1, none⟩ = some (.int .i64 M.rt) ∧ W.cell? ⟨r, 2, none⟩ = some (.int .i64 M.ep) ∧ W.cell? ⟨r, 3, none⟩ = some (.int .i64 M.ct) ∧ W.cell? ⟨r, 4, none⟩ = some (.int .i64 M.gn) ∧ W.cell? ⟨r, 5, none⟩ = some (.int .i64 M.st) ∧ W.cell? ⟨r, 6, none⟩ = some (.string M.bd) ∧ W.frozen? ⟨r, 0, none⟩ = false ∧ W.frozen? ⟨r, 1, none⟩ = false ∧ W.frozen? ⟨r, 2, none⟩ = false ∧ W.frozen? ⟨r, 3, none⟩ = false ∧ W.frozen? ⟨r, 4, none⟩ = false ∧ W.frozen? ⟨r, 5, none⟩ = false ∧ W.frozen? ⟨r, 6, none⟩ = false ∧ r < W.heap.size
theorem RMs.lt {W : World} {r : Nat} {M : Msg} (h : RMs W r M) : r < W.heap.size := h.2.2.2.2.2.2.2.2.2.2.2.2.2.2
theorem RMs.below {B : Nat} {W W' : World} {r : Nat} {M : Msg} (h : RMs W r M) (hb : Below B W W') (hr : r < B) : RMs W' r M :=
  ⟨(hb.cell (p := ⟨r, 0, none⟩) hr).trans h.1, (hb.cell (p := ⟨r, 1, none⟩) hr).trans h.2.1, (hb.cell (p := ⟨r, 2, none⟩) hr).trans h.2.2.1, (hb.cell (p := ⟨r, 3, none⟩) hr).trans h.2.2.2.1, (hb.cell (p := ⟨r, 4, none⟩) hr).trans h.2.2.2.2.1, (hb.cell (p := ⟨r, 5, none⟩) hr).trans h.2.2.2.2.2.1, (hb.cell (p := ⟨r, 6, none⟩) hr).trans h.2.2.2.2.2.2.1, (hb.frozen (p := ⟨r, 0, none⟩) hr).trans h.2.2.2.2.2.2.2.1, (hb.frozen (p := ⟨r, 1, none⟩) hr).trans h.2.2.2.2.2.2.2.2.1, (hb.frozen (p := ⟨r, 2, none⟩) hr).trans h.2.2.2.2.2.2.2.2.2.1, (hb.frozen (p := ⟨r, 3, none⟩) hr).trans h.2.2.2.2.2.2.2.2.2.2.1, (hb.frozen (p := ⟨r, 4, none⟩) hr).trans h.2.2.2.2.2.2.2.2.2.2.2.1, (hb.frozen (p := ⟨r, 5, none⟩) hr).trans h.2.2.2.2.2.2.2.2.2.2.2.2.1, (hb.frozen (p := ⟨r, 6, none⟩) hr).trans h.2.2.2.2.2.2.2.2.2.2.2.2.2.1, Nat.lt_of_lt_of_le h.2.2.2.2.2.2.2.2.2.2.2.2.2.2 hb.size⟩
theorem RMs.start (w : World) (M : Msg) (t : TypeId) : RMs (w.alloc (.cells #[.int .i64 M.id, .int .i64 M.rt, .int .i64 M.ep, .int .i64 M.ct, .int .i64 M.gn, .int .i64 M.st, .string M.bd] t)) w.heap.size M :=
  ⟨by simp [go_sem], by simp [go_sem], by simp [go_sem], by simp [go_sem], by simp [go_sem], by simp [go_sem], by simp [go_sem], by simp [go_sem], by simp [go_sem], by simp [go_sem], by simp [go_sem], by simp [go_sem], by simp [go_sem], by simp [go_sem], by simp⟩
/-- The work of Release: the table, the result table, the result message. -/
structure RlW (w : World) (p r s : Nat) (A : Option Addr) (c : Nat) (l : List Le) (A2 : Option Addr) (c2 : Nat) (h : List Du) (W : World) : Prop where
  va : VaA w p A c l A2 c2 h W
  rt : RT W r none 0 0 none 0 0
  rm : RMs W s zM
  ne : w.heap.size ≤ p ∧ p < r ∧ r < s
section
variable {w W W' : World} {p r s c c2 : Nat} {A A2 : Option Addr} {l : List Le} {h : List Du}
theorem RlW.below (k : RlW w p r s A c l A2 c2 h W) (hb : Below W.heap.size W W') : RlW w p r s A c l A2 c2 h W' := ⟨k.va.below hb, k.rt.below hb k.rt.lt, k.rm.below hb k.rm.lt, k.ne⟩
theorem RlW.start (hv : El w w.heap.size (.slice A l.length c) l) (hd : Dl w w.heap.size (.slice A2 h.length c2) h) (t u : TypeId) : RlW w w.heap.size (w.heap.size + 1) (w.heap.size + 1 + 1) A c l A2 c2 h (((w.alloc (.cells #[.slice A l.length c, .slice A2 h.length c2] t)).alloc (.cells #[.slice none 0 0, .slice none 0 0] t)).alloc (.cells #[.int .i64 0, .int .i64 0, .int .i64 0, .int .i64 0, .int .i64 0, .int .i64 0, .string ⟨#[]⟩] u)) := by
  have e1 : (w.alloc (.cells #[.slice A l.length c, .slice A2 h.length c2] t)).heap.size = w.heap.size + 1 := by simp
  have e2 : ((w.alloc (.cells #[.slice A l.length c, .slice A2 h.length c2] t)).alloc (.cells #[.slice none 0 0, .slice none 0 0] t)).heap.size = w.heap.size + 1 + 1 := by simp
  have k1 := RT.start (w.alloc (.cells #[.slice A l.length c, .slice A2 h.length c2] t)) none 0 0 none 0 0 t
  have k2 := RMs.start ((w.alloc (.cells #[.slice A l.length c, .slice A2 h.length c2] t)).alloc (.cells #[.slice none 0 0, .slice none 0 0] t)) zM u
  rw [e1] at k1
  rw [e2] at k2
  exact ⟨((VaA.start t hv hd).alloc _).alloc _, k1.below ((Below.refl _ _).alloc (Nat.le_refl _) _) k1.lt, k2, Nat.le_refl _, Nat.lt_succ_self _, Nat.lt_succ_self _⟩
end
end Go.Proofs.Ytijpflljopckiaa
