/- What is proved here: '==' and '!=' of two stripes; slices.Equal, stripe.Same, ref11.Same by contracts; slices.Grow, slices.Concat of messages by contracts; dead.Put by one contract; shardqueueref08.New, sound, Validate, Room, Same by contracts; '==' and '!=' of a lease and itself. -/
import Derived.Test.YtijpflljopckiaaJ12
import Derived.Test.YtijpflljopckiaaRows
import Derived.Test.YtijpflljopckiaaJ02
import Derived.WalkKit
import Derived.Outline
import Derived.IntWalk
import Derived.Test.YtijpflljopckiaaJ27
import Derived.Laws.StructEq
import Derived.KernelRfl
import Derived.Deep.QuietTactic
import Derived.BigQuiet
import Derived.Test.YtijpflljopckiaaJ03
import Derived.Deep.AppendLies
import Derived.WalkSpells
import Derived.Lib.AppendZerosOnto
import Derived.Shelf.Spec.SlicesGrow
import Derived.Deep.RegionHeld3
import Derived.Test.YtijpflljopckiaaJ32
import Derived.Test.YtijpflljopckiaaJ23
import Derived.Test.YtijpflljopckiaaJ08
import Derived.Test.YtijpflljopckiaaJ04
namespace Go.Proofs.Ytijpflljopckiaa
open Go.RowKit
set_option linter.unusedVariables false

theorem eqst_in (a b : St) (W : World) : (Op.equalIn 10000 90 a.v b.v).run Try.prog W = .ok (decide (a = b)) W := by
  have u3 := Try.underlying3
  have hS : Try.prog.underlying 90 = some (.struct (Try.prog.fieldsOf 90)) := by kernel_rfl
  have hp : Try.prog.stoodInHeld 90 = false := by kernel_rfl
  rw [show (10000 : Nat) = 9999 + 1 from rfl, run_equalIn_agg W 9999 90 _ _ hS hp]
  simp only [Program.fieldsOf, Try.underlying90]
  by_cases h0 : a.sq = b.sq
  · by_cases h1 : a.ep = b.ep
    · by_cases h2 : a.rd = b.rd
      · by_cases h3 : a.ls = b.ls
        · have e : decide (a = b) = true := decide_eq_true (by cases a; cases b; simp_all)
          have h0' : (a.sq == b.sq) = true := by simpa using h0
          have h1' : (a.ep == b.ep) = true := by simpa using h1
          have h2' : (a.rd == b.rd) = true := by simpa using h2
          have h3' : (a.ls == b.ls) = true := by simpa using h3
          rw [e]
          clear e h0 h1 h2 h3
          go_simp
        · have e : decide (a = b) = false := decide_eq_false (fun e => h3 (by rw [e]))
          have h0' : (a.sq == b.sq) = true := by simpa using h0
          have h1' : (a.ep == b.ep) = true := by simpa using h1
          have h2' : (a.rd == b.rd) = true := by simpa using h2
          have h3' : (a.ls == b.ls) = false := by simpa using h3
          rw [e]
          clear e h0 h1 h2 h3
          go_simp
      · have e : decide (a = b) = false := decide_eq_false (fun e => h2 (by rw [e]))
        have h0' : (a.sq == b.sq) = true := by simpa using h0
        have h1' : (a.ep == b.ep) = true := by simpa using h1
        have h2' : (a.rd == b.rd) = false := by simpa using h2
        rw [e]
        clear e h0 h1 h2
        go_simp
    · have e : decide (a = b) = false := decide_eq_false (fun e => h1 (by rw [e]))
      have h0' : (a.sq == b.sq) = true := by simpa using h0
      have h1' : (a.ep == b.ep) = false := by simpa using h1
      rw [e]
      clear e h0 h1
      go_simp
  · have e : decide (a = b) = false := decide_eq_false (fun e => h0 (by rw [e]))
    have h0' : (a.sq == b.sq) = false := by simpa using h0
    rw [e]
    clear e h0
    go_simp
theorem neqst (a b : St) : ∀ W, (binOp .neq 90 a.v b.v).run Try.prog W = .ok (.bool (!decide (a = b))) W := fun W => by
  rw [run_neq_struct, eqst_in]; rfl

/-- Same's answer. -/
def smB (a b : List St) : Bool := decide (a = b)
theorem sm_yes {a b : List St} (hl : a.length = b.length) (h : ∀ j, j < a.length → tg a j = tg b j) : smB a b = true := decide_eq_true (by
  apply List.ext_getElem hl
  intro k h1 h2
  have := h k h1
  rwa [tg_get h1, tg_get h2] at this)
theorem sm_no {a b : List St} {j : Nat} (h : tg a j ≠ tg b j) : smB a b = false := decide_eq_false (fun e => h (by rw [e]))
theorem sm_len {a b : List St} (h : a.length ≠ b.length) : smB a b = false := decide_eq_false (fun e => h (by rw [e]))
theorem sm_self (a : List St) : smB a a = true := decide_eq_true rfl
/-- Two lists, read only. -/
structure TwT (w : World) (A B : Option Addr) (n m : Nat) (c d : Nat) (x y : List St) (W : World) : Prop where
  a : Tl W W.heap.size (.slice A n c) x
  b : Tl W W.heap.size (.slice B m d) y
  bel : Below w.heap.size w W
theorem TwT.up {w W W' : World} {A B : Option Addr} {n m c d : Nat} {x y : List St} (h : TwT w A B n m c d x y W) (hb : Below W.heap.size W W') : TwT w A B n m c d x y W' := ⟨h.a.up hb, h.b.up hb, h.bel.trans (hb.mono h.bel.size)⟩
theorem TwT.drewN {w W : World} {A B : Option Addr} {n m c d : Nat} {x y : List St} (h : TwT w A B n m c d x y W) (k : Nat) : TwT w A B n m c d x y (W.drewN k) := h.up (bel_drewN (Below.refl _ _) k)

set_option maxHeartbeats 2000000 in
set_option maxRecDepth 20000 in
theorem rsame11_any (A B : Option Addr) (n m c d : Nat) (x y : List St) (w : World) (hx : Tl w w.heap.size (.slice A n c) x) (hy : Tl w w.heap.size (.slice B m d) y) :
    Calls Try.prog 53 #[.slice A n c, .slice B m d] w fun e w' => e = .returned (.bool (smB x y)) ∧ Below w.heap.size w w' := by
  obtain ⟨rfl, hm1, hm2⟩ := hx.len
  obtain ⟨rfl, hm3, hm4⟩ := hy.len
  have hL : x.length ≤ 9223372036854775807 := by unfold maxLen at hm2; omega
  have H0 := Lib.hid (show TwT w A B x.length y.length c d x y w from ⟨hx, hy, Below.refl _ _⟩)
  clear hx hy hm1 hm2 hm3 hm4
  by_cases hl : x.length = y.length
  · have hlI : ((x.length : Int) != (y.length : Int)) = false := bne_eq_false_iff_eq.2 (by omega)
    have HL := Lib.hid hl
    have hly : ∀ k : Nat, k < x.length → k < y.length := fun k h => by omega
    clear hl
    go_enter Try.func53, Try.ntmps53
    go_wp2
    go_loopw [5] (fun i wr => ∃ k : Nat, k ≤ x.length ∧ i = .int .i64 k ∧ Hid (TwT w A B x.length y.length c d x y wr) ∧ ∀ j, j < k → tg x j = tg y j) (fun i _ => x.length - (intOf i).toNat)
    case atStart => exact ⟨0, by omega, rfl, H0, fun j h => absurd h (by omega)⟩
    case round =>
      clear H0
      obtain ⟨k, hk, rfl, H1, hno⟩ := hrel
      have HN := Lib.hid hno
      clear hno
      by_cases hlt : k < x.length
      · have hlt2 : k < y.length := hly k hlt
        have hlt' : (k : Int) < (x.length : Int) := by omega
        have hltI : (k : Int) < (y.length : Int) := by omega
        have hw2 : IntKind.i64.wrap ((k : Int) + 1) = (k : Int) + 1 := IntWalk.i64_in _ (by omega)
        obtain ⟨b, o, rfl, hbl, c0, c1, c2, c3⟩ := H1.out.a.atg hlt
        obtain ⟨b', o', rfl, hbl', d0, d1, d2, d3⟩ := H1.out.b.atg hlt2
        have hne := neqst (tg x k) (tg y k)
        by_cases he : tg x k = tg y k
        · have HNN := Lib.hid (show ∀ j, j < k + 1 → tg x j = tg y j from fun j h => by
            by_cases e : j = k
            · rw [e]; exact he
            · exact HN.out j (by omega))
          rw [decide_eq_true he] at hne
          simp only [Bool.not_true] at hne
          clear he
          generalize tg x k = M at *
          generalize tg y k = M' at *
          go_wp2
          go_quiet (fail)
          go_wp2
          go_roundw
          case rel => exact ⟨k + 1, by omega, by go_num, Lib.hid (H1.out.drewN _), HNN.out⟩
          case measure => simp [intOf]; omega
        · have HR := Lib.hid (sm_no he)
          rw [decide_eq_false he] at hne
          simp only [Bool.not_false] at hne
          clear he
          generalize tg x k = M at *
          generalize tg y k = M' at *
          go_wp2
          go_quiet (fail)
          go_wp2
          go_ret
          exact ⟨by rw [HR.out]; rfl, (H1.out.drewN _).bel⟩
      · have HR := Lib.hid (sm_yes HL.out (fun j hj => HN.out j (by omega)))
        go_wp2
        go_ret
        exact ⟨by rw [HR.out]; rfl, H1.out.bel⟩
  · have hlI : ((x.length : Int) != (y.length : Int)) = true := bne_iff_ne.2 (fun e => hl (by omega))
    have HR := Lib.hid (sm_len hl)
    clear hl
    go_enter Try.func53, Try.ntmps53
    go_wp2
    go_ret
    exact ⟨by rw [HR.out]; rfl, H0.out.bel⟩

end Go.Proofs.Ytijpflljopckiaa
namespace Go.Proofs.Ytijpflljopckiaa
open Go.RowKit
set_option linter.unusedVariables false

/-- Two slices in an array of the call's own. -/
structure Mc2 (W : World) (g : Nat) (v0 v1 : Value) (l0 l1 : List Msg) : Prop where
  c0 : W.cell? ⟨g, 0, none⟩ = some v0
  c1 : W.cell? ⟨g, 1, none⟩ = some v1
  lt : g < W.heap.size
  e0 : Ls W W.heap.size v0 l0
  e1 : Ls W W.heap.size v1 l1
theorem Mc2.start {w : World} {v0 v1 : Value} {l0 l1 : List Msg} (t : TypeId) (h0 : Ls w w.heap.size v0 l0) (h1 : Ls w w.heap.size v1 l1) : Mc2 (w.alloc (.cells #[v0, v1] t)) w.heap.size v0 v1 l0 l1 := by
  have hb := (Below.refl w.heap.size w).alloc (Nat.le_refl _) (.cells #[v0, v1] t)
  refine ⟨?_, ?_, by simp, (h0.below hb).more hb.size, (h1.below hb).more hb.size⟩
  · rw [World.cell?_alloc_new]; rfl
  · rw [World.cell?_alloc_new]; rfl
end Go.Proofs.Ytijpflljopckiaa
namespace Go.Proofs.Ytijpflljopckiaa
open Go.RowKit
set_option linter.unusedVariables false

/-- The boxes of a store and of a result. -/
structure Tw8 (w : World) (p r : Nat) (cap : Int) (A : Option Addr) (c : Nat) (l : List Msg) (W : World) : Prop where
  db : Db8 W p cap A l.length c
  rs : Db8 W r 0 none 0 0
  ls : Ls W w.heap.size (.slice A l.length c) l
  bel : Below w.heap.size w W
  old : w.heap.size ≤ p ∧ p < r
section
variable {w W W' : World} {p r c : Nat} {cap : Int} {A : Option Addr} {l : List Msg}
theorem Tw8.below (h : Tw8 w p r cap A c l W) (hb : Below W.heap.size W W') : Tw8 w p r cap A c l W' :=
  ⟨h.db.up hb, h.rs.up hb, h.ls.below (hb.mono h.bel.size), h.bel.trans (hb.mono h.bel.size), h.old⟩
theorem Tw8.alloc (h : Tw8 w p r cap A c l W) (o : Obj) : Tw8 w p r cap A c l (W.alloc o) := h.below ((Below.refl _ _).alloc (Nat.le_refl _) o)
theorem Tw8.drew (h : Tw8 w p r cap A c l W) : Tw8 w p r cap A c l W.drew := ⟨h.db.drew, h.rs.drew, h.ls.drew, h.bel.drew, h.old⟩
theorem Tw8.here (h : Tw8 w p r cap A c l W) : Ls W W.heap.size (.slice A l.length c) l := h.ls.more h.bel.size
theorem Tw8.start (t u : TypeId) (cap : Int) (hv : Ls w w.heap.size (.slice A l.length c) l) : Tw8 w w.heap.size (w.heap.size + 1) cap A c l ((w.alloc (.cells #[.int .i64 cap, .slice A l.length c] t)).alloc (.cells #[.int .i64 0, .slice none 0 0] u)) := by
  have h2 := Db8.fresh (w.alloc (.cells #[.int .i64 cap, .slice A l.length c] t)) 0 none 0 0 u
  have e : (w.alloc (.cells #[.int .i64 cap, .slice A l.length c] t)).heap.size = w.heap.size + 1 := by simp
  rw [e] at h2
  exact ⟨(Db8.fresh w cap A l.length c t).alloc _, h2, (hv.alloc (Nat.le_refl _) _).alloc (by simp) _, ((Below.refl _ _).alloc (Nat.le_refl _) _).alloc (by simp) _, Nat.le_refl _, by omega⟩
/-- A result is stored: the zero store. -/
theorem Tw8.zero (h : Tw8 w p r cap A c l W) : Below w.heap.size w ((W.setCell ⟨r, 0, none⟩ (.int .i64 0)).setCell ⟨r, 1, none⟩ (.slice none 0 0)) :=
  (h.bel.setCell (p := ⟨r, 0, none⟩) (show w.heap.size ≤ r by have := h.old; omega) _).setCell (p := ⟨r, 1, none⟩) (show w.heap.size ≤ r by have := h.old; omega) _
theorem Tw8.out (h : Tw8 w p r cap A c l W) (e : Int) : D8 w 0 [] e (.returned (.tuple #[.agg #[.int .i64 0, .slice none 0 0], .int .i64 e])) ((W.setCell ⟨r, 0, none⟩ (.int .i64 0)).setCell ⟨r, 1, none⟩ (.slice none 0 0)) :=
  ⟨none, 0, rfl, nw_none, Ls.nil, h.zero⟩
end
/-- Put's state behind the joining of the lists. -/
structure Pu8 (w : World) (p r : Nat) (cap : Int) (A : Option Addr) (c : Nat) (l : List Msg) (W : World) : Prop where
  db : Db8 W p cap A l.length c
  rs : Db8 W r 0 none 0 0
  ls : Ls W W.heap.size (.slice A l.length c) l
  nw : Nw (r + 1) A
  bel : Below w.heap.size w W
  old : w.heap.size ≤ p ∧ p < r
section
variable {w W W' : World} {p r c : Nat} {cap : Int} {A : Option Addr} {l : List Msg}
theorem Pu8.below (h : Pu8 w p r cap A c l W) (hb : Below W.heap.size W W') : Pu8 w p r cap A c l W' :=
  ⟨h.db.up hb, h.rs.up hb, (h.ls.below hb).more hb.size, h.nw, h.bel.trans (hb.mono h.bel.size), h.old⟩
theorem Pu8.zero (h : Pu8 w p r cap A c l W) : Below w.heap.size w ((W.setCell ⟨r, 0, none⟩ (.int .i64 0)).setCell ⟨r, 1, none⟩ (.slice none 0 0)) :=
  (h.bel.setCell (p := ⟨r, 0, none⟩) (show w.heap.size ≤ r by have := h.old; omega) _).setCell (p := ⟨r, 1, none⟩) (show w.heap.size ≤ r by have := h.old; omega) _
theorem Pu8.out (h : Pu8 w p r cap A c l W) : D8 w cap l 0 (.returned (.tuple #[.agg #[.int .i64 cap, .slice A l.length c], .int .i64 0])) ((W.setCell ⟨r, 0, none⟩ (.int .i64 cap)).setCell ⟨r, 1, none⟩ (.slice A l.length c)) := by
  have ho : Ob r l.length A := ob_nw h.nw (Nat.lt_succ_self r)
  refine ⟨A, c, rfl, nw_low h.nw (by have := h.old; omega), ?_, (h.bel.setCell (p := ⟨r, 0, none⟩) (show w.heap.size ≤ r by have := h.old; omega) _).setCell (p := ⟨r, 1, none⟩) (show w.heap.size ≤ r by have := h.old; omega) _⟩
  have := (h.ls.offo (p := ⟨r, 0, none⟩) ho (.int .i64 cap)).offo (p := ⟨r, 1, none⟩) ho (.slice A l.length c)
  simpa using this
end
end Go.Proofs.Ytijpflljopckiaa
namespace Go.Proofs.Ytijpflljopckiaa
open Go.RowKit
set_option linter.unusedVariables false

theorem rnew8_any (n : Int) (w : World) : Calls Try.prog 61 #[.int .i64 n] w (N8 w (nw8 n) (nw8E n)) := by
  have HB := Lib.hid (Db8.fresh w 0 none 0 0 29)
  by_cases h1 : n < 1
  · have h := wi_low (hi := 24) h1
    have HE := Lib.hid (show nw8 n = 0 ∧ nw8E n = 1 from ⟨if_neg (by rw [h]; decide), if_neg (by rw [h]; decide)⟩)
    clear h
    go_enter Try.func61, Try.ntmps61
    obtain ⟨b0, b1, bl, f0, f1⟩ := HB.out.all
    go_wp2
    exact bodyPost_ret (v := .tuple #[.agg #[.int .i64 0, .slice none 0 0], .int .i64 1]) (by simp only [results, Try.results61]; go_simp <;> rfl) rfl ⟨by rw [HE.out.1, HE.out.2], (Below.refl _ _).alloc (Nat.le_refl _) _⟩
  · by_cases h2 : 24 < n
    · have h := wi_high (lo := 1) h2
      have HE := Lib.hid (show nw8 n = 0 ∧ nw8E n = 1 from ⟨if_neg (by rw [h]; decide), if_neg (by rw [h]; decide)⟩)
      clear h
      go_enter Try.func61, Try.ntmps61
      obtain ⟨b0, b1, bl, f0, f1⟩ := HB.out.all
      go_wp2
      exact bodyPost_ret (v := .tuple #[.agg #[.int .i64 0, .slice none 0 0], .int .i64 1]) (by simp only [results, Try.results61]; go_simp <;> rfl) rfl ⟨by rw [HE.out.1, HE.out.2], (Below.refl _ _).alloc (Nat.le_refl _) _⟩
    · have h := wi_true (lo := 1) (hi := 24) (n := n) (by omega) (by omega)
      have HE := Lib.hid (show nw8 n = n ∧ nw8E n = 0 from ⟨if_pos h, if_pos h⟩)
      clear h
      go_enter Try.func61, Try.ntmps61
      obtain ⟨b0, b1, bl, f0, f1⟩ := HB.out.all
      go_wp2
      exact bodyPost_ret (v := .tuple #[.agg #[.int .i64 n, .slice none 0 0], .int .i64 0]) (by simp only [results, Try.results61]; go_simp <;> rfl) rfl ⟨by rw [HE.out.1, HE.out.2], (Below.refl _ _).alloc (Nat.le_refl _) _⟩
/-- Two stores that are the same. -/
theorem rsame8_yes (cap : Int) (A A' : Option Addr) (n n' c c' : Nat) (l : List Msg) (w : World) (hv : Ls w w.heap.size (.slice A n c) l) (hv' : Ls w w.heap.size (.slice A' n' c') l) :
    Calls Try.prog 54 #[.agg #[.int .i64 cap, .slice A n c], .agg #[.int .i64 cap, .slice A' n' c']] w fun e w' => e = .returned (.bool true) ∧ Below w.heap.size w w' := by
  obtain ⟨rfl, _, _⟩ := hv.len
  obtain ⟨rfl, _, _⟩ := hv'.len
  have H0 := Lib.hid ((VaAt8.start 29 cap hv).alloc (.cells #[.int .i64 cap, .slice A' l.length c'] 29))
  have h1 := VaAt8.start (w := w.alloc (.cells #[.int .i64 cap, .slice A l.length c] 29)) 29 cap ((hv'.alloc (Nat.le_refl _) (.cells #[.int .i64 cap, .slice A l.length c] 29)).more (by simp))
  rw [show (w.alloc (.cells #[.int .i64 cap, .slice A l.length c] 29)).heap.size = w.heap.size + 1 by simp] at h1
  have H1 := Lib.hid h1
  have HS := Lib.hid (fun W (h : Ls W W.heap.size (.slice A l.length c) l) (h' : Ls W W.heap.size (.slice A' l.length c') l) => rsame_yes A A' l.length l.length c c' l W _ _ h h')
  clear hv hv' h1
  obtain ⟨b0, b1, bl⟩ := H0.out.db.facts
  obtain ⟨d0, d1, dl⟩ := H1.out.db.facts
  go_enter Try.func54, Try.ntmps54
  go_wp2_with fail
  refine (HS.out _ H0.out.here H1.out.here).mono ?_
  rintro e w1 ⟨rfl, hb⟩
  have HF := Lib.hid (H0.out.below hb)
  clear hb b0 b1 bl d0 d1 dl
  go_wp2
  go_ret
  exact ⟨rfl, HF.out.bel⟩
end Go.Proofs.Ytijpflljopckiaa
namespace Go.Proofs.Ytijpflljopckiaa
open Go.RowKit
set_option linter.unusedVariables false

theorem eqm_fuel (M : Msg) (f : Nat) (W : World) : (Op.equalIn (f + 2) 151 M.v M.v).run Try.prog W = .ok true W := by
  have u3 := Try.underlying3
  have u9 := Try.underlying9
  have hS : Try.prog.underlying 151 = some (.struct (Try.prog.fieldsOf 151)) := by kernel_rfl
  have hp : Try.prog.stoodInHeld 151 = false := by kernel_rfl
  rw [show f + 2 = (f + 1) + 1 from rfl, run_equalIn_agg W (f + 1) 151 _ _ hS hp]
  simp only [Program.fieldsOf, Try.underlying151]
  go_simp
theorem eql_in (x : Le) (W : World) : (Op.equalIn 10000 154 x.v x.v).run Try.prog W = .ok true W := by
  have u3 := Try.underlying3
  have hS : Try.prog.underlying 154 = some (.struct (Try.prog.fieldsOf 154)) := by kernel_rfl
  have hp : Try.prog.stoodInHeld 154 = false := by kernel_rfl
  have hM := fun W => eqm_fuel x.m 9997 W
  rw [show (10000 : Nat) = 9999 + 1 from rfl, run_equalIn_agg W 9999 154 _ _ hS hp]
  simp only [Program.fieldsOf, Try.underlying154]
  go_simp
theorem eql (x : Le) : ∀ W, (binOp .eql 154 x.v x.v).run Try.prog W = .ok (.bool true) W := fun W => by
  rw [run_eql_struct, eql_in]; rfl
theorem neql (x : Le) : ∀ W, (binOp .neq 154 x.v x.v).run Try.prog W = .ok (.bool false) W := fun W => by
  rw [run_neq_struct, eql_in]; rfl
end Go.Proofs.Ytijpflljopckiaa
