/- What is proved here: '==' and '!=' of two stripes; slices.Equal, stripe.Same, ref11.Same by contracts; stripe.Quiet, its closure, slices.IndexFunc and ContainsFunc over it, ref11.Quiet by contracts. -/
import Derived.Test.YtdilgeabcacbdaaGreatJ18
import Derived.Test.YtdilgeabcacbdaaGreatJ01
import Derived.Test.YtdilgeabcacbdaaGreatJ43
import Derived.Laws.StructEq
import Derived.KernelRfl
import Derived.Deep.QuietTactic
import Derived.BigQuiet
namespace Go.Proofs.YtdilgeabcacbdaaGreat
open Go.RowKit
set_option linter.unusedVariables false

theorem eqst_in (a b : St) (W : World) : (Op.equalIn 10000 28 a.v b.v).run Tryz.prog W = .ok (decide (a = b)) W := by
  have u3 := Tryz.underlying3
  have hS : Tryz.prog.underlying 28 = some (.struct (Tryz.prog.fieldsOf 28)) := by kernel_rfl
  have hp : Tryz.prog.stoodInHeld 28 = false := by kernel_rfl
  rw [show (10000 : Nat) = 9999 + 1 from rfl, run_equalIn_agg W 9999 28 _ _ hS hp]
  simp only [Program.fieldsOf, Tryz.underlying28]
  by_cases h0 : a.sq = b.sq
  · by_cases h1 : a.ep = b.ep
    · by_cases h2 : a.rd = b.rd
      · by_cases h3 : a.ls = b.ls
        · have e : decide (a = b) = true := decide_eq_true (by cases a; cases b; simp_all)
          have h0' : (a.sq == b.sq) = true := by simpa using h0
          have h1' : (a.ep == b.ep) = true := by simpa using h1
          have h2' : (a.rd == b.rd) = true := by simpa using h2
          have h3' : (a.ls == b.ls) = true := by simpa using h3
          rw [e]
          clear e h0 h1 h2 h3
          go_simp
        · have e : decide (a = b) = false := decide_eq_false (fun e => h3 (by rw [e]))
          have h0' : (a.sq == b.sq) = true := by simpa using h0
          have h1' : (a.ep == b.ep) = true := by simpa using h1
          have h2' : (a.rd == b.rd) = true := by simpa using h2
          have h3' : (a.ls == b.ls) = false := by simpa using h3
          rw [e]
          clear e h0 h1 h2 h3
          go_simp
      · have e : decide (a = b) = false := decide_eq_false (fun e => h2 (by rw [e]))
        have h0' : (a.sq == b.sq) = true := by simpa using h0
        have h1' : (a.ep == b.ep) = true := by simpa using h1
        have h2' : (a.rd == b.rd) = false := by simpa using h2
        rw [e]
        clear e h0 h1 h2
        go_simp
    · have e : decide (a = b) = false := decide_eq_false (fun e => h1 (by rw [e]))
      have h0' : (a.sq == b.sq) = true := by simpa using h0
      have h1' : (a.ep == b.ep) = false := by simpa using h1
      rw [e]
      clear e h0 h1
      go_simp
  · have e : decide (a = b) = false := decide_eq_false (fun e => h0 (by rw [e]))
    have h0' : (a.sq == b.sq) = false := by simpa using h0
    rw [e]
    clear e h0
    go_simp
theorem eqst (a b : St) : ∀ W, (binOp .eql 28 a.v b.v).run Tryz.prog W = .ok (.bool (decide (a = b))) W := fun W => by
  rw [run_eql_struct, eqst_in]; rfl
theorem neqst (a b : St) : ∀ W, (binOp .neq 28 a.v b.v).run Tryz.prog W = .ok (.bool (!decide (a = b))) W := fun W => by
  rw [run_neq_struct, eqst_in]; rfl

/-- Same's answer. -/
def smB (a b : List St) : Bool := decide (a = b)
theorem sm_yes {a b : List St} (hl : a.length = b.length) (h : ∀ j, j < a.length → tg a j = tg b j) : smB a b = true := decide_eq_true (by
  apply List.ext_getElem hl
  intro k h1 h2
  have := h k h1
  rwa [tg_get h1, tg_get h2] at this)
theorem sm_no {a b : List St} {j : Nat} (h : tg a j ≠ tg b j) : smB a b = false := decide_eq_false (fun e => h (by rw [e]))
theorem sm_len {a b : List St} (h : a.length ≠ b.length) : smB a b = false := decide_eq_false (fun e => h (by rw [e]))
theorem sm_self (a : List St) : smB a a = true := decide_eq_true rfl
/-- Two lists, read only. -/
structure TwT (w : World) (A B : Option Addr) (n m : Nat) (c d : Nat) (x y : List St) (W : World) : Prop where
  a : Tl W W.heap.size (.slice A n c) x
  b : Tl W W.heap.size (.slice B m d) y
  bel : Below w.heap.size w W
theorem TwT.up {w W W' : World} {A B : Option Addr} {n m c d : Nat} {x y : List St} (h : TwT w A B n m c d x y W) (hb : Below W.heap.size W W') : TwT w A B n m c d x y W' := ⟨h.a.up hb, h.b.up hb, h.bel.trans (hb.mono h.bel.size)⟩
theorem TwT.drewN {w W : World} {A B : Option Addr} {n m c d : Nat} {x y : List St} (h : TwT w A B n m c d x y W) (k : Nat) : TwT w A B n m c d x y (W.drewN k) := h.up (bel_drewN (Below.refl _ _) k)

set_option maxHeartbeats 2000000 in
set_option maxRecDepth 20000 in
theorem yequal_any (A B : Option Addr) (n m c d : Nat) (x y : List St) (w : World) (hx : Tl w w.heap.size (.slice A n c) x) (hy : Tl w w.heap.size (.slice B m d) y) :
    Calls Tryz.prog 35 #[.slice A n c, .slice B m d] w fun e w' => e = .returned (.bool (smB x y)) ∧ Below w.heap.size w w' := by
  obtain ⟨rfl, hm1, hm2⟩ := hx.len
  obtain ⟨rfl, hm3, hm4⟩ := hy.len
  have hL : x.length ≤ 9223372036854775807 := by unfold maxLen at hm2; omega
  have H0 := Lib.hid (show TwT w A B x.length y.length c d x y w from ⟨hx, hy, Below.refl _ _⟩)
  clear hx hy hm1 hm2 hm3 hm4
  by_cases hl : x.length = y.length
  · have hlI : ((x.length : Int) != (y.length : Int)) = false := bne_eq_false_iff_eq.2 (by omega)
    have HL := Lib.hid hl
    have hly : ∀ k : Nat, k < x.length → k < y.length := fun k h => by omega
    clear hl
    go_enter Tryz.func35, Tryz.ntmps35
    go_wp2
    go_loopw [13] (fun i wr => ∃ k : Nat, k ≤ x.length ∧ i = .int .i64 k ∧ Hid (TwT w A B x.length y.length c d x y wr) ∧ ∀ j, j < k → tg x j = tg y j) (fun i _ => x.length - (intOf i).toNat)
    case atStart => exact ⟨0, by omega, rfl, H0, fun j h => absurd h (by omega)⟩
    case round =>
      clear H0
      obtain ⟨k, hk, rfl, H1, hno⟩ := hrel
      have HN := Lib.hid hno
      clear hno
      by_cases hlt : k < x.length
      · have hlt2 : k < y.length := hly k hlt
        have hlt' : (k : Int) < (x.length : Int) := by omega
        have hltI : (k : Int) < (y.length : Int) := by omega
        have hw2 : IntKind.i64.wrap ((k : Int) + 1) = (k : Int) + 1 := IntWalk.i64_in _ (by omega)
        obtain ⟨b, o, rfl, hbl, c0, c1, c2, c3⟩ := H1.out.a.atg hlt
        obtain ⟨b', o', rfl, hbl', d0, d1, d2, d3⟩ := H1.out.b.atg hlt2
        have hne := neqst (tg x k) (tg y k)
        by_cases he : tg x k = tg y k
        · have HNN := Lib.hid (show ∀ j, j < k + 1 → tg x j = tg y j from fun j h => by
            by_cases e : j = k
            · rw [e]; exact he
            · exact HN.out j (by omega))
          rw [decide_eq_true he] at hne
          simp only [Bool.not_true] at hne
          clear he
          generalize tg x k = M at *
          generalize tg y k = M' at *
          go_wp2
          go_quiet (fail)
          go_wp2
          go_roundw
          case rel => exact ⟨k + 1, by omega, by go_num, Lib.hid (H1.out.drewN _), HNN.out⟩
          case measure => simp [intOf]; omega
        · have HR := Lib.hid (sm_no he)
          rw [decide_eq_false he] at hne
          simp only [Bool.not_false] at hne
          clear he
          generalize tg x k = M at *
          generalize tg y k = M' at *
          go_wp2
          go_quiet (fail)
          go_wp2
          go_ret
          exact ⟨by rw [HR.out]; rfl, (H1.out.drewN _).bel⟩
      · have HR := Lib.hid (sm_yes HL.out (fun j hj => HN.out j (by omega)))
        go_wp2
        go_ret
        exact ⟨by rw [HR.out]; rfl, H1.out.bel⟩
  · have hlI : ((x.length : Int) != (y.length : Int)) = true := bne_iff_ne.2 (fun e => hl (by omega))
    have HR := Lib.hid (sm_len hl)
    clear hl
    go_enter Tryz.func35, Tryz.ntmps35
    go_wp2
    go_ret
    exact ⟨by rw [HR.out]; rfl, H0.out.bel⟩

set_option maxHeartbeats 2000000 in
set_option maxRecDepth 20000 in
theorem rsame11_any (A B : Option Addr) (n m c d : Nat) (x y : List St) (w : World) (hx : Tl w w.heap.size (.slice A n c) x) (hy : Tl w w.heap.size (.slice B m d) y) :
    Calls Tryz.prog 21 #[.slice A n c, .slice B m d] w fun e w' => e = .returned (.bool (smB x y)) ∧ Below w.heap.size w w' := by
  obtain ⟨rfl, hm1, hm2⟩ := hx.len
  obtain ⟨rfl, hm3, hm4⟩ := hy.len
  have hL : x.length ≤ 9223372036854775807 := by unfold maxLen at hm2; omega
  have H0 := Lib.hid (show TwT w A B x.length y.length c d x y w from ⟨hx, hy, Below.refl _ _⟩)
  clear hx hy hm1 hm2 hm3 hm4
  by_cases hl : x.length = y.length
  · have hlI : ((x.length : Int) != (y.length : Int)) = false := bne_eq_false_iff_eq.2 (by omega)
    have HL := Lib.hid hl
    have hly : ∀ k : Nat, k < x.length → k < y.length := fun k h => by omega
    clear hl
    go_enter Tryz.func21, Tryz.ntmps21
    go_wp2
    go_loopw [5] (fun i wr => ∃ k : Nat, k ≤ x.length ∧ i = .int .i64 k ∧ Hid (TwT w A B x.length y.length c d x y wr) ∧ ∀ j, j < k → tg x j = tg y j) (fun i _ => x.length - (intOf i).toNat)
    case atStart => exact ⟨0, by omega, rfl, H0, fun j h => absurd h (by omega)⟩
    case round =>
      clear H0
      obtain ⟨k, hk, rfl, H1, hno⟩ := hrel
      have HN := Lib.hid hno
      clear hno
      by_cases hlt : k < x.length
      · have hlt2 : k < y.length := hly k hlt
        have hlt' : (k : Int) < (x.length : Int) := by omega
        have hltI : (k : Int) < (y.length : Int) := by omega
        have hw2 : IntKind.i64.wrap ((k : Int) + 1) = (k : Int) + 1 := IntWalk.i64_in _ (by omega)
        obtain ⟨b, o, rfl, hbl, c0, c1, c2, c3⟩ := H1.out.a.atg hlt
        obtain ⟨b', o', rfl, hbl', d0, d1, d2, d3⟩ := H1.out.b.atg hlt2
        have hne := neqst (tg x k) (tg y k)
        by_cases he : tg x k = tg y k
        · have HNN := Lib.hid (show ∀ j, j < k + 1 → tg x j = tg y j from fun j h => by
            by_cases e : j = k
            · rw [e]; exact he
            · exact HN.out j (by omega))
          rw [decide_eq_true he] at hne
          simp only [Bool.not_true] at hne
          clear he
          generalize tg x k = M at *
          generalize tg y k = M' at *
          go_wp2
          go_quiet (fail)
          go_wp2
          go_roundw
          case rel => exact ⟨k + 1, by omega, by go_num, Lib.hid (H1.out.drewN _), HNN.out⟩
          case measure => simp [intOf]; omega
        · have HR := Lib.hid (sm_no he)
          rw [decide_eq_false he] at hne
          simp only [Bool.not_false] at hne
          clear he
          generalize tg x k = M at *
          generalize tg y k = M' at *
          go_wp2
          go_quiet (fail)
          go_wp2
          go_ret
          exact ⟨by rw [HR.out]; rfl, (H1.out.drewN _).bel⟩
      · have HR := Lib.hid (sm_yes HL.out (fun j hj => HN.out j (by omega)))
        go_wp2
        go_ret
        exact ⟨by rw [HR.out]; rfl, H1.out.bel⟩
  · have hlI : ((x.length : Int) != (y.length : Int)) = true := bne_iff_ne.2 (fun e => hl (by omega))
    have HR := Lib.hid (sm_len hl)
    clear hl
    go_enter Tryz.func21, Tryz.ntmps21
    go_wp2
    go_ret
    exact ⟨by rw [HR.out]; rfl, H0.out.bel⟩

theorem ysame_any (A B : Option Addr) (n m c d : Nat) (x y : List St) (w : World) (hx : Tl w w.heap.size (.slice A n c) x) (hy : Tl w w.heap.size (.slice B m d) y) :
    Calls Tryz.prog 20 #[.slice A n c, .slice B m d] w fun e w' => e = .returned (.bool (smB x y)) ∧ Below w.heap.size w w' := by
  have HC := Lib.hid (yequal_any A B n m c d x y w hx hy)
  clear hx hy
  generalize smB x y = r at *
  go_enter Tryz.func20, Tryz.ntmps20
  go_wp2_with fail
  refine HC.out.mono ?_
  rintro e w1 ⟨rfl, hb⟩
  have HB := Lib.hid hb
  clear hb
  go_wp2
  go_ret
  exact ⟨rfl, HB.out⟩
end Go.Proofs.YtdilgeabcacbdaaGreat
namespace Go.Proofs.YtdilgeabcacbdaaGreat
open Go.RowKit
set_option linter.unusedVariables false

theorem yquiet1_any (d : St) (w : World) :
    Calls Tryz.prog 34 #[d.v] w fun e w' => e = .returned (.bool (!evB d.sq)) ∧ Below w.heap.size w w' := by
  have HB := Lib.hid ((Below.refl w.heap.size w).alloc (Nat.le_refl _) (.cells #[.int .i64 d.sq, .int .i64 d.ep, .int .i64 d.rd, .int .i64 d.ls] 28))
  have HC := Lib.hid (fun W => yodd_any d.sq W)
  generalize evB d.sq = b at *
  go_enter Tryz.func34, Tryz.ntmps34
  go_wp2_with fail
  refine (HC.out _).mono ?_
  rintro e w1 ⟨rfl, rfl⟩
  go_wp2
  go_ret
  exact ⟨rfl, HB.out⟩
/-- A place that is there just if not all stripes are even. -/
def QuP (l : List St) (w : World) (e : Ending) (w' : World) : Prop := ∃ r : Int, e = .returned (.int .i64 r) ∧ decide (0 ≤ r) = (!quB l) ∧ Below w.heap.size w w'
set_option maxHeartbeats 1000000 in
theorem qufunc_any (A : Option Addr) (n c : Nat) (l : List St) (w : World) (hv : Tl w w.heap.size (.slice A n c) l) :
    Calls Tryz.prog 57 #[.slice A n c, .func (.func 34) #[] #[]] w (QuP l w) := by
  obtain ⟨rfl, hm1, hm2⟩ := hv.len
  have hL : l.length ≤ 9223372036854775807 := by unfold maxLen at hm2; omega
  have HV := Lib.hid hv
  have HB := Lib.hid (Below.refl w.heap.size w)
  clear hv hm1 hm2
  go_enter Tryz.func57, Tryz.ntmps57
  go_wp2
  go_loopw [8] (fun i wr => ∃ k : Nat, k ≤ l.length ∧ i = .int .i64 k ∧ Below w.heap.size w wr ∧ ∀ j, j < k → (tg l j).sq % 2 = 0) (fun i _ => l.length - (intOf i).toNat)
  case atStart => exact ⟨0, by omega, rfl, HB.out, fun j h => absurd h (by omega)⟩
  case round =>
    obtain ⟨k, hk, rfl, hb, hno⟩ := hrel
    have HN := Lib.hid hno
    have HVK := Lib.hid (HV.out.below hb)
    have HB := Lib.hid hb
    clear hno hb
    by_cases hlt : k < l.length
    · obtain ⟨b, o, rfl, hb, c0, c1, c2, c3⟩ := HVK.out.atg hlt
      have HF := Lib.hid (fun w1 => yquiet1_any (tg l k) w1)
      by_cases he : (tg l k).sq % 2 = 0
      · have HNN := Lib.hid (show ∀ j, j < k + 1 → (tg l j).sq % 2 = 0 from fun j h => by
          by_cases e : j = k
          · rw [e]; exact he
          · exact HN.out j (by omega))
        rw [evB_yes he] at HF
        clear he
        generalize tg l k = M at *
        go_wp2_with fail
        refine (HF.out _).mono ?_
        rintro e w1 ⟨rfl, hb1⟩
        have HB1 := Lib.hid (HB.out.trans (hb1.mono HB.out.size))
        clear hb1
        go_wp2
        go_roundw
        case rel => exact ⟨k + 1, by omega, by go_num, HB1.out, HNN.out⟩
        case measure => simp [intOf]; omega
      · have HR := Lib.hid (quB_no hlt he)
        rw [evB_no he] at HF
        clear he
        generalize tg l k = M at *
        go_wp2_with fail
        refine (HF.out _).mono ?_
        rintro e w1 ⟨rfl, hb1⟩
        have HB1 := Lib.hid (HB.out.trans (hb1.mono HB.out.size))
        clear hb1
        go_wp2
        go_ret
        exact ⟨k, rfl, by rw [HR.out]; simp, HB1.out⟩
    · have HR := Lib.hid (quB_yes (fun j hj => HN.out j (by omega)))
      go_wp2
      go_ret
      exact ⟨-1, rfl, by rw [HR.out]; rfl, HB.out⟩
theorem qucontains_any (A : Option Addr) (n c : Nat) (l : List St) (w : World) (hv : Tl w w.heap.size (.slice A n c) l) :
    Calls Tryz.prog 33 #[.slice A n c, .func (.func 34) #[] #[]] w fun e w' => e = .returned (.bool (!quB l)) ∧ Below w.heap.size w w' := by
  have HC := Lib.hid (qufunc_any A n c l w hv)
  clear hv
  go_enter Tryz.func33, Tryz.ntmps33
  go_wp2_with fail
  refine HC.out.mono ?_
  rintro e w1 ⟨r, rfl, hr, hb1⟩
  have HR := Lib.hid hr
  have HB1 := Lib.hid hb1
  clear hr hb1
  go_wp2
  go_ret
  exact ⟨by rw [← HR.out]; rfl, HB1.out⟩
theorem yquiet_any (A : Option Addr) (n c : Nat) (l : List St) (w : World) (hv : Tl w w.heap.size (.slice A n c) l) :
    Calls Tryz.prog 18 #[.slice A n c] w fun e w' => e = .returned (.bool (quB l)) ∧ Below w.heap.size w w' := by
  have HC := Lib.hid (qucontains_any A n c l w hv)
  clear hv
  have HE := Lib.hid (show (!(!quB l)) = quB l by simp)
  generalize quB l = r at *
  go_enter Tryz.func18, Tryz.ntmps18
  go_wp2_with fail
  refine HC.out.mono ?_
  rintro e w1 ⟨rfl, hb⟩
  have HB := Lib.hid hb
  clear hb
  go_wp2
  go_ret
  exact ⟨by simp, HB.out⟩
set_option maxHeartbeats 1000000 in
theorem rquiet_any (A : Option Addr) (n c : Nat) (l : List St) (w : World) (hv : Tl w w.heap.size (.slice A n c) l) :
    Calls Tryz.prog 19 #[.slice A n c] w fun e w' => e = .returned (.bool (quB l)) ∧ w' = w := by
  obtain ⟨rfl, hm1, hm2⟩ := hv.len
  have hL : l.length ≤ 9223372036854775807 := by unfold maxLen at hm2; omega
  have HV := Lib.hid hv
  clear hv hm1 hm2
  go_enter Tryz.func19, Tryz.ntmps19
  go_wp2
  go_loopw [3] (fun i wr => ∃ k : Nat, k ≤ l.length ∧ i = .int .i64 k ∧ wr = w ∧ ∀ j, j < k → (tg l j).sq % 2 = 0) (fun i _ => l.length - (intOf i).toNat)
  case atStart => exact ⟨0, by omega, rfl, rfl, fun j h => absurd h (by omega)⟩
  case round =>
    obtain ⟨k, hk, rfl, rfl, hno⟩ := hrel
    have HN := Lib.hid hno
    clear hno
    by_cases hlt : k < l.length
    · obtain ⟨b, o, rfl, hb, c0, c1, c2, c3⟩ := HV.out.atg hlt
      have hem := evB_not (tg l k).sq
      by_cases he : (tg l k).sq % 2 = 0
      · have HNN := Lib.hid (show ∀ j, j < k + 1 → (tg l j).sq % 2 = 0 from fun j h => by
          by_cases e : j = k
          · rw [e]; exact he
          · exact HN.out j (by omega))
        rw [evB_yes he] at hem
        clear he
        generalize tg l k = M at *
        go_wp2
        go_roundw
        case rel => exact ⟨k + 1, by omega, by go_num, by simp, HNN.out⟩
        case measure => simp [intOf]; omega
      · have HR := Lib.hid (quB_no hlt he)
        rw [evB_no he] at hem
        clear he
        generalize tg l k = M at *
        go_wp2
        go_ret
        exact ⟨by rw [HR.out]; rfl, rfl⟩
    · have HR := Lib.hid (quB_yes (fun j hj => HN.out j (by omega)))
      go_wp2
      go_ret
      exact ⟨by rw [HR.out]; rfl, rfl⟩
end Go.Proofs.YtdilgeabcacbdaaGreat
