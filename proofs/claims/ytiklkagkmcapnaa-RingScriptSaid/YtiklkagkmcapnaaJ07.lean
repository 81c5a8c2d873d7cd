/- What is proved here: cuts of a list of messages: what the walk gets, and how it reads; ring.hasValidNumbers, ring.hasZeroFreeCells, ring.hasSameID by contracts; ring.hasSameID, ring.Validate and ring.List by contracts. -/
import Derived.Test.YtiklkagkmcapnaaJ03
import Derived.Test.YtiklkagkmcapnaaJ01
import Derived.Laws.Slices
import Derived.Test.YtiklkagkmcapnaaJ05
import Derived.Test.YtiklkagkmcapnaaJ06
namespace Go.Proofs.Ytiklkagkmcapnaa
open Go.RowKit
set_option linter.unusedVariables false

section
variable {w : World} {B : Nat} {A : Option Addr} {n c : Nat} {l : List Msg}
theorem ls_under : Try.prog.underlying 22 = some (.slice (Try.prog.elem 22)) := by kernel_rfl
theorem ls_elem : Try.prog.elem 22 = 26 := by kernel_rfl
theorem Ls.upto (h : Ls w B (.slice A n c) l) (j : Nat) (hj : j ≤ n) : Ls w B (.slice A j c) (l.take j) := by
  obtain ⟨hn, hl, hm⟩ := h.len
  have hlen : (l.take j).length = j := by simp; omega
  refine ⟨A, c, by rw [hlen], by rw [hlen]; omega, hm, by rw [lcs_len], fun h0 => ?_⟩
  rw [hlen] at h0
  obtain ⟨b, o, rfl, hb, hc⟩ := h.rd.2 (by omega)
  refine ⟨b, o, rfl, hb, fun k u hu => hc k u ?_⟩
  rw [← lcs_take] at hu
  have hk : k < j * 7 := by
    have := (List.getElem?_eq_some_iff.1 hu).1
    simp at this; omega
  rw [← hu, List.getElem?_take_of_lt hk]
theorem Ls.cut (h : Ls w B (.slice A n c) l) (k : Nat) (hk : k ≤ n) : Ls w B (.slice (if c = k then A else A.map (·.add (k * 7))) (n - k) (c - k)) (l.drop k) := by
  obtain ⟨hn, hl, hm⟩ := h.len
  refine ⟨_, c - k, by rw [List.length_drop, hn], by simp; omega, by omega, by rw [lcs_len], fun h0 => ?_⟩
  rw [List.length_drop] at h0
  obtain ⟨b, o, rfl, hb, hc⟩ := h.rd.2 (by omega)
  rw [if_neg (by omega)]
  refine ⟨b, o + k * 7, by rw [Option.map_some, add_mk], hb, fun j u hu => ?_⟩
  rw [Nat.add_assoc]
  refine hc _ u ?_
  rw [← hu, ← lcs_drop, List.getElem?_drop]
theorem run_lupto (A : Option Addr) (n c : Nat) (kh : IntKind) (j : Nat) (hj : j ≤ c) : ∀ W, (Instr.slice 22 (.slice A n c) none (some (.int kh (j : Int))) none).run Try.prog W = .ok (.slice A j c) W := fun W => by
  rw [run_slice_h W _ _ _ _ ls_under kh _ (by omega) (by omega), ls_elem, Try.sizeOf26]
  cases A <;> simp [Result.andThen, sliced, Addr.add]
theorem run_lcut (A : Option Addr) (n c : Nat) (kl : IntKind) (k : Nat) (hk : k ≤ n) : ∃ A', A' = (if c = k then A else A.map (·.add (k * 7))) ∧ ∀ W, (Instr.slice 22 (.slice A n c) (some (.int kl (k : Int))) none none).run Try.prog W = .ok (.slice A' (n - k) (c - k)) W := by
  refine ⟨_, rfl, fun W => ?_⟩
  rw [run_slice_l W _ _ _ _ ls_under kl _ (by omega) (by omega), ls_elem, Try.sizeOf26]
  simp [Result.andThen, sliced]
end
end Go.Proofs.Ytiklkagkmcapnaa
namespace Go.Proofs.Ytiklkagkmcapnaa
open Go.RowKit
set_option linter.unusedVariables false

set_option maxHeartbeats 2000000 in
theorem gnums_any (A : Option Addr) (n c : Nat) (hd sz : Int) (w : World) (hm : n ≤ maxLen) :
    Calls Try.prog 54 #[.agg #[.slice A n c, .int .i64 hd, .int .i64 sz]] w fun e w' => e = .returned (.bool (nmB n hd sz)) ∧ Below w.heap.size w w' := by
  have HB := Lib.hid ((Below.refl w.heap.size w).alloc (Nat.le_refl _) (.cells #[.slice A n c, .int .i64 hd, .int .i64 sz] 24))
  have hcs : ∀ (x lo hi : Int) (k : Bool), wi x lo hi = k → Hid (∀ w, Calls Try.prog 30 #[.int .i64 x, .int .i64 lo, .int .i64 hi] w fun e w' => e = .returned (.bool k) ∧ w = w') := fun x lo hi k h => Lib.hid (fun w => by rw [← h]; exact gwithin_any x lo hi w)
  have hf : ∀ k, nmB n hd sz = k → ∀ e : Ending, e = .returned (.bool k) → e = .returned (.bool (nmB n hd sz)) := fun k h e he => by rw [h]; exact he
  have hm' : (n : Int) ≤ 9223372036854775807 := by unfold maxLen at hm; omega
  have h0n : (0 : Int) ≤ (n : Int) := by omega
  clear hm
  cases h0 : wi n 1 12 with
  | false =>
    have H0 := hcs _ _ _ _ h0
    have HF := Lib.hid (hf false (by simp [nmB, h0]))
    clear hcs hf h0
    go_enter Try.func54, Try.ntmps54
    go_wp2_with fail
    refine (H0.out _).mono ?_
    rintro e w1 ⟨rfl, rfl⟩
    go_wp2
    go_ret
    exact ⟨HF.out _ rfl, HB.out⟩
  | true =>
    have H0 := hcs _ _ _ _ h0
    cases h1 : wi hd 0 ((n : Int) - 1) with
    | false =>
      have H1 := hcs _ _ _ _ h1
      have HF := Lib.hid (hf false (by simp [nmB, h0, h1]))
      clear hcs hf h0 h1
      go_enter Try.func54, Try.ntmps54
      go_wp2_with fail
      refine (H0.out _).mono ?_
      rintro e w1 ⟨rfl, rfl⟩
      go_wp2_with fail
      refine (H1.out _).mono ?_
      rintro e w1 ⟨rfl, rfl⟩
      go_wp2
      go_ret
      exact ⟨HF.out _ rfl, HB.out⟩
    | true =>
      have H1 := hcs _ _ _ _ h1
      cases h2 : wi sz 0 n with
      | false =>
        have H2 := hcs _ _ _ _ h2
        have HF := Lib.hid (hf false (by simp [nmB, h0, h1, h2]))
        clear hcs hf h0 h1 h2
        go_enter Try.func54, Try.ntmps54
        go_wp2_with fail
        refine (H0.out _).mono ?_
        rintro e w1 ⟨rfl, rfl⟩
        go_wp2_with fail
        refine (H1.out _).mono ?_
        rintro e w1 ⟨rfl, rfl⟩
        go_wp2_with fail
        refine (H2.out _).mono ?_
        rintro e w1 ⟨rfl, rfl⟩
        go_wp2
        go_ret
        exact ⟨HF.out _ rfl, HB.out⟩
      | true =>
        have H2 := hcs _ _ _ _ h2
        have HF := Lib.hid (hf true (by simp [nmB, h0, h1, h2]))
        clear hcs hf h0 h1 h2
        go_enter Try.func54, Try.ntmps54
        go_wp2_with fail
        refine (H0.out _).mono ?_
        rintro e w1 ⟨rfl, rfl⟩
        go_wp2_with fail
        refine (H1.out _).mono ?_
        rintro e w1 ⟨rfl, rfl⟩
        go_wp2_with fail
        refine (H2.out _).mono ?_
        rintro e w1 ⟨rfl, rfl⟩
        go_wp2
        go_ret
        exact ⟨HF.out _ rfl, HB.out⟩

open Classical in
/-- The free cells are zero. -/
noncomputable def zfB (cs : List Msg) (hd sz : Nat) : Bool := decide (∀ k, sz ≤ k → k < cs.length → cel cs hd k = zM)
open Classical in
theorem zfB_yes {cs : List Msg} {hd sz : Nat} (h : ∀ k, sz ≤ k → k < cs.length → cel cs hd k = zM) : zfB cs hd sz = true := decide_eq_true h
open Classical in
theorem zfB_no {cs : List Msg} {hd sz k : Nat} (h1 : sz ≤ k) (h2 : k < cs.length) (h : cel cs hd k ≠ zM) : zfB cs hd sz = false := decide_eq_false (fun g => h (g k h1 h2))
open Classical in
theorem zfB_of {cs : List Msg} {hd sz : Nat} (h : zfB cs hd sz = true) : ∀ k, sz ≤ k → k < cs.length → cel cs hd k = zM := of_decide_eq_true h
open Classical in
theorem zfB_not {cs : List Msg} {hd sz : Nat} (h : zfB cs hd sz = false) : ¬ ∀ k, sz ≤ k → k < cs.length → cel cs hd k = zM := of_decide_eq_false h

theorem RgAt.step {w W W' : World} {p n c b m : Nat} {A : Option Addr} {hd sz : Int} {X : Msg} (h : RgAt w p A n c hd sz W) (hc : C7 W b m X) (hbw : b < W.heap.size) (hb : Below W.heap.size W W') :
    Hid (RgAt w p A n c hd sz W') ∧ (W'.cell? ⟨p, 0, none⟩ = some (.slice A n c) ∧ W'.cell? ⟨p, 1, none⟩ = some (.int .i64 hd) ∧ W'.cell? ⟨p, 2, none⟩ = some (.int .i64 sz) ∧ p < W'.heap.size) ∧ C7 W' b m X :=
  ⟨Lib.hid (h.below hb), (h.below hb).facts, hc.below hb hbw⟩

set_option maxHeartbeats 4000000 in
set_option maxRecDepth 20000 in
theorem zfree_any (A : Option Addr) (n c : Nat) (cs : List Msg) (hd sz : Nat) (w : World) (hv : Ls w w.heap.size (.slice A n c) cs) (hn : nmB cs.length hd sz = true) :
    Calls Try.prog 55 #[.agg #[.slice A n c, .int .i64 hd, .int .i64 sz]] w fun e w' => e = .returned (.bool (zfB cs hd sz)) ∧ Below w.heap.size w w' := by
  obtain ⟨rfl, hm1, hm2⟩ := hv.len
  obtain ⟨⟨n1, n2⟩, ⟨h1, h2⟩, ⟨s1, s2⟩⟩ := nm_of hn
  have HV := Lib.hid hv
  clear hv hn
  go_enter Try.func55, Try.ntmps55
  go_wp2
  have HS := Lib.hid (RgAt.start w A cs.length c hd sz 24)
  obtain ⟨p, hp⟩ : ∃ p, p = w.heap.size := ⟨_, rfl⟩
  rw [← hp] at HS ⊢
  have HPP := Lib.hid hp
  clear hp
  go_loopw [3] (fun i wr => ∃ k : Nat, k ≤ cs.length ∧ sz ≤ k ∧ i = .int .i64 k ∧ RgAt w p A cs.length c hd sz wr ∧ ∀ j, sz ≤ j → j < k → cel cs hd j = zM) (fun i _ => cs.length - (intOf i).toNat)
  case atStart => exact ⟨sz, by omega, Nat.le_refl _, rfl, HS.out, fun j h h' => absurd h (by omega)⟩
  case round =>
    obtain ⟨k, hk, hsk, rfl, hr, hz⟩ := hrel
    have HR := Lib.hid hr
    have HZ := Lib.hid hz
    have HVK := Lib.hid (HV.out.below hr.bel)
    obtain ⟨r0, r1, r2, hpl⟩ := hr.facts
    clear hr hz
    by_cases hlt : k < cs.length
    · obtain ⟨m, hm⟩ : ∃ m, m = (hd + k) % cs.length := ⟨_, rfl⟩
      have hml : m < cs.length := by rw [hm]; exact Nat.mod_lt _ (by omega)
      have HX := Lib.hid (cel_get (by omega) m hm hml)
      have HPL := Lib.hid (fun w => place_any A cs.length c hd sz k (by omega) (by omega) (by omega) (by omega) (by omega) (by omega) w)
      have hmi : ((hd : Int) + (k : Int)) % (cs.length : Int) = (m : Int) := by rw [hm]; simp
      rw [hmi] at HPL
      obtain ⟨b, o, rfl, hb, hc⟩ := HVK.out.at_ hml
      generalize cs[m] = X at *
      have hbw : b < wr.heap.size := by have := HPP.out; omega
      have HST := Lib.hid (fun w1 (hb1 : Below wr.drew.heap.size wr.drew w1) => RgAt.step (X := X) HR.out hc hbw (drew_below hb1))
      clear hm hmi hb hc
      by_cases he : X = zM
      · have hne : ∀ W, (binOp .neq 26 X.v (.agg #[.int .i64 0, .int .i64 0, .int .i64 0, .int .i64 0, .int .i64 0, .int .i64 0, .string ⟨#[]⟩])).run Try.prog W = .ok (.bool false) W := by rw [he]; exact neqm zM
        have HE := Lib.hid he
        clear he
        go_wp2
        go_region_with ((go_at_call 49; refine (HPL.out _).mono ?_; rintro e w1 ⟨rfl, hb1⟩; obtain ⟨HR1, ⟨x0, x1, x2, hpl1⟩, ⟨d0, d1, d2, d3, d4, d5, d6⟩⟩ := HST.out _ hb1; clear hb1))
        all_goals
          clear d0 d1 d2 d3 d4 d5 d6
          go_wp2
          go_roundw
          case rel =>
            refine ⟨k + 1, by omega, by omega, by go_num, HR1.out, fun j h h' => ?_⟩
            by_cases e : j = k
            · rw [e, ← HX.out, HE.out]
            · exact HZ.out j h (by omega)
          case measure => simp [intOf]; omega
      · have hne : ∀ W, (binOp .neq 26 X.v (.agg #[.int .i64 0, .int .i64 0, .int .i64 0, .int .i64 0, .int .i64 0, .int .i64 0, .string ⟨#[]⟩])).run Try.prog W = .ok (.bool true) W := neqm_ne X zM he
        have HF := Lib.hid (zfB_no hsk hlt (by rw [← HX.out]; exact he))
        clear he
        go_wp2
        go_region_with ((go_at_call 49; refine (HPL.out _).mono ?_; rintro e w1 ⟨rfl, hb1⟩; obtain ⟨HR1, ⟨x0, x1, x2, hpl1⟩, ⟨d0, d1, d2, d3, d4, d5, d6⟩⟩ := HST.out _ hb1; clear hb1))
        all_goals
          clear d0 d1 d2 d3 d4 d5 d6
          go_wp2
          go_ret
          exact ⟨by rw [HF.out]; rfl, HR1.out.bel⟩
    · have HF := Lib.hid (zfB_yes (cs := cs) (hd := hd) (sz := sz) (fun j h h' => HZ.out j h (by omega)))
      go_wp2
      go_ret
      exact ⟨by rw [HF.out]; rfl, HR.out.bel⟩
end Go.Proofs.Ytiklkagkmcapnaa
namespace Go.Proofs.Ytiklkagkmcapnaa
open Go.RowKit
set_option linter.unusedVariables false

open Classical in
/-- Two messages have the same ID. -/
noncomputable def dpB (l : List Msg) : Bool := decide (dupP l)
open Classical in
theorem dpB_yes {l : List Msg} (h : dupP l) : dpB l = true := decide_eq_true h
open Classical in
theorem dpB_no {l : List Msg} (h : ¬ dupP l) : dpB l = false := decide_eq_false h
open Classical in
theorem dpB_of {l : List Msg} (h : dpB l = true) : dupP l := of_decide_eq_true h
open Classical in
theorem dpB_not {l : List Msg} (h : dpB l = false) : ¬ dupP l := of_decide_eq_false h
theorem dup_take {l : List Msg} {k : Nat} (hk : k < l.length) (h : 0 ≤ ixF (l.take k) l[k].id) : dupP l := by
  rcases ixF_cases (l.take k) l[k].id with ⟨e, _⟩ | ⟨j, hj, e, hi, _⟩
  · rw [e] at h; exact absurd h (by decide)
  · have hj' : j < k := by simp at hj; omega
    exact ⟨j, k, by omega, hk, hj', by simpa using hi⟩
theorem dup_not_take {l : List Msg} {k : Nat} (hk : k < l.length) (h : ¬ 0 ≤ ixF (l.take k) l[k].id) : ∀ i (hi : i < l.length), i < k → l[i].id ≠ l[k].id := by
  intro i hi hik e
  refine h ((ixF_ge _ _).2 ⟨l[i], ?_, e⟩)
  rw [List.mem_take_iff_getElem]
  exact ⟨i, by omega, rfl⟩

set_option maxHeartbeats 4000000 in
set_option maxRecDepth 20000 in
theorem sameid_any (A : Option Addr) (n c : Nat) (l : List Msg) (w : World) (hv : Ls w w.heap.size (.slice A n c) l) :
    Calls Try.prog 57 #[.slice A n c] w fun e w' => e = .returned (.bool (dpB l)) ∧ Below w.heap.size w w' := by
  obtain ⟨rfl, hm1, hm2⟩ := hv.len
  have hL : l.length ≤ 9223372036854775807 := by unfold maxLen at hm2; omega
  have HC := Lib.hid hm1
  have HV := Lib.hid hv
  have HB := Lib.hid (Below.refl w.heap.size w)
  clear hv hm1 hm2
  go_enter Try.func57, Try.ntmps57
  go_wp2
  go_loopw [7] (fun i wr => ∃ k : Nat, k ≤ l.length ∧ i = .int .i64 k ∧ Below w.heap.size w wr ∧ ∀ i j (hi : i < l.length) (hj : j < l.length), i < j → j < k → l[i].id ≠ l[j].id) (fun i _ => l.length - (intOf i).toNat)
  case atStart => exact ⟨0, by omega, rfl, HB.out, fun i j _ _ _ h => absurd h (by omega)⟩
  case round =>
    obtain ⟨k, hk, rfl, hb, hno⟩ := hrel
    have HN := Lib.hid hno
    have HVK := Lib.hid (HV.out.below hb)
    have HB := Lib.hid hb
    clear hno hb
    by_cases hlt : k < l.length
    · have HD := Lib.hid (fun h => dup_take hlt h)
      have HT := Lib.hid (fun h => dup_not_take hlt h)
      have hcut := run_lupto A l.length c .i64 k (by have := HC.out; omega)
      have HVA := Lib.hid ((((HVK.out.alloc HB.out.size (.cells (l[k]).cs 26)).upto k hk).drew).more (show w.heap.size ≤ (wr.alloc (.cells (l[k]).cs 26)).drew.heap.size by have := HB.out.size; simp; omega))
      have HBA := Lib.hid (HB.out.alloc HB.out.size (.cells (l[k]).cs 26))
      obtain ⟨b, o, rfl, hb, c0, c1, c2, c3, c4, c5, c6⟩ := HVK.out.at_ hlt
      by_cases he : 0 ≤ ixF (l.take k) l[k].id
      · have HY := Lib.hid (dpB_yes (HD.out he))
        generalize hX : l[k] = X at *
        have HX := Lib.hid hX
        have HFD := Lib.hid (fun w1 (h : Ls w1 w1.heap.size (.slice (some ⟨b, o, none⟩) k c) (l.take k)) => find_any _ _ _ _ X.id w1 h)
        generalize ixF (l.take k) X.id = r at *
        clear hX
        go_wp2
        go_region_with ((go_at_call 53; refine (HFD.out _ HVA.out).mono ?_; rintro e w1 ⟨rfl, hb1⟩; have HB1 := Lib.hid (HBA.out.trans ((drew_below hb1).mono HBA.out.size)); clear hb1))
        all_goals
          go_wp2
          go_ret
          exact ⟨by rw [HY.out]; rfl, HB1.out⟩
      · have HNN := Lib.hid (HT.out he)
        have hge := Lib.hid (ixF_lt (l.take k) l[k].id).1
        generalize hX : l[k] = X at *
        have HX := Lib.hid hX
        have HFD := Lib.hid (fun w1 (h : Ls w1 w1.heap.size (.slice (some ⟨b, o, none⟩) k c) (l.take k)) => find_any _ _ _ _ X.id w1 h)
        generalize ixF (l.take k) X.id = r at *
        have hr : r = -1 := by have := hge.out; omega
        subst hr
        clear hX he hge
        go_wp2
        go_region_with ((go_at_call 53; refine (HFD.out _ HVA.out).mono ?_; rintro e w1 ⟨rfl, hb1⟩; have HB1 := Lib.hid (HBA.out.trans ((drew_below hb1).mono HBA.out.size)); clear hb1))
        all_goals
          go_wp2
          go_roundw
          case rel =>
            refine ⟨k + 1, by omega, by go_num, HB1.out, fun i j hi hj hij hjk => ?_⟩
            by_cases e : j = k
            · subst e
              rw [HX.out]
              exact HNN.out i hi hij
            · exact HN.out i j hi hj hij (by omega)
          case measure => simp [intOf]; omega
    · have HY := Lib.hid (dpB_no (l := l) (by rintro ⟨i, j, hi, hj, hij, e⟩; exact HN.out i j hi hj hij (by omega) e))
      go_wp2
      go_ret
      exact ⟨by rw [HY.out]; rfl, HB.out⟩
end Go.Proofs.Ytiklkagkmcapnaa
