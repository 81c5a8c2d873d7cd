/- What is proved here: ring.hasValidNumbers, ring.hasZeroFreeCells, ring.hasSameID by contracts; ring.hasSameID, ring.Validate and ring.List by contracts; ring.Validate and ring.List by contracts; ring.List, ring.popError, ring.pushError by contracts. -/
import Derived.Test.YtdilgeabcacbdaaGreatJ04
import Derived.Test.YtdilgeabcacbdaaGreatJ05
namespace Go.Proofs.YtdilgeabcacbdaaGreat
open Go.RowKit
set_option linter.unusedVariables false

set_option maxHeartbeats 2000000 in
theorem gnums_any (A : Option Addr) (n c : Nat) (hd sz : Int) (w : World) (hm : n ≤ maxLen) :
    Calls Tryz.prog 73 #[.agg #[.slice A n c, .int .i64 hd, .int .i64 sz]] w fun e w' => e = .returned (.bool (nmB n hd sz)) ∧ Below w.heap.size w w' := by
  have HB := Lib.hid ((Below.refl w.heap.size w).alloc (Nat.le_refl _) (.cells #[.slice A n c, .int .i64 hd, .int .i64 sz] 31))
  have hcs : ∀ (x lo hi : Int) (k : Bool), wi x lo hi = k → Hid (∀ w, Calls Tryz.prog 97 #[.int .i64 x, .int .i64 lo, .int .i64 hi] w fun e w' => e = .returned (.bool k) ∧ w = w') := fun x lo hi k h => Lib.hid (fun w => by rw [← h]; exact gwithin_any x lo hi w)
  have hf : ∀ k, nmB n hd sz = k → ∀ e : Ending, e = .returned (.bool k) → e = .returned (.bool (nmB n hd sz)) := fun k h e he => by rw [h]; exact he
  have hm' : (n : Int) ≤ 9223372036854775807 := by unfold maxLen at hm; omega
  have h0n : (0 : Int) ≤ (n : Int) := by omega
  clear hm
  cases h0 : wi n 1 12 with
  | false =>
    have H0 := hcs _ _ _ _ h0
    have HF := Lib.hid (hf false (by simp [nmB, h0]))
    clear hcs hf h0
    go_enter Tryz.func73, Tryz.ntmps73
    go_wp2_with fail
    refine (H0.out _).mono ?_
    rintro e w1 ⟨rfl, rfl⟩
    go_wp2
    go_ret
    exact ⟨HF.out _ rfl, HB.out⟩
  | true =>
    have H0 := hcs _ _ _ _ h0
    cases h1 : wi hd 0 ((n : Int) - 1) with
    | false =>
      have H1 := hcs _ _ _ _ h1
      have HF := Lib.hid (hf false (by simp [nmB, h0, h1]))
      clear hcs hf h0 h1
      go_enter Tryz.func73, Tryz.ntmps73
      go_wp2_with fail
      refine (H0.out _).mono ?_
      rintro e w1 ⟨rfl, rfl⟩
      go_wp2_with fail
      refine (H1.out _).mono ?_
      rintro e w1 ⟨rfl, rfl⟩
      go_wp2
      go_ret
      exact ⟨HF.out _ rfl, HB.out⟩
    | true =>
      have H1 := hcs _ _ _ _ h1
      cases h2 : wi sz 0 n with
      | false =>
        have H2 := hcs _ _ _ _ h2
        have HF := Lib.hid (hf false (by simp [nmB, h0, h1, h2]))
        clear hcs hf h0 h1 h2
        go_enter Tryz.func73, Tryz.ntmps73
        go_wp2_with fail
        refine (H0.out _).mono ?_
        rintro e w1 ⟨rfl, rfl⟩
        go_wp2_with fail
        refine (H1.out _).mono ?_
        rintro e w1 ⟨rfl, rfl⟩
        go_wp2_with fail
        refine (H2.out _).mono ?_
        rintro e w1 ⟨rfl, rfl⟩
        go_wp2
        go_ret
        exact ⟨HF.out _ rfl, HB.out⟩
      | true =>
        have H2 := hcs _ _ _ _ h2
        have HF := Lib.hid (hf true (by simp [nmB, h0, h1, h2]))
        clear hcs hf h0 h1 h2
        go_enter Tryz.func73, Tryz.ntmps73
        go_wp2_with fail
        refine (H0.out _).mono ?_
        rintro e w1 ⟨rfl, rfl⟩
        go_wp2_with fail
        refine (H1.out _).mono ?_
        rintro e w1 ⟨rfl, rfl⟩
        go_wp2_with fail
        refine (H2.out _).mono ?_
        rintro e w1 ⟨rfl, rfl⟩
        go_wp2
        go_ret
        exact ⟨HF.out _ rfl, HB.out⟩

open Classical in
/-- The free cells are zero. -/
noncomputable def zfB (cs : List Msg) (hd sz : Nat) : Bool := decide (∀ k, sz ≤ k → k < cs.length → cel cs hd k = zM)
open Classical in
theorem zfB_yes {cs : List Msg} {hd sz : Nat} (h : ∀ k, sz ≤ k → k < cs.length → cel cs hd k = zM) : zfB cs hd sz = true := decide_eq_true h
open Classical in
theorem zfB_no {cs : List Msg} {hd sz k : Nat} (h1 : sz ≤ k) (h2 : k < cs.length) (h : cel cs hd k ≠ zM) : zfB cs hd sz = false := decide_eq_false (fun g => h (g k h1 h2))
open Classical in
theorem zfB_of {cs : List Msg} {hd sz : Nat} (h : zfB cs hd sz = true) : ∀ k, sz ≤ k → k < cs.length → cel cs hd k = zM := of_decide_eq_true h
open Classical in
theorem zfB_not {cs : List Msg} {hd sz : Nat} (h : zfB cs hd sz = false) : ¬ ∀ k, sz ≤ k → k < cs.length → cel cs hd k = zM := of_decide_eq_false h

theorem RgAt.step {w W W' : World} {p n c b m : Nat} {A : Option Addr} {hd sz : Int} {X : Msg} (h : RgAt w p A n c hd sz W) (hc : C7 W b m X) (hbw : b < W.heap.size) (hb : Below W.heap.size W W') :
    Hid (RgAt w p A n c hd sz W') ∧ (W'.cell? ⟨p, 0, none⟩ = some (.slice A n c) ∧ W'.cell? ⟨p, 1, none⟩ = some (.int .i64 hd) ∧ W'.cell? ⟨p, 2, none⟩ = some (.int .i64 sz) ∧ p < W'.heap.size) ∧ C7 W' b m X :=
  ⟨Lib.hid (h.below hb), (h.below hb).facts, hc.below hb hbw⟩

set_option maxHeartbeats 4000000 in
set_option maxRecDepth 20000 in
theorem zfree_any (A : Option Addr) (n c : Nat) (cs : List Msg) (hd sz : Nat) (w : World) (hv : Ls w w.heap.size (.slice A n c) cs) (hn : nmB cs.length hd sz = true) :
    Calls Tryz.prog 74 #[.agg #[.slice A n c, .int .i64 hd, .int .i64 sz]] w fun e w' => e = .returned (.bool (zfB cs hd sz)) ∧ Below w.heap.size w w' := by
  obtain ⟨rfl, hm1, hm2⟩ := hv.len
  obtain ⟨⟨n1, n2⟩, ⟨h1, h2⟩, ⟨s1, s2⟩⟩ := nm_of hn
  have HV := Lib.hid hv
  clear hv hn
  go_enter Tryz.func74, Tryz.ntmps74
  go_wp2
  have HS := Lib.hid (RgAt.start w A cs.length c hd sz 31)
  obtain ⟨p, hp⟩ : ∃ p, p = w.heap.size := ⟨_, rfl⟩
  rw [← hp] at HS ⊢
  have HPP := Lib.hid hp
  clear hp
  go_loopw [3] (fun i wr => ∃ k : Nat, k ≤ cs.length ∧ sz ≤ k ∧ i = .int .i64 k ∧ RgAt w p A cs.length c hd sz wr ∧ ∀ j, sz ≤ j → j < k → cel cs hd j = zM) (fun i _ => cs.length - (intOf i).toNat)
  case atStart => exact ⟨sz, by omega, Nat.le_refl _, rfl, HS.out, fun j h h' => absurd h (by omega)⟩
  case round =>
    obtain ⟨k, hk, hsk, rfl, hr, hz⟩ := hrel
    have HR := Lib.hid hr
    have HZ := Lib.hid hz
    have HVK := Lib.hid (HV.out.below hr.bel)
    obtain ⟨r0, r1, r2, hpl⟩ := hr.facts
    clear hr hz
    by_cases hlt : k < cs.length
    · obtain ⟨m, hm⟩ : ∃ m, m = (hd + k) % cs.length := ⟨_, rfl⟩
      have hml : m < cs.length := by rw [hm]; exact Nat.mod_lt _ (by omega)
      have HX := Lib.hid (cel_get (by omega) m hm hml)
      have HPL := Lib.hid (fun w => place_any A cs.length c hd sz k (by omega) (by omega) (by omega) (by omega) (by omega) (by omega) w)
      have hmi : ((hd : Int) + (k : Int)) % (cs.length : Int) = (m : Int) := by rw [hm]; simp
      rw [hmi] at HPL
      obtain ⟨b, o, rfl, hb, hc⟩ := HVK.out.at_ hml
      generalize cs[m] = X at *
      have hbw : b < wr.heap.size := by have := HPP.out; omega
      have HST := Lib.hid (fun w1 (hb1 : Below wr.drew.heap.size wr.drew w1) => RgAt.step (X := X) HR.out hc hbw (drew_below hb1))
      clear hm hmi hb hc
      by_cases he : X = zM
      · have hne : ∀ W, (binOp .neq 66 X.v (.agg #[.int .i64 0, .int .i64 0, .int .i64 0, .int .i64 0, .int .i64 0, .int .i64 0, .string ⟨#[]⟩])).run Tryz.prog W = .ok (.bool false) W := by rw [he]; exact neqm zM
        have HE := Lib.hid he
        clear he
        go_wp2
        go_region_with ((go_at_call 87; refine (HPL.out _).mono ?_; rintro e w1 ⟨rfl, hb1⟩; obtain ⟨HR1, ⟨x0, x1, x2, hpl1⟩, ⟨d0, d1, d2, d3, d4, d5, d6⟩⟩ := HST.out _ hb1; clear hb1))
        all_goals
          clear d0 d1 d2 d3 d4 d5 d6
          go_wp2
          go_roundw
          case rel =>
            refine ⟨k + 1, by omega, by omega, by go_num, HR1.out, fun j h h' => ?_⟩
            by_cases e : j = k
            · rw [e, ← HX.out, HE.out]
            · exact HZ.out j h (by omega)
          case measure => simp [intOf]; omega
      · have hne : ∀ W, (binOp .neq 66 X.v (.agg #[.int .i64 0, .int .i64 0, .int .i64 0, .int .i64 0, .int .i64 0, .int .i64 0, .string ⟨#[]⟩])).run Tryz.prog W = .ok (.bool true) W := neqm_ne X zM he
        have HF := Lib.hid (zfB_no hsk hlt (by rw [← HX.out]; exact he))
        clear he
        go_wp2
        go_region_with ((go_at_call 87; refine (HPL.out _).mono ?_; rintro e w1 ⟨rfl, hb1⟩; obtain ⟨HR1, ⟨x0, x1, x2, hpl1⟩, ⟨d0, d1, d2, d3, d4, d5, d6⟩⟩ := HST.out _ hb1; clear hb1))
        all_goals
          clear d0 d1 d2 d3 d4 d5 d6
          go_wp2
          go_ret
          exact ⟨by rw [HF.out]; rfl, HR1.out.bel⟩
    · have HF := Lib.hid (zfB_yes (cs := cs) (hd := hd) (sz := sz) (fun j h h' => HZ.out j h (by omega)))
      go_wp2
      go_ret
      exact ⟨by rw [HF.out]; rfl, HR.out.bel⟩
end Go.Proofs.YtdilgeabcacbdaaGreat
namespace Go.Proofs.YtdilgeabcacbdaaGreat
open Go.RowKit
set_option linter.unusedVariables false

open Classical in
/-- Two messages have the same ID. -/
noncomputable def dpB (l : List Msg) : Bool := decide (dupP l)
open Classical in
theorem dpB_yes {l : List Msg} (h : dupP l) : dpB l = true := decide_eq_true h
open Classical in
theorem dpB_no {l : List Msg} (h : ¬ dupP l) : dpB l = false := decide_eq_false h
open Classical in
theorem dpB_of {l : List Msg} (h : dpB l = true) : dupP l := of_decide_eq_true h
open Classical in
theorem dpB_not {l : List Msg} (h : dpB l = false) : ¬ dupP l := of_decide_eq_false h
theorem dup_take {l : List Msg} {k : Nat} (hk : k < l.length) (h : 0 ≤ ixF (l.take k) l[k].id) : dupP l := by
  rcases ixF_cases (l.take k) l[k].id with ⟨e, _⟩ | ⟨j, hj, e, hi, _⟩
  · rw [e] at h; exact absurd h (by decide)
  · have hj' : j < k := by simp at hj; omega
    exact ⟨j, k, by omega, hk, hj', by simpa using hi⟩
theorem dup_not_take {l : List Msg} {k : Nat} (hk : k < l.length) (h : ¬ 0 ≤ ixF (l.take k) l[k].id) : ∀ i (hi : i < l.length), i < k → l[i].id ≠ l[k].id := by
  intro i hi hik e
  refine h ((ixF_ge _ _).2 ⟨l[i], ?_, e⟩)
  rw [List.mem_take_iff_getElem]
  exact ⟨i, by omega, rfl⟩

set_option maxHeartbeats 4000000 in
set_option maxRecDepth 20000 in
theorem sameid_any (A : Option Addr) (n c : Nat) (l : List Msg) (w : World) (hv : Ls w w.heap.size (.slice A n c) l) :
    Calls Tryz.prog 76 #[.slice A n c] w fun e w' => e = .returned (.bool (dpB l)) ∧ Below w.heap.size w w' := by
  obtain ⟨rfl, hm1, hm2⟩ := hv.len
  have hL : l.length ≤ 9223372036854775807 := by unfold maxLen at hm2; omega
  have HC := Lib.hid hm1
  have HV := Lib.hid hv
  have HB := Lib.hid (Below.refl w.heap.size w)
  clear hv hm1 hm2
  go_enter Tryz.func76, Tryz.ntmps76
  go_wp2
  go_loopw [7] (fun i wr => ∃ k : Nat, k ≤ l.length ∧ i = .int .i64 k ∧ Below w.heap.size w wr ∧ ∀ i j (hi : i < l.length) (hj : j < l.length), i < j → j < k → l[i].id ≠ l[j].id) (fun i _ => l.length - (intOf i).toNat)
  case atStart => exact ⟨0, by omega, rfl, HB.out, fun i j _ _ _ h => absurd h (by omega)⟩
  case round =>
    obtain ⟨k, hk, rfl, hb, hno⟩ := hrel
    have HN := Lib.hid hno
    have HVK := Lib.hid (HV.out.below hb)
    have HB := Lib.hid hb
    clear hno hb
    by_cases hlt : k < l.length
    · have HD := Lib.hid (fun h => dup_take hlt h)
      have HT := Lib.hid (fun h => dup_not_take hlt h)
      have hcut := run_lupto A l.length c .i64 k (by have := HC.out; omega)
      have HVA := Lib.hid ((((HVK.out.alloc HB.out.size (.cells (l[k]).cs 66)).upto k hk).drew).more (show w.heap.size ≤ (wr.alloc (.cells (l[k]).cs 66)).drew.heap.size by have := HB.out.size; simp; omega))
      have HBA := Lib.hid (HB.out.alloc HB.out.size (.cells (l[k]).cs 66))
      obtain ⟨b, o, rfl, hb, c0, c1, c2, c3, c4, c5, c6⟩ := HVK.out.at_ hlt
      by_cases he : 0 ≤ ixF (l.take k) l[k].id
      · have HY := Lib.hid (dpB_yes (HD.out he))
        generalize hX : l[k] = X at *
        have HX := Lib.hid hX
        have HFD := Lib.hid (fun w1 (h : Ls w1 w1.heap.size (.slice (some ⟨b, o, none⟩) k c) (l.take k)) => find_any _ _ _ _ X.id w1 h)
        generalize ixF (l.take k) X.id = r at *
        clear hX
        go_wp2
        go_region_with ((go_at_call 99; refine (HFD.out _ HVA.out).mono ?_; rintro e w1 ⟨rfl, hb1⟩; have HB1 := Lib.hid (HBA.out.trans ((drew_below hb1).mono HBA.out.size)); clear hb1))
        all_goals
          go_wp2
          go_ret
          exact ⟨by rw [HY.out]; rfl, HB1.out⟩
      · have HNN := Lib.hid (HT.out he)
        have hge := Lib.hid (ixF_lt (l.take k) l[k].id).1
        generalize hX : l[k] = X at *
        have HX := Lib.hid hX
        have HFD := Lib.hid (fun w1 (h : Ls w1 w1.heap.size (.slice (some ⟨b, o, none⟩) k c) (l.take k)) => find_any _ _ _ _ X.id w1 h)
        generalize ixF (l.take k) X.id = r at *
        have hr : r = -1 := by have := hge.out; omega
        subst hr
        clear hX he hge
        go_wp2
        go_region_with ((go_at_call 99; refine (HFD.out _ HVA.out).mono ?_; rintro e w1 ⟨rfl, hb1⟩; have HB1 := Lib.hid (HBA.out.trans ((drew_below hb1).mono HBA.out.size)); clear hb1))
        all_goals
          go_wp2
          go_roundw
          case rel =>
            refine ⟨k + 1, by omega, by go_num, HB1.out, fun i j hi hj hij hjk => ?_⟩
            by_cases e : j = k
            · subst e
              rw [HX.out]
              exact HNN.out i hi hij
            · exact HN.out i j hi hj hij (by omega)
          case measure => simp [intOf]; omega
    · have HY := Lib.hid (dpB_no (l := l) (by rintro ⟨i, j, hi, hj, hij, e⟩; exact HN.out i j hi hj hij (by omega) e))
      go_wp2
      go_ret
      exact ⟨by rw [HY.out]; rfl, HB.out⟩
end Go.Proofs.YtdilgeabcacbdaaGreat
namespace Go.Proofs.YtdilgeabcacbdaaGreat
open Go.RowKit
set_option linter.unusedVariables false

theorem ret_i64 {a b : Int} (h : a = b) : Ending.returned (.int .i64 a) = .returned (.int .i64 b) := by rw [h]

/-- What Validate does once the messages are at hand. -/
def VlT (w : World) (r : Int) (e : Ending) (w' : World) : Prop := e = .returned (.int .i64 r) ∧ Below w.heap.size w w'

set_option maxHeartbeats 4000000 in
set_option maxRecDepth 20000 in
theorem gvalid_any (A : Option Addr) (n c : Nat) (cs : List Msg) (hd sz : Int) (w : World) (hv : Ls w w.heap.size (.slice A n c) cs) :
    Calls Tryz.prog 60 #[.agg #[.slice A n c, .int .i64 hd, .int .i64 sz]] w (VlT w (rgV cs hd sz)) := by
  obtain ⟨rfl, hm1, hm2⟩ := hv.len
  have HN := Lib.hid (fun w => gnums_any A cs.length c hd sz w (by omega))
  have HV := Lib.hid hv
  clear hm1 hm2
  have HS := Lib.hid (RgAt.start w A cs.length c hd sz 31)
  have HB0 := Lib.hid HS.out.bel
  cases h0 : nmB cs.length hd sz with
  | false =>
    have HF := Lib.hid (rgV_num h0)
    rw [h0] at HN
    clear hv h0 HS
    go_enter Tryz.func60, Tryz.ntmps60
    go_wp2_with fail
    refine (HN.out _).mono ?_
    rintro e w1 ⟨rfl, hb⟩
    have HB1 := Lib.hid (HB0.out.trans (hb.mono HB0.out.size))
    clear hb
    go_wp2
    go_ret
    exact ⟨ret_i64 HF.out.symm, HB1.out⟩
  | true =>
    obtain ⟨⟨n1, n2⟩, ⟨h1, h2⟩, ⟨s1, s2⟩⟩ := nm_of h0
    obtain ⟨hd, rfl⟩ := Int.eq_ofNat_of_zero_le h1
    obtain ⟨sz, rfl⟩ := Int.eq_ofNat_of_zero_le s1
    have H0 := Lib.hid h0
    rw [h0] at HN
    clear h0 n1 n2 h1 h2 s1 s2 hv
    cases hz : zfB cs hd sz with
    | false =>
      have HF := Lib.hid (rgV_free H0.out (zfB_not hz))
      have HZ := Lib.hid (fun w1 (h : Ls w1 w1.heap.size (.slice A cs.length c) cs) => zfree_any A cs.length c cs hd sz w1 h H0.out)
      rw [hz] at HZ
      clear hz
      go_enter Tryz.func60, Tryz.ntmps60
      go_wp2_with fail
      refine (HN.out _).mono ?_
      rintro e w1 ⟨rfl, hb⟩
      have HR1 := Lib.hid (HS.out.below hb)
      have HV1 := Lib.hid ((HV.out.below HR1.out.bel).more HR1.out.bel.size)
      obtain ⟨r0, r1, r2, hp⟩ := HR1.out.facts
      clear hb
      go_wp2_with fail
      refine (HZ.out _ HV1.out).mono ?_
      rintro e w2 ⟨rfl, hb⟩
      have HR2 := Lib.hid (HR1.out.below hb)
      clear hb
      go_wp2
      go_ret
      exact ⟨ret_i64 HF.out.symm, HR2.out.bel⟩
    | true =>
      have HZF := Lib.hid (zfB_of hz)
      have HZ := Lib.hid (fun w1 (h : Ls w1 w1.heap.size (.slice A cs.length c) cs) => zfree_any A cs.length c cs hd sz w1 h H0.out)
      have HO := Lib.hid (fun w1 (h : Ls w1 w1.heap.size (.slice A cs.length c) cs) => ordered_any A cs.length c cs hd sz w1 h H0.out)
      have HE := Lib.hid (rgV_msg (cs := cs) (hd := hd) (sz := sz) H0.out HZF.out)
      have HD := Lib.hid (rgV_dup (cs := cs) (hd := hd) (sz := sz) H0.out HZF.out)
      have HK := Lib.hid (rgV_ok (cs := cs) (hd := hd) (sz := sz) H0.out HZF.out)
      simp only [Int.toNat_natCast] at HE HD HK
      have hlen := ord_len cs hd sz
      generalize ord cs hd sz = l at *
      have HLL := Lib.hid (show l.length ≤ 12 by have := nm_of H0.out; omega)
      rw [hz] at HZ
      clear hz hlen
      generalize rgV cs hd sz = R at *
      go_enter Tryz.func60, Tryz.ntmps60
      go_wp2_with fail
      refine (HN.out _).mono ?_
      rintro e w1 ⟨rfl, hb⟩
      have HR1 := Lib.hid (HS.out.below hb)
      have HV1 := Lib.hid ((HV.out.below HR1.out.bel).more HR1.out.bel.size)
      obtain ⟨r0, r1, r2, hp⟩ := HR1.out.facts
      clear hb
      go_wp2_with fail
      refine (HZ.out _ HV1.out).mono ?_
      rintro e w2 ⟨rfl, hb⟩
      have HR2 := Lib.hid (HR1.out.below hb)
      have HV2 := Lib.hid ((HV.out.below HR2.out.bel).more HR2.out.bel.size)
      clear hb r0 r1 r2 hp
      obtain ⟨r0, r1, r2, hp⟩ := HR2.out.facts
      go_wp2_with fail
      refine (HO.out _ HV2.out).mono ?_
      rintro e w3 ⟨v, rfl, hnw, hl, hb⟩
      clear hnw
      have HB3 := Lib.hid (HR2.out.bel.trans (hb.mono HR2.out.bel.size))
      obtain ⟨A2, c2, rfl, _, _⟩ := hl.form
      have HL3 := Lib.hid hl
      have hl12 := HLL.out
      clear hb r0 r1 r2 hp hl
      clear HR1 HV1 HR2 HV2
      go_wp2
      go_loopw [17] (fun i wr => ∃ k : Nat, k ≤ l.length ∧ i = .int .i64 k ∧ Below w.heap.size w wr ∧ Below w3.heap.size w3 wr ∧ ∀ j (hj : j < l.length), j < k → vf l[j] = 0) (fun i _ => l.length - (intOf i).toNat)
      case atStart => exact ⟨0, by omega, rfl, HB3.out, Below.refl _ _, fun j _ h => absurd h (by omega)⟩
      case round =>
        obtain ⟨k, hk, rfl, hb, hb3, hno⟩ := hrel
        have HNO := Lib.hid hno
        have HLK := Lib.hid (HL3.out.below hb3)
        have HBW := Lib.hid hb
        have HB3W := Lib.hid hb3
        clear hno hb hb3
        by_cases hlt : k < l.length
        · have HEK := Lib.hid (fun h => fe_hit hlt HNO.out h)
          have HBA := Lib.hid (HBW.out.alloc HBW.out.size (.cells (l[k]).cs 66))
          have HB3A := Lib.hid (HB3W.out.alloc HB3W.out.size (.cells (l[k]).cs 66))
          have HVD := Lib.hid (fun w => validate_any l[k] w)
          obtain ⟨b, o, rfl, hb, c0, c1, c2, c3, c4, c5, c6⟩ := HLK.out.at_ hlt
          by_cases he : vf l[k] = 0
          · rw [he] at HVD
            have HNN := Lib.hid (show ∀ j (hj : j < l.length), j < k + 1 → vf l[j] = 0 from fun j hj h => by
              by_cases e : j = k
              · subst e; exact he
              · exact HNO.out j hj (by omega))
            clear he HEK
            generalize l[k] = X at *
            go_wp2_with fail
            refine (HVD.out _).mono ?_
            rintro e w4 ⟨rfl, hb4⟩
            have HB4 := Lib.hid (HBA.out.trans (hb4.mono HBA.out.size))
            have HB34 := Lib.hid (HB3A.out.trans (hb4.mono HB3A.out.size))
            clear hb4
            go_wp2
            go_roundw
            case rel => exact ⟨k + 1, by omega, by go_num, HB4.out, HB34.out, HNN.out⟩
            case measure => simp [intOf]; omega
          · have HR := Lib.hid (show R = vf l[k] by rw [← HEK.out he]; exact HE.out (by rw [HEK.out he]; exact he))
            have hne : (vf l[k] != 0) = true := bne_iff_ne.2 he
            clear he HEK
            generalize l[k] = X at *
            generalize vf X = x at *
            go_wp2_with fail
            refine (HVD.out _).mono ?_
            rintro e w4 ⟨rfl, hb4⟩
            have HB4 := Lib.hid (HBA.out.trans (hb4.mono HBA.out.size))
            clear hb4
            go_wp2
            go_ret
            exact ⟨ret_i64 HR.out.symm, HB4.out⟩
        · have HFE := Lib.hid (show fe l = 0 from fe_all fun M hM => by
            obtain ⟨j, hj, rfl⟩ := List.getElem_of_mem hM
            exact HNO.out j hj (by omega))
          have HSI := Lib.hid (sameid_any A2 l.length c2 l wr (HLK.out.more HB3W.out.size))
          cases hd : dpB l with
          | true =>
            have HR := Lib.hid (HD.out HFE.out (dpB_of hd))
            rw [hd] at HSI
            clear hd
            go_wp2_with fail
            refine HSI.out.mono ?_
            rintro e w4 ⟨rfl, hb4⟩
            have HB4 := Lib.hid (HBW.out.trans (hb4.mono HBW.out.size))
            clear hb4
            go_wp2
            go_ret
            exact ⟨ret_i64 HR.out.symm, HB4.out⟩
          | false =>
            have HR := Lib.hid (HK.out HFE.out (dpB_not hd))
            rw [hd] at HSI
            clear hd
            go_wp2_with fail
            refine HSI.out.mono ?_
            rintro e w4 ⟨rfl, hb4⟩
            have HB4 := Lib.hid (HBW.out.trans (hb4.mono HBW.out.size))
            clear hb4
            go_wp2
            go_ret
            exact ⟨ret_i64 HR.out.symm, HB4.out⟩
end Go.Proofs.YtdilgeabcacbdaaGreat
namespace Go.Proofs.YtdilgeabcacbdaaGreat
open Go.RowKit
set_option linter.unusedVariables false

/-- What List returns. -/
noncomputable def lsF (cs : List Msg) (hd sz : Int) : List Msg := if rgV cs hd sz = 0 then ord cs hd.toNat sz.toNat else []
/-- The error of the two pushes. -/
noncomputable def puE (cs : List Msg) (hd sz : Int) (M : Msg) : Int := if rgV cs hd sz ≠ 0 then rgV cs hd sz else if vf M ≠ 0 then vf M else if sz = cs.length then 3 else if 0 ≤ ixF (ord cs hd.toNat sz.toNat) M.id then 10 else 0
theorem puE_zero {cs : List Msg} {hd sz : Int} {M : Msg} (h : puE cs hd sz M = 0) : rgV cs hd sz = 0 ∧ vf M = 0 ∧ sz ≠ cs.length ∧ ¬ 0 ≤ ixF (ord cs hd.toNat sz.toNat) M.id := by
  unfold puE at h
  by_cases h0 : rgV cs hd sz = 0
  · rw [if_neg (by simpa using h0)] at h
    by_cases h1 : vf M = 0
    · rw [if_neg (by simpa using h1)] at h
      by_cases h2 : sz = cs.length
      · rw [if_pos h2] at h; exact absurd h (by decide)
      · rw [if_neg h2] at h
        by_cases h3 : 0 ≤ ixF (ord cs hd.toNat sz.toNat) M.id
        · rw [if_pos h3] at h; exact absurd h (by decide)
        · exact ⟨h0, h1, h2, h3⟩
    · rw [if_pos h1] at h; exact absurd h h1
  · rw [if_pos h0] at h; exact absurd h h0

set_option maxHeartbeats 2000000 in
theorem glist_any (A : Option Addr) (n c : Nat) (cs : List Msg) (hd sz : Int) (w : World) (hv : Ls w w.heap.size (.slice A n c) cs) :
    Calls Tryz.prog 49 #[.agg #[.slice A n c, .int .i64 hd, .int .i64 sz]] w (LsP (lsF cs hd sz) w) := by
  obtain ⟨rfl, _, _⟩ := hv.len
  have HV := Lib.hid hv
  have HS := Lib.hid (RgAt.start w A cs.length c hd sz 31)
  have HG := Lib.hid (fun w1 (h : Ls w1 w1.heap.size (.slice A cs.length c) cs) => gvalid_any A cs.length c cs hd sz w1 h)
  clear hv
  by_cases h0 : rgV cs hd sz = 0
  · obtain ⟨hn, _, _, _⟩ := rgV_zero h0
    obtain ⟨⟨n1, n2⟩, ⟨h1, h2⟩, ⟨s1, s2⟩⟩ := nm_of hn
    obtain ⟨hd, rfl⟩ := Int.eq_ofNat_of_zero_le h1
    obtain ⟨sz, rfl⟩ := Int.eq_ofNat_of_zero_le s1
    have HO := Lib.hid (fun w1 (h : Ls w1 w1.heap.size (.slice A cs.length c) cs) => ordered_any A cs.length c cs hd sz w1 h hn)
    have HF := Lib.hid (show lsF cs hd sz = ord cs hd sz from if_pos h0)
    rw [h0] at HG
    clear h0 hn n1 n2 h1 h2 s1 s2
    go_enter Tryz.func49, Tryz.ntmps49
    go_wp2_with fail
    refine (HG.out _ ((HV.out.below HS.out.bel).more HS.out.bel.size)).mono ?_
    rintro e w1 ⟨rfl, hb⟩
    have HR1 := Lib.hid (HS.out.below hb)
    obtain ⟨r0, r1, r2, hp⟩ := HR1.out.facts
    clear hb
    go_wp2_with fail
    refine (HO.out _ ((HV.out.below HR1.out.bel).more HR1.out.bel.size)).mono ?_
    rintro e w2 ⟨v, rfl, hnw, hl, hb⟩
    have HNV := Lib.hid (nwv_low hnw HR1.out.bel.size)
    clear hnw
    have HL := Lib.hid hl
    have HB := Lib.hid (HR1.out.bel.trans (hb.mono HR1.out.bel.size))
    clear hl hb
    go_wp2
    go_ret
    exact ⟨_, rfl, HNV.out, by rw [HF.out]; exact HL.out, HB.out⟩
  · have HF := Lib.hid (show lsF cs hd sz = [] from if_neg h0)
    have hne : (rgV cs hd sz != 0) = true := bne_iff_ne.2 h0
    generalize rgV cs hd sz = x at *
    clear h0
    go_enter Tryz.func49, Tryz.ntmps49
    go_wp2_with fail
    refine (HG.out _ ((HV.out.below HS.out.bel).more HS.out.bel.size)).mono ?_
    rintro e w1 ⟨rfl, hb⟩
    have HR1 := Lib.hid (HS.out.below hb)
    clear hb
    go_wp2
    go_ret
    exact ⟨_, rfl, nwv_mk nw_none, by rw [HF.out]; exact Ls.nil, HR1.out.bel⟩

end Go.Proofs.YtdilgeabcacbdaaGreat
