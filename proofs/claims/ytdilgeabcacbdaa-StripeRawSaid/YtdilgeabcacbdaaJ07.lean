/- What is proved here: ring.find (over slices.IndexFunc and its closure) by one contract; cuts of a list of messages: what the walk gets, and how it reads; ring.hasValidNumbers, ring.hasZeroFreeCells, ring.hasSameID by contracts. -/
import Derived.Test.YtdilgeabcacbdaaJ04
import Derived.Test.YtdilgeabcacbdaaJ01
import Derived.IntWalk
import Derived.Test.YtdilgeabcacbdaaJ03
import Derived.Laws.Slices
import Derived.Test.YtdilgeabcacbdaaJ06
namespace Go.Proofs.Ytdilgeabcacbdaa
open Go.RowKit
set_option linter.unusedVariables false

theorem find1_yes (M : Msg) (id : Int) (p : Nat) (w : World) (hp : p < w.heap.size) (hc : w.cell? ⟨p, 0, none⟩ = some (.int .i64 id)) (he : M.id = id) :
    Calls Try.prog 141 #[M.v, .pointer (some ⟨p, 0, none⟩)] w fun e w' => e = .returned (.bool true) ∧ Below w.heap.size w w' := by
  have HB := Lib.hid ((Below.refl w.heap.size w).alloc (Nat.le_refl _) (.cells M.cs 92))
  subst he
  go_enter Try.func141, Try.ntmps141
  go_wp2
  go_ret
  exact ⟨rfl, HB.out⟩
theorem find1_no (M : Msg) (id : Int) (p : Nat) (w : World) (hp : p < w.heap.size) (hc : w.cell? ⟨p, 0, none⟩ = some (.int .i64 id)) (he : M.id ≠ id) :
    Calls Try.prog 141 #[M.v, .pointer (some ⟨p, 0, none⟩)] w fun e w' => e = .returned (.bool false) ∧ Below w.heap.size w w' := by
  have HB := Lib.hid ((Below.refl w.heap.size w).alloc (Nat.le_refl _) (.cells M.cs 92))
  have hd : (M.id == id) = false := by simpa using he
  clear he
  go_enter Try.func141, Try.ntmps141
  go_wp2
  go_ret
  exact ⟨rfl, HB.out⟩

set_option maxHeartbeats 1000000 in
theorem ixfunc_any (A : Option Addr) (n c : Nat) (l : List Msg) (id : Int) (p : Nat) (w : World) (hv : Ls w w.heap.size (.slice A n c) l) (hp : p < w.heap.size) (hc : w.cell? ⟨p, 0, none⟩ = some (.int .i64 id)) :
    Calls Try.prog 137 #[.slice A n c, .func (.func 141) #[] #[.pointer (some ⟨p, 0, none⟩)]] w fun e w' => e = .returned (.int .i64 (ixF l id)) ∧ Below w.heap.size w w' := by
  obtain ⟨rfl, hm1, hm2⟩ := hv.len
  have hL : l.length ≤ 9223372036854775807 := by unfold maxLen at hm2; omega
  have HV := Lib.hid hv
  have HP := Lib.hid hp
  have HC := Lib.hid hc
  have HB := Lib.hid (Below.refl w.heap.size w)
  clear hv hm1 hm2 hp hc
  go_enter Try.func137, Try.ntmps137
  go_wp2
  go_loopw [8] (fun i wr => ∃ k : Nat, k ≤ l.length ∧ i = .int .i64 k ∧ Below w.heap.size w wr ∧ ∀ j (hj : j < l.length), j < k → l[j].id ≠ id) (fun i _ => l.length - (intOf i).toNat)
  case atStart => exact ⟨0, by omega, rfl, HB.out, fun j _ h => absurd h (by omega)⟩
  case round =>
    obtain ⟨k, hk, rfl, hb, hno⟩ := hrel
    have HN := Lib.hid hno
    have HVK := Lib.hid (HV.out.below hb)
    have HPK := Lib.hid (Nat.lt_of_lt_of_le HP.out hb.size)
    have HCK := Lib.hid ((hb.cell (p := ⟨p, 0, none⟩) HP.out).trans HC.out)
    have HB := Lib.hid hb
    clear hno hb
    by_cases hlt : k < l.length
    · obtain ⟨b, o, rfl, hb, c0, c1, c2, c3, c4, c5, c6⟩ := HVK.out.at_ hlt
      by_cases he : l[k].id = id
      · have HR := Lib.hid (ixF_hit hlt he HN.out)
        have HE := Lib.hid he
        clear he
        generalize l[k] = M at *
        go_wp2_with fail
        refine (find1_yes M id p _ HPK.out HCK.out HE.out).mono ?_
        rintro e w1 ⟨rfl, hb1⟩
        have HB1 := Lib.hid (HB.out.trans (hb1.mono HB.out.size))
        clear hb1
        go_wp2
        go_ret
        exact ⟨by rw [HR.out]; rfl, HB1.out⟩
      · have HE := Lib.hid he
        clear he
        have HNN := Lib.hid (show ∀ j (hj : j < l.length), j < k + 1 → l[j].id ≠ id from fun j hj h => by
          by_cases e : j = k
          · subst e; exact HE.out
          · exact HN.out j hj (by omega))
        generalize l[k] = M at *
        go_wp2_with fail
        refine (find1_no M id p _ HPK.out HCK.out HE.out).mono ?_
        rintro e w1 ⟨rfl, hb1⟩
        have HB1 := Lib.hid (HB.out.trans (hb1.mono HB.out.size))
        clear hb1
        go_wp2
        go_roundw
        case rel => exact ⟨k + 1, by omega, by go_num, HB1.out, HNN.out⟩
        case measure => simp [intOf]; omega
    · have HR := Lib.hid (ixF_none (id := id) (fun j hj => HN.out j hj (by omega)))
      go_wp2
      go_ret
      exact ⟨by rw [HR.out]; rfl, HB.out⟩

theorem find_any (A : Option Addr) (n c : Nat) (l : List Msg) (id : Int) (w : World) (hv : Ls w w.heap.size (.slice A n c) l) :
    Calls Try.prog 129 #[.slice A n c, .int .i64 id] w fun e w' => e = .returned (.int .i64 (ixF l id)) ∧ Below w.heap.size w w' := by
  have HC := Lib.hid (ixfunc_any A n c l id w.heap.size (w.alloc (.cells #[.int .i64 id] 3)) ((hv.alloc (Nat.le_refl _) _).more (by simp)) (by simp) (by simp [go_sem]))
  have HB := Lib.hid ((Below.refl w.heap.size w).alloc (Nat.le_refl _) (.cells #[.int .i64 id] 3))
  have hmf : ∀ (fn : Fn) (first cap : Array Value) (w : World), (Instr.makeFunc fn first cap).run Try.prog w = .ok (.func fn first cap) w := fun _ _ _ _ => rfl
  clear hv
  generalize ixF l id = r at *
  go_enter Try.func129, Try.ntmps129
  go_wp2_with fail
  refine HC.out.mono ?_
  rintro e w1 ⟨rfl, hb1⟩
  have HB1 := Lib.hid (HB.out.trans (hb1.mono HB.out.size))
  clear hb1
  go_wp2
  go_ret
  exact ⟨rfl, HB1.out⟩
end Go.Proofs.Ytdilgeabcacbdaa
namespace Go.Proofs.Ytdilgeabcacbdaa
open Go.RowKit
set_option linter.unusedVariables false

section
variable {w : World} {B : Nat} {A : Option Addr} {n c : Nat} {l : List Msg}
theorem ls_under : Try.prog.underlying 24 = some (.slice (Try.prog.elem 24)) := by kernel_rfl
theorem ls_elem : Try.prog.elem 24 = 92 := by kernel_rfl
theorem Ls.upto (h : Ls w B (.slice A n c) l) (j : Nat) (hj : j ≤ n) : Ls w B (.slice A j c) (l.take j) := by
  obtain ⟨hn, hl, hm⟩ := h.len
  have hlen : (l.take j).length = j := by simp; omega
  refine ⟨A, c, by rw [hlen], by rw [hlen]; omega, hm, by rw [lcs_len], fun h0 => ?_⟩
  rw [hlen] at h0
  obtain ⟨b, o, rfl, hb, hc⟩ := h.rd.2 (by omega)
  refine ⟨b, o, rfl, hb, fun k u hu => hc k u ?_⟩
  rw [← lcs_take] at hu
  have hk : k < j * 7 := by
    have := (List.getElem?_eq_some_iff.1 hu).1
    simp at this; omega
  rw [← hu, List.getElem?_take_of_lt hk]
theorem Ls.cut (h : Ls w B (.slice A n c) l) (k : Nat) (hk : k ≤ n) : Ls w B (.slice (if c = k then A else A.map (·.add (k * 7))) (n - k) (c - k)) (l.drop k) := by
  obtain ⟨hn, hl, hm⟩ := h.len
  refine ⟨_, c - k, by rw [List.length_drop, hn], by simp; omega, by omega, by rw [lcs_len], fun h0 => ?_⟩
  rw [List.length_drop] at h0
  obtain ⟨b, o, rfl, hb, hc⟩ := h.rd.2 (by omega)
  rw [if_neg (by omega)]
  refine ⟨b, o + k * 7, by rw [Option.map_some, add_mk], hb, fun j u hu => ?_⟩
  rw [Nat.add_assoc]
  refine hc _ u ?_
  rw [← hu, ← lcs_drop, List.getElem?_drop]
theorem run_lupto (A : Option Addr) (n c : Nat) (kh : IntKind) (j : Nat) (hj : j ≤ c) : ∀ W, (Instr.slice 24 (.slice A n c) none (some (.int kh (j : Int))) none).run Try.prog W = .ok (.slice A j c) W := fun W => by
  rw [run_slice_h W _ _ _ _ ls_under kh _ (by omega) (by omega), ls_elem, Try.sizeOf92]
  cases A <;> simp [Result.andThen, sliced, Addr.add]
end
end Go.Proofs.Ytdilgeabcacbdaa
namespace Go.Proofs.Ytdilgeabcacbdaa
open Go.RowKit
set_option linter.unusedVariables false

set_option maxHeartbeats 2000000 in
theorem gnums_any (A : Option Addr) (n c : Nat) (hd sz : Int) (w : World) (hm : n ≤ maxLen) :
    Calls Try.prog 107 #[.agg #[.slice A n c, .int .i64 hd, .int .i64 sz]] w fun e w' => e = .returned (.bool (nmB n hd sz)) ∧ Below w.heap.size w w' := by
  have HB := Lib.hid ((Below.refl w.heap.size w).alloc (Nat.le_refl _) (.cells #[.slice A n c, .int .i64 hd, .int .i64 sz] 26))
  have hcs : ∀ (x lo hi : Int) (k : Bool), wi x lo hi = k → Hid (∀ w, Calls Try.prog 127 #[.int .i64 x, .int .i64 lo, .int .i64 hi] w fun e w' => e = .returned (.bool k) ∧ w = w') := fun x lo hi k h => Lib.hid (fun w => by rw [← h]; exact gwithin_any x lo hi w)
  have hf : ∀ k, nmB n hd sz = k → ∀ e : Ending, e = .returned (.bool k) → e = .returned (.bool (nmB n hd sz)) := fun k h e he => by rw [h]; exact he
  have hm' : (n : Int) ≤ 9223372036854775807 := by unfold maxLen at hm; omega
  have h0n : (0 : Int) ≤ (n : Int) := by omega
  clear hm
  cases h0 : wi n 1 12 with
  | false =>
    have H0 := hcs _ _ _ _ h0
    have HF := Lib.hid (hf false (by simp [nmB, h0]))
    clear hcs hf h0
    go_enter Try.func107, Try.ntmps107
    go_wp2_with fail
    refine (H0.out _).mono ?_
    rintro e w1 ⟨rfl, rfl⟩
    go_wp2
    go_ret
    exact ⟨HF.out _ rfl, HB.out⟩
  | true =>
    have H0 := hcs _ _ _ _ h0
    cases h1 : wi hd 0 ((n : Int) - 1) with
    | false =>
      have H1 := hcs _ _ _ _ h1
      have HF := Lib.hid (hf false (by simp [nmB, h0, h1]))
      clear hcs hf h0 h1
      go_enter Try.func107, Try.ntmps107
      go_wp2_with fail
      refine (H0.out _).mono ?_
      rintro e w1 ⟨rfl, rfl⟩
      go_wp2_with fail
      refine (H1.out _).mono ?_
      rintro e w1 ⟨rfl, rfl⟩
      go_wp2
      go_ret
      exact ⟨HF.out _ rfl, HB.out⟩
    | true =>
      have H1 := hcs _ _ _ _ h1
      cases h2 : wi sz 0 n with
      | false =>
        have H2 := hcs _ _ _ _ h2
        have HF := Lib.hid (hf false (by simp [nmB, h0, h1, h2]))
        clear hcs hf h0 h1 h2
        go_enter Try.func107, Try.ntmps107
        go_wp2_with fail
        refine (H0.out _).mono ?_
        rintro e w1 ⟨rfl, rfl⟩
        go_wp2_with fail
        refine (H1.out _).mono ?_
        rintro e w1 ⟨rfl, rfl⟩
        go_wp2_with fail
        refine (H2.out _).mono ?_
        rintro e w1 ⟨rfl, rfl⟩
        go_wp2
        go_ret
        exact ⟨HF.out _ rfl, HB.out⟩
      | true =>
        have H2 := hcs _ _ _ _ h2
        have HF := Lib.hid (hf true (by simp [nmB, h0, h1, h2]))
        clear hcs hf h0 h1 h2
        go_enter Try.func107, Try.ntmps107
        go_wp2_with fail
        refine (H0.out _).mono ?_
        rintro e w1 ⟨rfl, rfl⟩
        go_wp2_with fail
        refine (H1.out _).mono ?_
        rintro e w1 ⟨rfl, rfl⟩
        go_wp2_with fail
        refine (H2.out _).mono ?_
        rintro e w1 ⟨rfl, rfl⟩
        go_wp2
        go_ret
        exact ⟨HF.out _ rfl, HB.out⟩

open Classical in
/-- The free cells are zero. -/
noncomputable def zfB (cs : List Msg) (hd sz : Nat) : Bool := decide (∀ k, sz ≤ k → k < cs.length → cel cs hd k = zM)
open Classical in
theorem zfB_yes {cs : List Msg} {hd sz : Nat} (h : ∀ k, sz ≤ k → k < cs.length → cel cs hd k = zM) : zfB cs hd sz = true := decide_eq_true h
open Classical in
theorem zfB_no {cs : List Msg} {hd sz k : Nat} (h1 : sz ≤ k) (h2 : k < cs.length) (h : cel cs hd k ≠ zM) : zfB cs hd sz = false := decide_eq_false (fun g => h (g k h1 h2))
open Classical in
theorem zfB_of {cs : List Msg} {hd sz : Nat} (h : zfB cs hd sz = true) : ∀ k, sz ≤ k → k < cs.length → cel cs hd k = zM := of_decide_eq_true h
open Classical in
theorem zfB_not {cs : List Msg} {hd sz : Nat} (h : zfB cs hd sz = false) : ¬ ∀ k, sz ≤ k → k < cs.length → cel cs hd k = zM := of_decide_eq_false h

theorem RgAt.step {w W W' : World} {p n c b m : Nat} {A : Option Addr} {hd sz : Int} {X : Msg} (h : RgAt w p A n c hd sz W) (hc : C7 W b m X) (hbw : b < W.heap.size) (hb : Below W.heap.size W W') :
    Hid (RgAt w p A n c hd sz W') ∧ (W'.cell? ⟨p, 0, none⟩ = some (.slice A n c) ∧ W'.cell? ⟨p, 1, none⟩ = some (.int .i64 hd) ∧ W'.cell? ⟨p, 2, none⟩ = some (.int .i64 sz) ∧ p < W'.heap.size) ∧ C7 W' b m X :=
  ⟨Lib.hid (h.below hb), (h.below hb).facts, hc.below hb hbw⟩

set_option maxHeartbeats 4000000 in
set_option maxRecDepth 20000 in
theorem zfree_any (A : Option Addr) (n c : Nat) (cs : List Msg) (hd sz : Nat) (w : World) (hv : Ls w w.heap.size (.slice A n c) cs) (hn : nmB cs.length hd sz = true) :
    Calls Try.prog 108 #[.agg #[.slice A n c, .int .i64 hd, .int .i64 sz]] w fun e w' => e = .returned (.bool (zfB cs hd sz)) ∧ Below w.heap.size w w' := by
  obtain ⟨rfl, hm1, hm2⟩ := hv.len
  obtain ⟨⟨n1, n2⟩, ⟨h1, h2⟩, ⟨s1, s2⟩⟩ := nm_of hn
  have HV := Lib.hid hv
  clear hv hn
  go_enter Try.func108, Try.ntmps108
  go_wp2
  have HS := Lib.hid (RgAt.start w A cs.length c hd sz 26)
  obtain ⟨p, hp⟩ : ∃ p, p = w.heap.size := ⟨_, rfl⟩
  rw [← hp] at HS ⊢
  have HPP := Lib.hid hp
  clear hp
  go_loopw [3] (fun i wr => ∃ k : Nat, k ≤ cs.length ∧ sz ≤ k ∧ i = .int .i64 k ∧ RgAt w p A cs.length c hd sz wr ∧ ∀ j, sz ≤ j → j < k → cel cs hd j = zM) (fun i _ => cs.length - (intOf i).toNat)
  case atStart => exact ⟨sz, by omega, Nat.le_refl _, rfl, HS.out, fun j h h' => absurd h (by omega)⟩
  case round =>
    obtain ⟨k, hk, hsk, rfl, hr, hz⟩ := hrel
    have HR := Lib.hid hr
    have HZ := Lib.hid hz
    have HVK := Lib.hid (HV.out.below hr.bel)
    obtain ⟨r0, r1, r2, hpl⟩ := hr.facts
    clear hr hz
    by_cases hlt : k < cs.length
    · obtain ⟨m, hm⟩ : ∃ m, m = (hd + k) % cs.length := ⟨_, rfl⟩
      have hml : m < cs.length := by rw [hm]; exact Nat.mod_lt _ (by omega)
      have HX := Lib.hid (cel_get (by omega) m hm hml)
      have HPL := Lib.hid (fun w => place_any A cs.length c hd sz k (by omega) (by omega) (by omega) (by omega) (by omega) (by omega) w)
      have hmi : ((hd : Int) + (k : Int)) % (cs.length : Int) = (m : Int) := by rw [hm]; simp
      rw [hmi] at HPL
      obtain ⟨b, o, rfl, hb, hc⟩ := HVK.out.at_ hml
      generalize cs[m] = X at *
      have hbw : b < wr.heap.size := by have := HPP.out; omega
      have HST := Lib.hid (fun w1 (hb1 : Below wr.drew.heap.size wr.drew w1) => RgAt.step (X := X) HR.out hc hbw (drew_below hb1))
      clear hm hmi hb hc
      by_cases he : X = zM
      · have hne : ∀ W, (binOp .neq 92 X.v (.agg #[.int .i64 0, .int .i64 0, .int .i64 0, .int .i64 0, .int .i64 0, .int .i64 0, .string ⟨#[]⟩])).run Try.prog W = .ok (.bool false) W := by rw [he]; exact neqm zM
        have HE := Lib.hid he
        clear he
        go_wp2
        go_region_with ((go_at_call 121; refine (HPL.out _).mono ?_; rintro e w1 ⟨rfl, hb1⟩; obtain ⟨HR1, ⟨x0, x1, x2, hpl1⟩, ⟨d0, d1, d2, d3, d4, d5, d6⟩⟩ := HST.out _ hb1; clear hb1))
        all_goals
          clear d0 d1 d2 d3 d4 d5 d6
          go_wp2
          go_roundw
          case rel =>
            refine ⟨k + 1, by omega, by omega, by go_num, HR1.out, fun j h h' => ?_⟩
            by_cases e : j = k
            · rw [e, ← HX.out, HE.out]
            · exact HZ.out j h (by omega)
          case measure => simp [intOf]; omega
      · have hne : ∀ W, (binOp .neq 92 X.v (.agg #[.int .i64 0, .int .i64 0, .int .i64 0, .int .i64 0, .int .i64 0, .int .i64 0, .string ⟨#[]⟩])).run Try.prog W = .ok (.bool true) W := neqm_ne X zM he
        have HF := Lib.hid (zfB_no hsk hlt (by rw [← HX.out]; exact he))
        clear he
        go_wp2
        go_region_with ((go_at_call 121; refine (HPL.out _).mono ?_; rintro e w1 ⟨rfl, hb1⟩; obtain ⟨HR1, ⟨x0, x1, x2, hpl1⟩, ⟨d0, d1, d2, d3, d4, d5, d6⟩⟩ := HST.out _ hb1; clear hb1))
        all_goals
          clear d0 d1 d2 d3 d4 d5 d6
          go_wp2
          go_ret
          exact ⟨by rw [HF.out]; rfl, HR1.out.bel⟩
    · have HF := Lib.hid (zfB_yes (cs := cs) (hd := hd) (sz := sz) (fun j h h' => HZ.out j h (by omega)))
      go_wp2
      go_ret
      exact ⟨by rw [HF.out]; rfl, HR.out.bel⟩
end Go.Proofs.Ytdilgeabcacbdaa
