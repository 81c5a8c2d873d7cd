/- What is proved here: due.compare, due.before, due.isOutOfRange by contracts; due.find and slices.ContainsFunc with due.isOutOfRange, by contracts; due.hasSameID, due.isOrdered, due.Validate by contracts. -/
import Derived.Test.YtdilgeabcacbdaaJ17
import Derived.Laws.Slices
namespace Go.Proofs.Ytdilgeabcacbdaa
open Go.RowKit
set_option linter.unusedVariables false

set_option maxHeartbeats 2000000 in
set_option maxRecDepth 20000 in
theorem compare_any (a b : Du) (w : World) :
    Calls Try.prog 149 #[a.v, b.v] w fun e w' => e = .returned (.int .i64 (cmF a b)) ∧ Below w.heap.size w w' := by
  have HD := Lib.hid (D4.start w a b 118)
  have HB := Lib.hid (((Below.refl w.heap.size w).alloc (Nat.le_refl _) (.cells #[.int .i64 a.dl, .int .i64 a.id] 118)).alloc (by simp) (.cells #[.int .i64 b.dl, .int .i64 b.id] 118))
  have HC1 := Lib.hid (fun w => cmpint_any a.dl b.dl w)
  have HC2 := Lib.hid (fun w => cmpint_any a.id b.id w)
  have HO := Lib.hid (fun g c w => or_any g c (ciF a.dl b.dl) (ciF a.id b.id) w)
  have HF := Lib.hid (cm_or a b)
  generalize ciF a.dl b.dl = x at *
  generalize ciF a.id b.id = y at *
  go_enter Try.func149, Try.ntmps149
  go_wp2
  obtain ⟨p, hp⟩ : ∃ p, p = w.heap.size := ⟨_, rfl⟩
  obtain ⟨q, hq⟩ : ∃ q, q = w.heap.size + 1 := ⟨_, rfl⟩
  have HPQ := Lib.hid (And.intro hp hq)
  rw [← hq, ← hp] at HD ⊢
  clear hp hq
  obtain ⟨W0, hW0⟩ : ∃ W0, W0 = ((w.alloc (.cells #[.int .i64 a.dl, .int .i64 a.id] 118)).alloc (.cells #[.int .i64 b.dl, .int .i64 b.id] 118)) := ⟨_, rfl⟩
  have HSZ := Lib.hid (show W0.heap.size = w.heap.size + 2 by rw [hW0]; simp)
  rw [← hW0] at HD HB ⊢
  clear hW0
  have HS0 := Lib.hid (show D4 W0.drew p q a b from HD.out)
  have HS1 := Lib.hid (HD.out.below (W' := (W0.alloc (.cells #[.int .i64 x, .int .i64 y] 3)).drew) (B := W0.heap.size) (((Below.refl W0.heap.size W0).alloc (by simp) _).drew) (by have := HPQ.out; have := HSZ.out; omega) (by have := HPQ.out; have := HSZ.out; omega))
  have HB1 := Lib.hid (show Below w.heap.size w ((W0.alloc (.cells #[.int .i64 x, .int .i64 y] 3)).drew) from (HB.out.alloc HB.out.size _).drew)
  obtain ⟨c0, c1, c2, c3⟩ := HD.out
  go_region_held3 (fun W => W.cell? ⟨p, 0, none⟩ = some (.int .i64 a.dl) ∧ W.cell? ⟨p, 1, none⟩ = some (.int .i64 a.id) ∧ W.cell? ⟨q, 0, none⟩ = some (.int .i64 b.dl) ∧ W.cell? ⟨q, 1, none⟩ = some (.int .i64 b.id))
    (first | with_reducible exact HS0.out | with_reducible exact HS1.out)
    (first
    | (go_at_call 151; (with_reducible refine (HC1.out _).mono ?_); rintro e w1 ⟨rfl, rfl⟩)
    | (go_at_call 151; (with_reducible refine (HC2.out _).mono ?_); rintro e w1 ⟨rfl, rfl⟩)
    | (go_at_call 150; (with_reducible refine (HO.out _ _ _ (by simp [go_sem]) (by simp [go_sem])).mono ?_); rintro e w1 ⟨rfl, rfl⟩))
  go_wp2
  go_ret
  exact ⟨by rw [← HF.out]; rfl, HB1.out⟩

set_option maxHeartbeats 1000000 in
theorem before_any (a b : Du) (w : World) :
    Calls Try.prog 145 #[a.v, b.v] w fun e w' => e = .returned (.bool (bef a b)) ∧ Below w.heap.size w w' := by
  have HB := Lib.hid (((Below.refl w.heap.size w).alloc (Nat.le_refl _) (.cells #[.int .i64 a.dl, .int .i64 a.id] 118)).alloc (by simp) (.cells #[.int .i64 b.dl, .int .i64 b.id] 118))
  have HC := Lib.hid (fun w => compare_any a b w)
  have HF := Lib.hid (show decide (cmF a b < 0) = bef a b by rw [Bool.eq_iff_iff, decide_eq_true_iff]; exact cmF_neg a b)
  generalize cmF a b = c at *
  go_enter Try.func145, Try.ntmps145
  go_wp2_with fail
  refine (HC.out _).mono ?_
  rintro e w1 ⟨rfl, hb⟩
  have HB1 := Lib.hid (HB.out.trans (hb.mono HB.out.size))
  clear hb
  go_wp2
  go_ret
  exact ⟨by rw [← HF.out]; rfl, HB1.out⟩

theorem snd_wi (d : Du) : snd d = (wiD d.dl 0 1073741824 && wiD d.id 1 1073741824) := by
  unfold snd wiD
  rw [Bool.eq_iff_iff]
  simp
  omega
set_option maxHeartbeats 1000000 in
theorem isout_any (d : Du) (w : World) :
    Calls Try.prog 132 #[d.v] w fun e w' => e = .returned (.bool (!snd d)) ∧ Below w.heap.size w w' := by
  have HB := Lib.hid ((Below.refl w.heap.size w).alloc (Nat.le_refl _) (.cells #[.int .i64 d.dl, .int .i64 d.id] 118))
  have HF := Lib.hid (snd_wi d)
  have H1 := Lib.hid (fun w => dwithin_any d.dl 0 1073741824 w)
  have H2 := Lib.hid (fun w => dwithin_any d.id 1 1073741824 w)
  generalize wiD d.dl 0 1073741824 = k1 at *
  generalize wiD d.id 1 1073741824 = k2 at *
  cases k1 with
  | false =>
    go_enter Try.func132, Try.ntmps132
    go_wp2_with fail
    refine (H1.out _).mono ?_
    rintro e w1 ⟨rfl, rfl⟩
    go_wp2
    go_ret
    exact ⟨by rw [HF.out]; rfl, HB.out⟩
  | true =>
    go_enter Try.func132, Try.ntmps132
    go_wp2_with fail
    refine (H1.out _).mono ?_
    rintro e w1 ⟨rfl, rfl⟩
    go_wp2_with fail
    refine (H2.out _).mono ?_
    rintro e w1 ⟨rfl, rfl⟩
    go_wp2
    go_ret
    exact ⟨by rw [HF.out]; simp, HB.out⟩
end Go.Proofs.Ytdilgeabcacbdaa
namespace Go.Proofs.Ytdilgeabcacbdaa
open Go.RowKit
set_option linter.unusedVariables false

theorem drew_bel {W W' : World} (h : Below W.drew.heap.size W.drew W') : Below W.heap.size W W' := ((Below.refl W.heap.size W).drew).trans h
section
variable {w : World} {B : Nat} {A : Option Addr} {n c : Nat} {l : List Du}
/-- The element at place k, and where it lies. -/
theorem Dl.atg {k : Nat} (h : Dl w B (.slice A n c) l) (hk : k < l.length) : ∃ b o, A = some ⟨b, o, none⟩ ∧ b < B ∧ w.cell? ⟨b, o + k * 2, none⟩ = some (.int .i64 (ge l k).dl) ∧ w.cell? ⟨b, o + k * 2 + 1, none⟩ = some (.int .i64 (ge l k).id) := by
  obtain ⟨b, o, e, hb, c0, c1⟩ := h.at_ hk
  rw [ge_get hk] at c0 c1
  exact ⟨b, o, e, hb, c0, c1⟩
end

theorem dfind1_any (d : Du) (id : Int) (p : Nat) (w : World) (hp : p < w.heap.size) (hc : w.cell? ⟨p, 0, none⟩ = some (.int .i64 id)) :
    Calls Try.prog 148 #[d.v, .pointer (some ⟨p, 0, none⟩)] w fun e w' => e = .returned (.bool (decide (d.id = id))) ∧ Below w.heap.size w w' := by
  have HB := Lib.hid ((Below.refl w.heap.size w).alloc (Nat.le_refl _) (.cells #[.int .i64 d.dl, .int .i64 d.id] 118))
  have HD := Lib.hid (show (d.id == id) = decide (d.id = id) by rw [Bool.eq_iff_iff]; simp)
  go_enter Try.func148, Try.ntmps148
  go_wp2
  go_ret
  exact ⟨by rw [← HD.out]; rfl, HB.out⟩

set_option maxHeartbeats 1000000 in
theorem dixfunc_any (A : Option Addr) (n c : Nat) (l : List Du) (id : Int) (p : Nat) (w : World) (hv : Dl w w.heap.size (.slice A n c) l) (hp : p < w.heap.size) (hc : w.cell? ⟨p, 0, none⟩ = some (.int .i64 id)) :
    Calls Try.prog 142 #[.slice A n c, .func (.func 148) #[] #[.pointer (some ⟨p, 0, none⟩)]] w fun e w' => e = .returned (.int .i64 (ixD l id)) ∧ Below w.heap.size w w' := by
  obtain ⟨rfl, hm1, hm2⟩ := hv.len
  have hL : l.length ≤ 9223372036854775807 := by unfold maxLen at hm2; omega
  have HV := Lib.hid hv
  have HP := Lib.hid hp
  have HC := Lib.hid hc
  have HB := Lib.hid (Below.refl w.heap.size w)
  clear hv hm1 hm2 hp hc
  go_enter Try.func142, Try.ntmps142
  go_wp2
  go_loopw [8] (fun i wr => ∃ k : Nat, k ≤ l.length ∧ i = .int .i64 k ∧ Below w.heap.size w wr ∧ ∀ j, j < k → (ge l j).id ≠ id) (fun i _ => l.length - (intOf i).toNat)
  case atStart => exact ⟨0, by omega, rfl, HB.out, fun j h => absurd h (by omega)⟩
  case round =>
    obtain ⟨k, hk, rfl, hb, hno⟩ := hrel
    have HN := Lib.hid hno
    have HVK := Lib.hid (HV.out.below hb)
    have HPK := Lib.hid (Nat.lt_of_lt_of_le HP.out hb.size)
    have HCK := Lib.hid ((hb.cell (p := ⟨p, 0, none⟩) HP.out).trans HC.out)
    have HB := Lib.hid hb
    clear hno hb
    by_cases hlt : k < l.length
    · obtain ⟨b, o, rfl, hb, c0, c1⟩ := HVK.out.atg hlt
      have HF := Lib.hid (fun w1 hp hc => dfind1_any (ge l k) id p w1 hp hc)
      by_cases he : (ge l k).id = id
      · have HR := Lib.hid (ixD_hit hlt he HN.out)
        rw [decide_eq_true he] at HF
        clear he
        generalize ge l k = M at *
        go_wp2_with fail
        refine (HF.out _ HPK.out HCK.out).mono ?_
        rintro e w1 ⟨rfl, hb1⟩
        have HB1 := Lib.hid (HB.out.trans (hb1.mono HB.out.size))
        clear hb1
        go_wp2
        go_ret
        exact ⟨by rw [HR.out]; rfl, HB1.out⟩
      · have HNN := Lib.hid (show ∀ j, j < k + 1 → (ge l j).id ≠ id from fun j h => by
          by_cases e : j = k
          · rw [e]; exact he
          · exact HN.out j (by omega))
        rw [decide_eq_false he] at HF
        clear he
        generalize ge l k = M at *
        go_wp2_with fail
        refine (HF.out _ HPK.out HCK.out).mono ?_
        rintro e w1 ⟨rfl, hb1⟩
        have HB1 := Lib.hid (HB.out.trans (hb1.mono HB.out.size))
        clear hb1
        go_wp2
        go_roundw
        case rel => exact ⟨k + 1, by omega, by go_num, HB1.out, HNN.out⟩
        case measure => simp [intOf]; omega
    · have HR := Lib.hid (ixD_none (id := id) (fun j hj => HN.out j (by omega)))
      go_wp2
      go_ret
      exact ⟨by rw [HR.out]; rfl, HB.out⟩

theorem dfind_any (A : Option Addr) (n c : Nat) (l : List Du) (id : Int) (w : World) (hv : Dl w w.heap.size (.slice A n c) l) :
    Calls Try.prog 144 #[.slice A n c, .int .i64 id] w fun e w' => e = .returned (.int .i64 (ixD l id)) ∧ Below w.heap.size w w' := by
  have HC := Lib.hid (dixfunc_any A n c l id w.heap.size (w.alloc (.cells #[.int .i64 id] 3)) ((hv.alloc (Nat.le_refl _) _).more (by simp)) (by simp) (by simp [go_sem]))
  have HB := Lib.hid ((Below.refl w.heap.size w).alloc (Nat.le_refl _) (.cells #[.int .i64 id] 3))
  have hmf : ∀ (fn : Fn) (first cap : Array Value) (w : World), (Instr.makeFunc fn first cap).run Try.prog w = .ok (.func fn first cap) w := fun _ _ _ _ => rfl
  clear hv
  generalize ixD l id = r at *
  go_enter Try.func144, Try.ntmps144
  go_wp2_with fail
  refine HC.out.mono ?_
  rintro e w1 ⟨rfl, hb1⟩
  have HB1 := Lib.hid (HB.out.trans (hb1.mono HB.out.size))
  clear hb1
  go_wp2
  go_ret
  exact ⟨rfl, HB1.out⟩

/-- A place that is there just if not all elements are in range. -/
def OxP (l : List Du) (w : World) (e : Ending) (w' : World) : Prop := ∃ r : Int, e = .returned (.int .i64 r) ∧ decide (0 ≤ r) = (!snD l) ∧ Below w.heap.size w w'
set_option maxHeartbeats 1000000 in
theorem oxfunc_any (A : Option Addr) (n c : Nat) (l : List Du) (w : World) (hv : Dl w w.heap.size (.slice A n c) l) :
    Calls Try.prog 142 #[.slice A n c, .func (.func 132) #[] #[]] w (OxP l w) := by
  obtain ⟨rfl, hm1, hm2⟩ := hv.len
  have hL : l.length ≤ 9223372036854775807 := by unfold maxLen at hm2; omega
  have HV := Lib.hid hv
  have HB := Lib.hid (Below.refl w.heap.size w)
  clear hv hm1 hm2
  go_enter Try.func142, Try.ntmps142
  go_wp2
  go_loopw [8] (fun i wr => ∃ k : Nat, k ≤ l.length ∧ i = .int .i64 k ∧ Below w.heap.size w wr ∧ ∀ j, j < k → snd (ge l j) = true) (fun i _ => l.length - (intOf i).toNat)
  case atStart => exact ⟨0, by omega, rfl, HB.out, fun j h => absurd h (by omega)⟩
  case round =>
    obtain ⟨k, hk, rfl, hb, hno⟩ := hrel
    have HN := Lib.hid hno
    have HVK := Lib.hid (HV.out.below hb)
    have HB := Lib.hid hb
    clear hno hb
    by_cases hlt : k < l.length
    · obtain ⟨b, o, rfl, hb, c0, c1⟩ := HVK.out.atg hlt
      have HF := Lib.hid (fun w1 => isout_any (ge l k) w1)
      cases he : snd (ge l k) with
      | false =>
        have HR := Lib.hid (snD_no hlt he)
        rw [he] at HF
        clear he
        generalize ge l k = M at *
        go_wp2_with fail
        refine (HF.out _).mono ?_
        rintro e w1 ⟨rfl, hb1⟩
        have HB1 := Lib.hid (HB.out.trans (hb1.mono HB.out.size))
        clear hb1
        go_wp2
        go_ret
        exact ⟨k, rfl, by rw [HR.out]; simp, HB1.out⟩
      | true =>
        have HNN := Lib.hid (show ∀ j, j < k + 1 → snd (ge l j) = true from fun j h => by
          by_cases e : j = k
          · rw [e]; exact he
          · exact HN.out j (by omega))
        rw [he] at HF
        clear he
        generalize ge l k = M at *
        go_wp2_with fail
        refine (HF.out _).mono ?_
        rintro e w1 ⟨rfl, hb1⟩
        have HB1 := Lib.hid (HB.out.trans (hb1.mono HB.out.size))
        clear hb1
        go_wp2
        go_roundw
        case rel => exact ⟨k + 1, by omega, by go_num, HB1.out, HNN.out⟩
        case measure => simp [intOf]; omega
    · have HR := Lib.hid ((snD_iff l).2 (fun j hj => HN.out j (by omega)))
      go_wp2
      go_ret
      exact ⟨-1, rfl, by rw [HR.out]; rfl, HB.out⟩

theorem dcontains_any (A : Option Addr) (n c : Nat) (l : List Du) (w : World) (hv : Dl w w.heap.size (.slice A n c) l) :
    Calls Try.prog 131 #[.slice A n c, .func (.func 132) #[] #[]] w fun e w' => e = .returned (.bool (!snD l)) ∧ Below w.heap.size w w' := by
  have HC := Lib.hid (oxfunc_any A n c l w hv)
  clear hv
  go_enter Try.func131, Try.ntmps131
  go_wp2_with fail
  refine HC.out.mono ?_
  rintro e w1 ⟨r, rfl, hr, hb1⟩
  have HR := Lib.hid hr
  have HB1 := Lib.hid hb1
  clear hr hb1
  go_wp2
  go_ret
  exact ⟨by rw [← HR.out]; simp, HB1.out⟩
end Go.Proofs.Ytdilgeabcacbdaa
namespace Go.Proofs.Ytdilgeabcacbdaa
open Go.RowKit
set_option linter.unusedVariables false

section
variable {w : World} {B : Nat} {A : Option Addr} {n c : Nat} {l : List Du}
theorem dl_under : Try.prog.underlying 28 = some (.slice (Try.prog.elem 28)) := by kernel_rfl
theorem dl_elem : Try.prog.elem 28 = 118 := by kernel_rfl
theorem Dl.upto (h : Dl w B (.slice A n c) l) (j : Nat) (hj : j ≤ n) : Dl w B (.slice A j c) (l.take j) := by
  obtain ⟨hn, hl, hm⟩ := h.len
  have hlen : (l.take j).length = j := by simp; omega
  refine ⟨A, c, by rw [hlen], by rw [hlen]; omega, hm, by rw [dcs_len], fun h0 => ?_⟩
  rw [hlen] at h0
  obtain ⟨b, o, rfl, hb, hc⟩ := h.rd.2 (by omega)
  refine ⟨b, o, rfl, hb, fun k u hu => hc k u ?_⟩
  rw [← dcs_take] at hu
  have hk : k < j * 2 := by
    have := (List.getElem?_eq_some_iff.1 hu).1
    simp at this; omega
  rw [← hu, List.getElem?_take_of_lt hk]
theorem run_dupto (A : Option Addr) (n c : Nat) (kh : IntKind) (j : Nat) (hj : j ≤ c) : ∀ W, (Instr.slice 28 (.slice A n c) none (some (.int kh (j : Int))) none).run Try.prog W = .ok (.slice A j c) W := fun W => by
  rw [run_slice_h W _ _ _ _ dl_under kh _ (by omega) (by omega), dl_elem, Try.sizeOf118]
  cases A <;> simp [Result.andThen, sliced, Addr.add]
end
theorem dupD_take {l : List Du} {k : Nat} (hk : k < l.length) (h : 0 ≤ ixD (l.take k) (ge l k).id) : dupD l := by
  rcases ixD_cases (l.take k) (ge l k).id with ⟨e, _⟩ | ⟨j, hj, e, hi, _⟩
  · rw [e] at h; exact absurd h (by decide)
  · have hj' : j < k := by simp at hj; omega
    rw [ge_take hj'] at hi
    exact ⟨j, k, hj', hk, hi⟩
theorem dupD_not_take {l : List Du} {k : Nat} (hk : k < l.length) (h : ¬ 0 ≤ ixD (l.take k) (ge l k).id) : ∀ i, i < k → (ge l i).id ≠ (ge l k).id := by
  intro i hik e
  have hl : (l.take k).length = k := by simp; omega
  refine h ((ixD_ge _ _).2 ⟨ge (l.take k) i, mem_ge (by rw [hl]; exact hik), by rw [ge_take hik]; exact e⟩)

set_option maxHeartbeats 4000000 in
set_option maxRecDepth 20000 in
theorem dsame_any (A : Option Addr) (n c : Nat) (l : List Du) (w : World) (hv : Dl w w.heap.size (.slice A n c) l) :
    Calls Try.prog 133 #[.slice A n c] w fun e w' => e = .returned (.bool (dpD l)) ∧ Below w.heap.size w w' := by
  obtain ⟨rfl, hm1, hm2⟩ := hv.len
  have hL : l.length ≤ 9223372036854775807 := by unfold maxLen at hm2; omega
  have HC := Lib.hid hm1
  have HV := Lib.hid hv
  have HB := Lib.hid (Below.refl w.heap.size w)
  clear hv hm1 hm2
  go_enter Try.func133, Try.ntmps133
  go_wp2
  go_loopw [7] (fun i wr => ∃ k : Nat, k ≤ l.length ∧ i = .int .i64 k ∧ Below w.heap.size w wr ∧ ∀ i j, i < j → j < k → (ge l i).id ≠ (ge l j).id) (fun i _ => l.length - (intOf i).toNat)
  case atStart => exact ⟨0, by omega, rfl, HB.out, fun i j _ h => absurd h (by omega)⟩
  case round =>
    obtain ⟨k, hk, rfl, hb, hno⟩ := hrel
    have HN := Lib.hid hno
    have HVK := Lib.hid (HV.out.below hb)
    have HB := Lib.hid hb
    clear hno hb
    by_cases hlt : k < l.length
    · have HD := Lib.hid (fun h => dupD_take hlt h)
      have HT := Lib.hid (fun h => dupD_not_take hlt h)
      have hcut := run_dupto A l.length c .i64 k (by have := HC.out; omega)
      have HVA := Lib.hid ((((HVK.out.alloc HB.out.size (.cells #[.int .i64 (ge l k).dl, .int .i64 (ge l k).id] 118)).upto k hk).drew).more (show w.heap.size ≤ (wr.alloc (.cells #[.int .i64 (ge l k).dl, .int .i64 (ge l k).id] 118)).drew.heap.size by have := HB.out.size; simp; omega))
      have HBA := Lib.hid (HB.out.alloc HB.out.size (.cells #[.int .i64 (ge l k).dl, .int .i64 (ge l k).id] 118))
      obtain ⟨b, o, rfl, hb, c0, c1⟩ := HVK.out.atg hlt
      by_cases he : 0 ≤ ixD (l.take k) (ge l k).id
      · have HY := Lib.hid (dpD_yes (HD.out he))
        generalize hX : ge l k = X at *
        have HX := Lib.hid hX
        have HFD := Lib.hid (fun w1 (h : Dl w1 w1.heap.size (.slice (some ⟨b, o, none⟩) k c) (l.take k)) => dfind_any _ _ _ _ X.id w1 h)
        generalize ixD (l.take k) X.id = r at *
        clear hX
        go_wp2
        go_region_with ((go_at_call 144; refine (HFD.out _ HVA.out).mono ?_; rintro e w1 ⟨rfl, hb1⟩; have HB1 := Lib.hid (HBA.out.trans ((drew_bel hb1).mono HBA.out.size)); clear hb1))
        all_goals
          go_wp2
          go_ret
          exact ⟨by rw [HY.out]; rfl, HB1.out⟩
      · have HNN := Lib.hid (HT.out he)
        have hge := Lib.hid (ixD_neg he)
        generalize hX : ge l k = X at *
        have HX := Lib.hid hX
        have HFD := Lib.hid (fun w1 (h : Dl w1 w1.heap.size (.slice (some ⟨b, o, none⟩) k c) (l.take k)) => dfind_any _ _ _ _ X.id w1 h)
        generalize ixD (l.take k) X.id = r at *
        have hr : r = -1 := hge.out
        subst hr
        clear hX he hge
        go_wp2
        go_region_with ((go_at_call 144; refine (HFD.out _ HVA.out).mono ?_; rintro e w1 ⟨rfl, hb1⟩; have HB1 := Lib.hid (HBA.out.trans ((drew_bel hb1).mono HBA.out.size)); clear hb1))
        all_goals
          go_wp2
          go_roundw
          case rel =>
            refine ⟨k + 1, by omega, by go_num, HB1.out, fun i j hij hjk => ?_⟩
            by_cases e : j = k
            · subst e
              rw [HX.out]
              exact HNN.out i hij
            · exact HN.out i j hij (by omega)
          case measure => simp [intOf]; omega
    · have HY := Lib.hid (dpD_no (h := l) (by rintro ⟨i, j, hij, hj, e⟩; exact HN.out i j hij (by omega) e))
      go_wp2
      go_ret
      exact ⟨by rw [HY.out]; rfl, HB.out⟩

set_option maxHeartbeats 4000000 in
set_option maxRecDepth 20000 in
theorem dordered_any (A : Option Addr) (n c : Nat) (l : List Du) (w : World) (hv : Dl w w.heap.size (.slice A n c) l) (h100 : n ≤ 100) :
    Calls Try.prog 134 #[.slice A n c] w fun e w' => e = .returned (.bool (hpD l)) ∧ Below w.heap.size w w' := by
  obtain ⟨rfl, hm1, hm2⟩ := hv.len
  have hL : l.length ≤ 9223372036854775807 := by omega
  have HV := Lib.hid hv
  have HB := Lib.hid (Below.refl w.heap.size w)
  clear hv hm1 hm2
  go_enter Try.func134, Try.ntmps134
  go_wp2
  go_loopw [7] (fun i wr => ∃ k : Nat, k ≤ l.length ∧ i = .int .i64 k ∧ Below w.heap.size w wr ∧ ∀ j, j < k → bef (ge l j) (ge l ((j - 1) / 2)) = false) (fun i _ => l.length - (intOf i).toNat)
  case atStart => exact ⟨0, by omega, rfl, HB.out, fun j h => absurd h (by omega)⟩
  case round =>
    obtain ⟨k, hk, rfl, hb, hno⟩ := hrel
    have HN := Lib.hid hno
    have HVK := Lib.hid (HV.out.below hb)
    have HB := Lib.hid hb
    clear hno hb
    by_cases hlt : k < l.length
    · obtain ⟨p, hp⟩ : ∃ p, p = (k - 1) / 2 := ⟨_, rfl⟩
      have hpl : p < l.length := by omega
      have HPA := Lib.hid (fun w => parent_any k (by omega) w)
      rw [← hp] at HPA
      have HPP := Lib.hid hp
      clear hp
      have HF := Lib.hid (fun w1 => before_any (ge l k) (ge l p) w1)
      obtain ⟨b, o, rfl, hb, c0, c1⟩ := HVK.out.atg hlt
      obtain ⟨b', o', e', hb', d0, d1⟩ := HVK.out.atg hpl
      injection e' with e'
      injection e' with e1 e2
      subst e1; subst e2
      clear hb'
      obtain ⟨X, hX⟩ : ∃ X, ge l k = X := ⟨_, rfl⟩
      obtain ⟨Y, hY⟩ : ∃ Y, ge l p = Y := ⟨_, rfl⟩
      have HX := Lib.hid hX
      have HY := Lib.hid hY
      rw [hX, hY] at HF
      rw [hX] at c0 c1
      rw [hY] at d0 d1
      clear hX hY
      have hbw : b < wr.heap.size := Nat.lt_of_lt_of_le hb HB.out.size
      have HBA := Lib.hid ((HB.out.alloc HB.out.size (.cells #[.int .i64 X.dl, .int .i64 X.id] 118)).drew)
      have hpl' : (p : Int) < (l.length : Int) := by omega
      cases hbf : bef X Y with
      | true =>
        have HR := Lib.hid (show hpD l = false from hpD_no (fun hh => by
          have := hh k (by
            rcases Nat.eq_zero_or_pos k with e | e
            · have e2 : p = k := by rw [HPP.out, e]
              rw [← HX.out, ← HY.out, e2, bef_irr] at hbf; cases hbf
            · exact e) hlt
          rw [← HPP.out, HX.out, HY.out, hbf] at this
          cases this))
        rw [hbf] at HF
        clear hbf
        go_wp2
        go_region_with (first | (go_at_call 146; refine (HPA.out _).mono ?_; rintro e w1 ⟨rfl, rfl⟩) | (go_at_call 145; refine (HF.out _).mono ?_; rintro e w1 ⟨rfl, hb1⟩; have HB1 := Lib.hid (HBA.out.trans (hb1.mono HBA.out.size)); clear hb1))
        all_goals
          go_wp2
          go_ret
          exact ⟨by rw [HR.out]; rfl, HB1.out⟩
      | false =>
        have HNN := Lib.hid (show ∀ j, j < k + 1 → bef (ge l j) (ge l ((j - 1) / 2)) = false from fun j h => by
          by_cases e : j = k
          · rw [e, ← HPP.out, HX.out, HY.out]; exact hbf
          · exact HN.out j (by omega))
        rw [hbf] at HF
        clear hbf
        go_wp2
        go_region_with (first | (go_at_call 146; refine (HPA.out _).mono ?_; rintro e w1 ⟨rfl, rfl⟩) | (go_at_call 145; refine (HF.out _).mono ?_; rintro e w1 ⟨rfl, hb1⟩; have HB1 := Lib.hid (HBA.out.trans (hb1.mono HBA.out.size)); clear hb1))
        all_goals
          go_wp2
          go_roundw
          case rel => exact ⟨k + 1, by omega, by go_num, HB1.out, HNN.out⟩
          case measure => simp [intOf]; omega
    · have HY := Lib.hid (hpD_yes (h := l) (fun j _ hj => HN.out j (by omega)))
      go_wp2
      go_ret
      exact ⟨by rw [HY.out]; rfl, HB.out⟩
end Go.Proofs.Ytdilgeabcacbdaa
