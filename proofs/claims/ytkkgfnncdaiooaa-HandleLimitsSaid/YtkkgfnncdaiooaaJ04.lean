/- What is proved here: handle.fields returns the four numbers of a handle, each with its address, size and range; slices.Concat of byte slices returns a row of its own with all their bytes in order, and turns nothing that was there. Conditions: there is at least one slice and the bytes are together at most 2^40; octets.Put, by one contract for all arguments. -/
import Derived.Test.YtkkgfnncdaiooaaJ01
import Derived.Test.YtkkgfnncdaiooaaJ03
import Derived.Lib.AppendZerosOnto
import Derived.Shelf.Spec.SlicesGrow
import Derived.Test.YtkkgfnncdaiooaaJ02
import Derived.Laws.ShiftsVarLaws
namespace Go.Proofs.Ytkkgfnncdaiooaa
open Go.RowKit
set_option linter.unusedVariables false

/-- What fields returns. -/
abbrev fqv (g : Nat) : Value := .agg #[.pointer (some ⟨g, 0, none⟩), .int .i64 4, .int .i64 1, .int .i64 1073741824, .pointer (some ⟨g, 1, none⟩), .int .i64 3, .int .i64 1, .int .i64 65536, .pointer (some ⟨g, 2, none⟩), .int .i64 2, .int .i64 0, .int .i64 65535, .pointer (some ⟨g, 3, none⟩), .int .i64 1, .int .i64 0, .int .i64 5]
theorem fields_any (g : Nat) (w : World) :
    Calls Try.prog 15 #[.pointer (some ⟨g, 0, none⟩)] w fun e w' => e = .returned (fqv g) ∧ Below w.heap.size w w' := by
  have HB := Lib.hid (Below.refl w.heap.size w)
  go_enter Try.func15, Try.ntmps15
  go_wp2
  go_region
  all_goals
    go_wp2
    exact bodyPost_ret (v := fqv g) (by simp only [results, Try.results15]; go_simp <;> rfl) rfl ⟨rfl, by
      repeat' (first | with_reducible refine Below.setCell ?_ (Nat.le_refl _) _ | with_reducible refine Below.drew ?_ | with_reducible refine Below.alloc ?_ (Nat.le_refl _) _)
      exact HB.out⟩
end Go.Proofs.Ytkkgfnncdaiooaa
namespace Go.Proofs.Ytkkgfnncdaiooaa
open Go.RowKit
set_option linter.unusedVariables false

/-- slices.Grow of nil by 0: nil. -/
theorem grow_none (w : World) : Calls Try.prog 27 #[.slice none 0 0, .int .i64 0] w fun e w' => e = .returned (.slice none 0 0) ∧ w = w' := by
  go_enter Try.func27, Try.ntmps27
  go_wp2
  go_ret
  exact ⟨rfl, rfl⟩

set_option maxHeartbeats 1000000 in
/-- slices.Grow of nil by n > 0: an empty row of its own. -/
theorem grow_some (n : Nat) (w : World) (h0 : 0 < n) (hn : n ≤ 1099511627776) : Calls Try.prog 27 #[.slice none 0 0, .int .i64 n] w fun e w' =>
    ∃ v, e = .returned v ∧ w'.ownsRow w.heap.size 5 1 v 0 [] ∧ Below w.heap.size w w' := by
  obtain ⟨i0, hi0, hz0, hz1, hz2⟩ := info_parts info_u8
  have h1 : ¬ ((n : Int) < 0) := by omega
  have h4 : (n : Int) > 0 := by omega
  have hold : (Builtin.firstCells i0.size 0 (.slice none 0 0)).run Try.prog w.drew = .ok #[] w.drew := run_firstCells_none w.drew i0.size 0 0 0
  have hrz : ∀ ty, (Builtin.append_ #[24, 3] ty #[.slice none 0 0, .int .i64 (n : Int)]).run Try.prog w =
      .ok (.slice (some ⟨w.heap.size, 0, none⟩) n (grownCap w n 0 5)) (w.drew.alloc (.cells (#[] ++ Builtin.zeroCells (Value.int .u8 0).cells n ++ Builtin.zeroCells (Value.int .u8 0).cells (grownCap w n 0 5 - n)) 5)) := fun ty => by
    have h := Lib.run_append_grow_zeros (P := Try.prog) w 24 3 ty 5 i0 (.int .u8 0) .i64 .i64 Try.underlying24 Try.underlying3 hi0 hz0 none 0 0 [] hold n (by omega) (by omega) (by omega) (by omega)
      (by rw [hz2]; omega)
      (by rw [Nat.zero_add]; exact growslice_fits (by omega) (by rw [hz2]; omega))
    simpa only [Nat.zero_add] using h
  have hGn : n ≤ grownCap w n 0 5 := grownCap_ge w _ _ _
  have hGm : grownCap w n 0 5 ≤ maxLen := grownCap_le_maxLen w n 0 5 (by unfold maxLen; omega)
  obtain ⟨G, hG⟩ : ∃ G, G = grownCap w n 0 5 := ⟨_, rfl⟩
  rw [← hG] at hrz hGn hGm
  have hG63 : G ≤ 9223372036854775807 := by unfold maxLen at hGm; omega
  have HM := Lib.hid hGm
  clear hold hG hGm
  go_enter Try.func27, Try.ntmps27
  go_wp2_with (at_builtin; refine Lib.wpList_append_run _ rfl _ _ _ _ rfl _ _ rfl rfl _ _ (hrz _) ?_)
  go_ret
  refine ⟨_, rfl, ?_, ?_⟩
  · exact World.ownsRow_made (w := w.drew) _ G (Nat.le_refl _) HM.out (by simp [Builtin.zeroCells]; omega)
  · exact (Below.refl _ _).drew.alloc (Nat.le_refl _) _

theorem grow_any (n : Nat) (w : World) (hn : n ≤ 1099511627776) : Calls Try.prog 27 #[.slice none 0 0, .int .i64 n] w fun e w' =>
    ∃ v, e = .returned v ∧ w'.ownsRow w.heap.size 5 1 v 0 [] ∧ Below w.heap.size w w' := by
  rcases Nat.eq_zero_or_pos n with rfl | h
  · exact (grow_none w).mono fun _ _ ⟨he, hw⟩ => ⟨_, he, by subst hw; exact World.ownsRow_nil _ _ _ _, by subst hw; exact Below.refl _ _⟩
  · exact grow_some n w h hn

/-- The bytes of a list of slices. -/
def tot : List (Value × List UInt8) → List UInt8
  | [] => []
  | p :: r => p.2 ++ tot r

theorem tot_take (ps : List (Value × List UInt8)) (k : Nat) (h : k < ps.length) : tot (ps.take (k + 1)) = tot (ps.take k) ++ ps[k].2 := by
  induction ps generalizing k with
  | nil => simp at h
  | cons p r ih =>
    cases k with
    | zero => simp [tot]
    | succ k => simp only [List.take_succ_cons, tot, List.getElem_cons_succ, List.append_assoc]; rw [ih k (by simpa using h)]

theorem tot_le (ps : List (Value × List UInt8)) (k : Nat) : (tot (ps.take k)).length ≤ (tot ps).length := by
  induction ps generalizing k with
  | nil => simp [tot]
  | cons p r ih =>
    cases k with
    | zero => simp [tot]
    | succ k => simp only [List.take_succ_cons, tot, List.length_append]; have := ih k; omega

set_option maxHeartbeats 2000000 in
theorem concat_any (vb vo c : Nat) (ps : List (Value × List UInt8)) (w : World) (hb : vb < w.heap.size) (hc : ∀ k (h : k < ps.length), w.cell? ⟨vb, vo + k, none⟩ = some ps[k].1)
    (hps : ∀ k (h : k < ps.length), Bs w w.heap.size ps[k].1 ps[k].2) (hn : ps.length ≤ 1024) (ht : (tot ps).length ≤ 1099511627776) :
    Calls Try.prog 24 #[.slice (some ⟨vb, vo, none⟩) ps.length c] w fun e w' =>
      ∃ v, e = .returned v ∧ w'.ownsRow w.heap.size 5 1 v (tot ps).length ((tot ps).map oct) ∧ Below w.heap.size w w' := by
  obtain ⟨i0, hi0, hz0, hz1, hz2⟩ := info_parts info_u8
  obtain ⟨L, hL⟩ : ∃ L, L = ps.length := ⟨_, rfl⟩
  have HL := Lib.hid hL
  rw [← hL]
  have hL' : L ≤ 1024 := by omega
  have HC := Lib.hid hc
  have HP := Lib.hid hps
  clear hL hc hps
  go_enter Try.func24, Try.ntmps24
  go_wp2
  go_loop [3, 5, 11] (fun s _ i => ∃ k : Nat, k ≤ L ∧ i = .int .i64 k ∧ s = .int .i64 (tot (ps.take k)).length) (fun _ _ i => L - (intOf i).toNat)
  case atStart => exact ⟨0, Nat.zero_le _, rfl, rfl⟩
  case round =>
    obtain ⟨k, hk, rfl, rfl⟩ := hrel
    have hle := tot_le ps k
    by_cases hlt : k < L
    · have hkp : k < ps.length := by have := HL.out; omega
      have hcell := HC.out k hkp
      have HT := Lib.hid (congrArg List.length (tot_take ps k hkp))
      have hle1 := tot_le ps (k + 1)
      obtain ⟨A, c1, hA, _, _, hR⟩ := HP.out k hkp
      rw [hA] at hcell
      have HA := Lib.hid hA
      have HR := Lib.hid hR
      have hlen : (ps[k].2).length ≤ 1099511627776 := by have := HT.out; simp at this; omega
      clear hA hR
      go_wp2
      go_round
      case rel => exact ⟨k + 1, by omega, by go_num, by rw [HT.out]; simp⟩
      case measure => simp [intOf]; omega
    · obtain rfl : k = L := by omega
      have HE := Lib.hid (show ps.take k = ps by rw [HL.out]; simp)
      have hge : ((tot (ps.take k)).length : Int) ≤ 1099511627776 := by omega
      go_wp2_with fail
      refine (grow_any (tot (ps.take k)).length w (by omega)).mono ?_
      rintro e w1 ⟨v1, rfl, hown1, hb1⟩
      have Hown1 := Lib.hid hown1
      have Hb1 := Lib.hid hb1
      clear hown1 hb1
      go_wp2
      clear hle hge
      have hk' : k ≤ 1024 := hL'
      go_loopw [6, 8, 27] (fun s _ i wr => ∃ j : Nat, j ≤ k ∧ i = .int .i64 j ∧ wr.ownsRow w.heap.size 5 1 s (tot (ps.take j)).length ((tot (ps.take j)).map oct) ∧ Below w.heap.size w wr) (fun _ _ i _ => k - (intOf i).toNat)
      case atStart => exact ⟨0, Nat.zero_le _, rfl, Hown1.out, Hb1.out⟩
      case round =>
        obtain ⟨j, hj, rfl, hown, hbel⟩ := hrel
        have hle := tot_le ps j
        by_cases hlt : j < k
        · have hkp : j < ps.length := by have := HL.out; omega
          have hcell := HC.out j hkp
          have HT := Lib.hid (tot_take ps j hkp)
          have hle1 := tot_le ps (j + 1)
          obtain ⟨A, c1, hA, _, _, hR⟩ := HP.out j hkp
          rw [hA] at hcell
          have hlen : (tot (ps.take j)).length + (ps[j].2).length ≤ 1099511627776 := by have := congrArg List.length HT.out; simp at this; omega
          rw [← hbel.cell (p := ⟨vb, vo + j, none⟩) hb] at hcell
          have HA := Lib.hid hA
          have HR := Lib.hid (hR.below hbel)
          have HO := Lib.hid hown
          have HB := Lib.hid hbel
          have hsz := hbel.size
          clear hA hR hown hbel
          go_wp2_with (at_builtin; refine wpList_append_rd _ rfl _ _ 24 rfl w.heap.size 5 i0 _ 1 1 Try.underlying24 hi0 hz0 hz1 hz2 rfl (by omega) _ _ _ rfl HO.out w.heap.size A _ _ _ rfl HR.out (oct_one _) (by unfold maxLen; omega) (by omega) hsz ?_; intro v2 w2 hown2 hg2 _)
          have hown3 : w2.ownsRow w.heap.size 5 1 v2 (tot (ps.take (j + 1))).length ((tot (ps.take (j + 1))).map oct) := by
            rw [HT.out, List.map_append, List.length_append]; exact hown2
          have hb3 : Below w.heap.size w w2 := HB.out.grown hg2 hsz (fun g hg => (World.ownsRow.lt HO.out g hg).1)
          have H3 := Lib.hid hown3
          have HB3 := Lib.hid hb3
          clear hown2 hown3 hg2 hb3
          go_wp2
          go_roundw
          case rel => exact ⟨j + 1, by omega, by go_num, H3.out, HB3.out⟩
          case measure => simp [intOf]; omega
        · obtain rfl : j = k := by omega
          have HO := Lib.hid hown
          have HB := Lib.hid hbel
          clear hown hbel
          go_wp2
          go_ret
          exact ⟨_, rfl, by have := HO.out; rwa [HE.out] at this, HB.out⟩

/-- slices.Concat of two slices that a call's own array holds. -/
theorem concat2 (g c : Nat) (v0 v1 : Value) (b0 b1 : List UInt8) (W : World) (hg : g = W.heap.size) (h0 : Bs W W.heap.size v0 b0) (h1 : Bs W W.heap.size v1 b1) (ht : b0.length + b1.length ≤ 1099511627776) :
    Calls Try.prog 24 #[.slice (some ⟨g, 0, none⟩) 2 c] (W.alloc (.cells #[v0, v1] 24)) fun e w' =>
      ∃ v, e = .returned v ∧ w'.ownsRow W.heap.size 5 1 v (b0 ++ b1).length ((b0 ++ b1).map oct) ∧ Below W.heap.size W w' := by
  subst hg
  have hB : Below W.heap.size W (W.alloc (.cells #[v0, v1] 24)) := (Below.refl _ _).alloc (Nat.le_refl _) _
  refine (concat_any W.heap.size 0 c [(v0, b0), (v1, b1)] (W.alloc (.cells #[v0, v1] 24)) (by simp) ?_ ?_ (by simp) (by simp [tot]; omega)).mono ?_
  · intro k h
    rw [Nat.zero_add, World.cell?_alloc_new]
    match k, h with
    | 0, _ => rfl
    | 1, _ => rfl
  · intro k h
    match k, h with
    | 0, _ => exact (h0.below hB).more hB.size
    | 1, _ => exact (h1.below hB).more hB.size
  · rintro e w' ⟨v, he, ho, hb⟩
    have ht : tot [(v0, b0), (v1, b1)] = b0 ++ b1 := by simp [tot]
    rw [ht] at ho
    exact ⟨v, he, own_low ho (by simp), hB.trans (hb.mono (by simp))⟩

/-- slices.Concat of three slices that a call's own array holds. -/
theorem concat3 (g c : Nat) (v0 v1 v2 : Value) (b0 b1 b2 : List UInt8) (W : World) (hg : g = W.heap.size) (h0 : Bs W W.heap.size v0 b0) (h1 : Bs W W.heap.size v1 b1) (h2 : Bs W W.heap.size v2 b2)
    (ht : b0.length + b1.length + b2.length ≤ 1099511627776) :
    Calls Try.prog 24 #[.slice (some ⟨g, 0, none⟩) 3 c] (W.alloc (.cells #[v0, v1, v2] 24)) fun e w' =>
      ∃ v, e = .returned v ∧ w'.ownsRow W.heap.size 5 1 v (b0 ++ b1 ++ b2).length ((b0 ++ b1 ++ b2).map oct) ∧ Below W.heap.size W w' := by
  subst hg
  have hB : Below W.heap.size W (W.alloc (.cells #[v0, v1, v2] 24)) := (Below.refl _ _).alloc (Nat.le_refl _) _
  refine (concat_any W.heap.size 0 c [(v0, b0), (v1, b1), (v2, b2)] (W.alloc (.cells #[v0, v1, v2] 24)) (by simp) ?_ ?_ (by simp) (by simp [tot]; omega)).mono ?_
  · intro k h
    rw [Nat.zero_add, World.cell?_alloc_new]
    match k, h with
    | 0, _ => rfl
    | 1, _ => rfl
    | 2, _ => rfl
  · intro k h
    match k, h with
    | 0, _ => exact (h0.below hB).more hB.size
    | 1, _ => exact (h1.below hB).more hB.size
    | 2, _ => exact (h2.below hB).more hB.size
  · rintro e w' ⟨v, he, ho, hb⟩
    have ht : tot [(v0, b0), (v1, b1), (v2, b2)] = b0 ++ b1 ++ b2 := by simp [tot]
    rw [ht] at ho
    exact ⟨v, he, own_low ho (by simp), hB.trans (hb.mono (by simp))⟩
end Go.Proofs.Ytkkgfnncdaiooaa
namespace Go.Proofs.Ytkkgfnncdaiooaa
open Go.RowKit
set_option linter.unusedVariables false

set_option maxHeartbeats 2000000 in
set_option maxRecDepth 20000 in
theorem put_ok (A : Option Addr) (l c : Nat) (bs : List UInt8) (n s : Nat) (w : World) (hv : Bs w w.heap.size (.slice A l c) bs) (hl : bs.length ≤ 1099511627000) (hs1 : 1 ≤ (s : Int)) (hs2 : (s : Int) ≤ 6) (hn : n < 2 ^ (8 * s)) :
    Calls Try.prog 16 #[.slice A l c, .int .i64 n, .int .i64 s] w fun e w' =>
      ∃ v', e = .returned (.tuple #[v', .int .i64 0]) ∧ w'.ownsRow w.heap.size 5 1 v' (bs ++ be s n).length ((bs ++ be s n).map oct) ∧ Below w.heap.size w w' := by
  have h0 : (0 : Int) ≤ n := by omega
  have hp := pow_le48 s (by omega)
  have hw : ¬ (wrap64 (2 ^ (8 * s)) ≤ (n : Int)) := by
    obtain ⟨h1, h2, h3⟩ := hp
    have : wrap64 ((2 : Int) ^ (8 * s)) = 2 ^ (8 * s) := by unfold wrap64; omega
    rw [this, ← h3]
    omega
  have hn63 : (n : Int) ≤ 281474976710656 := by
    obtain ⟨h1, h2, h3⟩ := hp
    rw [← h3] at h1
    omega
  have hmk := fun W => run_make_row' (P := Try.prog) 24 5 (.int .u8 0) 1 Try.underlying24 info_u8 rfl .i64 .i64 s (by omega) (by omega) W
  have HL := Lib.hid hl
  have HV := Lib.hid hv
  have HR := Lib.hid (World.rowIs_made w (.int .u8 0) s 5)
  clear hv hl hn hp
  go_enter Try.func16, Try.ntmps16
  go_wp2_with fail
  refine (issize_yes _ _ hs1 hs2).mono ?_
  rintro e w1 ⟨rfl, rfl⟩
  go_wp2
  clear hmk hw
  go_loopw [9, 28] (fun _ i wr => ∃ k : Nat, k ≤ s ∧ i = .int .i64 k ∧ Below w.heap.size w wr ∧ wr.rowIs w.heap.size 5 s (fun j => if s ≤ j + k then oct (UInt8.ofNat (n / 2 ^ (8 * (s - 1 - j)))) else .int .u8 0)) (fun _ i _ => s - (intOf i).toNat)
  case atStart => 
    refine ⟨0, Nat.zero_le _, rfl, (Below.refl _ _).alloc (Nat.le_refl _) _, HR.out.congr fun j hj => ?_⟩
    rw [if_neg (by omega)]
  case round =>
    obtain ⟨k, hk, rfl, hbel, hrow⟩ := hrel
    by_cases hlt : k < s
    · have hcell := hrow.cell (i := s - 1 - k) (by omega)
      have hfr := hrow.frozen (s - 1 - k)
      have HB := Lib.hid hbel
      have HW := Lib.hid hrow
      clear hbel hrow
      go_wp2
      go_roundw
      case rel =>
        refine ⟨k + 1, by omega, by go_num, HB.out.setCell (Nat.le_refl _) _, (HW.out.set (s - 1 - k) _).congr fun j hj => ?_⟩
        by_cases hjk : j = s - 1 - k
        · rw [if_pos hjk, if_pos (by omega), oct_mod]
          subst hjk
          rw [show s - 1 - (s - 1 - k) = k by omega]
          simp
        · rw [if_neg hjk]
          by_cases hle : s ≤ j + k
          · rw [if_pos hle, if_pos (by omega)]
          · rw [if_neg hle, if_neg (by omega)]
      case measure => simp [intOf]; omega
    · obtain rfl : k = s := by omega
      have hlt' := hrow.lt
      have hb1 : Bs wr wr.heap.size (.slice (some ⟨w.heap.size, 0, none⟩) k k) (be k n) := Bs.of_row hrow hlt' (be_length k n) (Nat.le_refl _) (by unfold maxLen; omega) (fun j hj => by
        rw [be_length] at hj
        rw [if_pos (by omega), be_get k n j hj])
      have HC := Lib.hid (concat2 wr.heap.size 2 _ _ bs (be k n) wr rfl ((HV.out.below hbel).more hbel.size) hb1 (by have := HL.out; rw [be_length]; omega))
      have HB := Lib.hid hbel
      clear hbel hrow hb1
      go_wp2_with fail
      refine HC.out.mono ?_
      rintro e w1 ⟨v1, rfl, hown1, hb1⟩
      have HO1 := Lib.hid (own_low hown1 HB.out.size)
      have HB2 := Lib.hid (HB.out.trans (hb1.mono HB.out.size))
      clear hown1 hb1
      go_wp2
      go_ret2
      exact ⟨v1, rfl, HO1.out, HB2.out⟩

/-- Out of range: the error. -/
theorem put_bad (v : Value) (n s : Int) (w : World) (h : s < 1 ∨ 6 < s ∨ n < 0 ∨ 2 ^ (8 * s.toNat) ≤ n) :
    Calls Try.prog 16 #[v, .int .i64 n, .int .i64 s] w fun e w' => e = .returned (.tuple #[.slice none 0 0, .int .i64 1]) ∧ w = w' := by
  by_cases hs : s < 1 ∨ 6 < s
  · clear h
    go_enter Try.func16, Try.ntmps16
    go_wp2_with fail
    refine (issize_no _ _ hs).mono ?_
    rintro e w1 ⟨rfl, rfl⟩
    clear hs
    go_wp2
    go_ret2
    exact ⟨rfl, rfl⟩
  · have hs1 : 1 ≤ s := by omega
    have hs2 : s ≤ 6 := by omega
    by_cases hn : n < 0
    · clear h hs
      go_enter Try.func16, Try.ntmps16
      go_wp2_with fail
      refine (issize_yes _ _ hs1 hs2).mono ?_
      rintro e w1 ⟨rfl, rfl⟩
      go_wp2
      go_ret2
      exact ⟨rfl, rfl⟩
    · have h' : 2 ^ (8 * s.toNat) ≤ n := by omega
      obtain ⟨S, rfl⟩ := Int.eq_ofNat_of_zero_le (show 0 ≤ s by omega)
      rw [Int.toNat_natCast] at h'
      have hp := pow_le48 S (by omega)
      have hw : wrap64 (2 ^ (8 * S)) ≤ n := by
        obtain ⟨h1, h2, h3⟩ := hp
        have : wrap64 ((2 : Int) ^ (8 * S)) = 2 ^ (8 * S) := by unfold wrap64; omega
        rw [this]
        exact h'
      clear h hs hp h'
      go_enter Try.func16, Try.ntmps16
      go_wp2_with fail
      refine (issize_yes _ _ hs1 hs2).mono ?_
      rintro e w1 ⟨rfl, rfl⟩
      go_wp2
      go_ret2
      exact ⟨rfl, rfl⟩

theorem put_all (A : Option Addr) (l c : Nat) (bs : List UInt8) (n s : Int) (w : World) (hv : Bs w w.heap.size (.slice A l c) bs) (hl : bs.length ≤ 1099511627000) :
    Calls Try.prog 16 #[.slice A l c, .int .i64 n, .int .i64 s] w (Put2 w (ptB bs n s) (ptE n s)) := by
  by_cases h : 1 ≤ s ∧ s ≤ 6 ∧ 0 ≤ n ∧ n < 2 ^ (8 * s.toNat)
  · have hk : ptOk n s = true := decide_eq_true h
    obtain ⟨h1, h2, h3, h4⟩ := h
    obtain ⟨m, rfl⟩ := Int.eq_ofNat_of_zero_le h3
    obtain ⟨t, rfl⟩ := Int.eq_ofNat_of_zero_le (show 0 ≤ s by omega)
    rw [Int.toNat_natCast] at h4
    refine (put_ok A l c bs m t w hv hl h1 h2 (by exact_mod_cast h4)).mono fun e w' ⟨v, he, ho, hb⟩ => ⟨v, ?_, ?_, hb⟩
    · unfold ptE; rw [if_pos hk]; exact he
    · unfold ptB; rw [if_pos hk, Int.toNat_natCast, Int.toNat_natCast]; exact Bs.of_own ho
  · have hk : ¬ ptOk n s = true := by unfold ptOk; simpa using h
    refine (put_bad (.slice A l c) n s w (by omega)).mono fun e w' ⟨he, hw⟩ => ⟨.slice none 0 0, ?_, ?_, ?_⟩
    · unfold ptE; rw [if_neg hk]; exact he
    · unfold ptB; rw [if_neg hk]; exact Bs.nil
    · subst hw; exact Below.refl _ _
end Go.Proofs.Ytkkgfnncdaiooaa
