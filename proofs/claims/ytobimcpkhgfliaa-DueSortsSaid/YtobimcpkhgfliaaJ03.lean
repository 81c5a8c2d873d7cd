/- What is proved here: due.within, due.parent, cmp.Compare, cmp.Or, due.compare, due.before, due.isOutOfRange by contracts; due.compare, due.before, due.isOutOfRange by contracts; due.siftUp by a contract. -/
import Derived.Test.YtobimcpkhgfliaaJ02
import Derived.Test.YtobimcpkhgfliaaJ01
import Derived.IntWalk
import Derived.Deep.RegionHeld3
import Derived.Deep.DrawnRows
import Derived.BigRegion
namespace Go.Proofs.Ytobimcpkhgfliaa
open Go.RowKit
set_option linter.unusedVariables false

/-- A number from lo to hi. -/
def wiD (n lo hi : Int) : Bool := decide (lo ≤ n ∧ n ≤ hi)
theorem wiD_true {n lo hi : Int} (h1 : lo ≤ n) (h2 : n ≤ hi) : wiD n lo hi = true := decide_eq_true ⟨h1, h2⟩
theorem wiD_low {n lo hi : Int} (h1 : ¬ lo ≤ n) : wiD n lo hi = false := decide_eq_false (fun h => h1 h.1)
theorem wiD_high {n lo hi : Int} (h1 : ¬ n ≤ hi) : wiD n lo hi = false := decide_eq_false (fun h => h1 h.2)
theorem dwithin_any (n lo hi : Int) (w : World) : Calls Try.prog 48 #[.int .i64 n, .int .i64 lo, .int .i64 hi] w fun e w' => e = .returned (.bool (wiD n lo hi)) ∧ w = w' := by
  by_cases h1 : lo ≤ n
  · by_cases h2 : n ≤ hi
    · have H := Lib.hid (wiD_true h1 h2)
      go_enter Try.func48, Try.ntmps48
      go_wp2
      go_ret
      exact ⟨by rw [H.out]; rfl, rfl⟩
    · have H := Lib.hid (wiD_high (lo := lo) h2)
      go_enter Try.func48, Try.ntmps48
      go_wp2
      go_ret
      exact ⟨by rw [H.out]; rfl, rfl⟩
  · have H := Lib.hid (wiD_low (hi := hi) h1)
    go_enter Try.func48, Try.ntmps48
    go_wp2
    go_ret
    exact ⟨by rw [H.out]; rfl, rfl⟩

/-- The parent's place: the first element is its own parent. -/
theorem parent_any (i : Nat) (h1 : i ≤ 1000) (w : World) : Calls Try.prog 45 #[.int .i64 (i : Int)] w fun e w' => e = .returned (.int .i64 (((i - 1) / 2 : Nat) : Int)) ∧ w = w' := by
  have H := Lib.hid (show (((i : Int) - 1).tdiv 2) = (((i - 1) / 2 : Nat) : Int) by
    rcases Nat.eq_zero_or_pos i with e | e
    · subst e; rfl
    · rw [Int.tdiv_eq_ediv_of_nonneg (by omega)]; omega)
  have h0 : (0 : Int) ≤ (i : Int) := by omega
  have h2 : (i : Int) ≤ 1000 := by omega
  go_enter Try.func45, Try.ntmps45
  go_wp2
  go_ret
  exact ⟨by rw [← H.out]; rfl, rfl⟩

/-- How two numbers compare. -/
def ciF (x y : Int) : Int := if x < y then -1 else if y < x then 1 else 0
theorem nan_any (x : Int) (w : World) : Calls Try.prog 61 #[.int .i64 x] w fun e w' => e = .returned (.bool false) ∧ w = w' := by
  go_enter Try.func61, Try.ntmps61
  go_wp2
  go_ret
  exact ⟨by simp, rfl⟩
theorem cmpint_any (x y : Int) (w : World) : Calls Try.prog 55 #[.int .i64 x, .int .i64 y] w fun e w' => e = .returned (.int .i64 (ciF x y)) ∧ w = w' := by
  have HX := Lib.hid (nan_any x)
  have HY := Lib.hid (nan_any y)
  by_cases h1 : x < y
  · have H := Lib.hid (show ciF x y = -1 from if_pos h1)
    go_enter Try.func55, Try.ntmps55
    go_wp2_with fail
    refine (HX.out _).mono ?_
    rintro e w1 ⟨rfl, rfl⟩
    go_wp2_with fail
    refine (HY.out _).mono ?_
    rintro e w1 ⟨rfl, rfl⟩
    go_wp2
    go_ret
    exact ⟨by rw [H.out]; rfl, rfl⟩
  · by_cases h2 : y < x
    · have H := Lib.hid (show ciF x y = 1 by unfold ciF; rw [if_neg h1, if_pos h2])
      go_enter Try.func55, Try.ntmps55
      go_wp2_with fail
      refine (HX.out _).mono ?_
      rintro e w1 ⟨rfl, rfl⟩
      go_wp2_with fail
      refine (HY.out _).mono ?_
      rintro e w1 ⟨rfl, rfl⟩
      go_wp2
      go_ret
      exact ⟨by rw [H.out]; rfl, rfl⟩
    · have H := Lib.hid (show ciF x y = 0 by unfold ciF; rw [if_neg h1, if_neg h2])
      go_enter Try.func55, Try.ntmps55
      go_wp2_with fail
      refine (HX.out _).mono ?_
      rintro e w1 ⟨rfl, rfl⟩
      go_wp2_with fail
      refine (HY.out _).mono ?_
      rintro e w1 ⟨rfl, rfl⟩
      go_wp2
      go_ret
      exact ⟨by rw [H.out]; rfl, rfl⟩

/-- The first one of two numbers that is not zero. -/
def orF (x y : Int) : Int := if x = 0 then y else x
theorem or_any (b c : Nat) (x y : Int) (w : World) (h0 : w.cell? ⟨b, 0, none⟩ = some (.int .i64 x)) (h1 : w.cell? ⟨b, 1, none⟩ = some (.int .i64 y)) :
    Calls Try.prog 54 #[.slice (some ⟨b, 0, none⟩) 2 c] w fun e w' => e = .returned (.int .i64 (orF x y)) ∧ w = w' := by
  have HC : ∀ k : Nat, k < 2 → ∃ z : Int, w.cell? ⟨b, k, none⟩ = some (.int .i64 z) ∧ z = if k = 0 then x else y := fun k hk => by
    match k, hk with
    | 0, _ => exact ⟨x, h0, rfl⟩
    | 1, _ => exact ⟨y, h1, rfl⟩
  have HC := Lib.hid HC
  clear h0 h1
  go_enter Try.func54, Try.ntmps54
  go_wp2
  go_loop [8] (fun i => ∃ k : Nat, k ≤ 2 ∧ i = .int .i64 k ∧ (0 < k → x = 0) ∧ (1 < k → y = 0)) (fun i => 2 - (intOf i).toNat)
  case atStart => exact ⟨0, by omega, rfl, by omega, by omega⟩
  case round =>
    obtain ⟨k, hk, rfl, hx, hy⟩ := hrel
    have HXY := Lib.hid (And.intro hx hy)
    clear hx hy
    by_cases hlt : k < 2
    · obtain ⟨z, hz, hzz⟩ := HC.out k hlt
      have HZ := Lib.hid hzz
      clear hzz
      by_cases he : z = 0
      · have hd : (z != 0) = false := by simp [he]
        have HE := Lib.hid he
        clear he
        go_wp2
        go_round
        case rel =>
          refine ⟨k + 1, by omega, by go_num, fun _ => ?_, fun _ => ?_⟩
          · have h1 := HZ.out
            rw [HE.out] at h1
            by_cases e : k = 0
            · rw [if_pos e] at h1; exact h1.symm
            · exact HXY.out.1 (by omega)
          · have h1 := HZ.out
            rw [HE.out, if_neg (by omega)] at h1
            exact h1.symm
        case measure => simp [intOf]; omega
      · have hd : (z != 0) = true := bne_iff_ne.2 he
        have HR := Lib.hid (show orF x y = z by
          have h1 := HZ.out
          unfold orF
          by_cases e : k = 0
          · rw [if_pos e] at h1; rw [if_neg (by rw [← h1]; exact he)]; exact h1.symm
          · rw [if_neg e] at h1; rw [if_pos (HXY.out.1 (by omega))]; exact h1.symm)
        clear he
        go_wp2
        go_ret
        exact ⟨by rw [HR.out]; rfl, rfl⟩
    · have HR := Lib.hid (show orF x y = 0 by unfold orF; rw [if_pos (HXY.out.1 (by omega))]; exact HXY.out.2 (by omega))
      go_wp2
      go_ret
      exact ⟨by rw [HR.out]; rfl, rfl⟩

theorem cm_or (a b : Du) : orF (ciF a.dl b.dl) (ciF a.id b.id) = cmF a b := by
  unfold cmF
  by_cases h1 : bef a b = true
  · rw [if_pos h1]
    rw [bef_iff] at h1
    unfold orF ciF
    repeat' split
    all_goals omega
  · rw [if_neg h1]
    by_cases h2 : bef b a = true
    · rw [if_pos h2]
      rw [bef_iff] at h1 h2
      unfold orF ciF
      repeat' split
      all_goals omega
    · rw [if_neg h2]
      rw [bef_iff] at h1 h2
      unfold orF ciF
      repeat' split
      all_goals omega

/-- The four cells of two elements in boxes. -/
abbrev D4 (W : World) (p q : Nat) (a b : Du) : Prop := W.cell? ⟨p, 0, none⟩ = some (.int .i64 a.dl) ∧ W.cell? ⟨p, 1, none⟩ = some (.int .i64 a.id) ∧ W.cell? ⟨q, 0, none⟩ = some (.int .i64 b.dl) ∧ W.cell? ⟨q, 1, none⟩ = some (.int .i64 b.id)
theorem D4.below {B : Nat} {W W' : World} {p q : Nat} {a b : Du} (h : D4 W p q a b) (hb : Below B W W') (hp : p < B) (hq : q < B) : D4 W' p q a b :=
  ⟨(hb.cell (p := ⟨p, 0, none⟩) hp).trans h.1, (hb.cell (p := ⟨p, 1, none⟩) hp).trans h.2.1, (hb.cell (p := ⟨q, 0, none⟩) hq).trans h.2.2.1, (hb.cell (p := ⟨q, 1, none⟩) hq).trans h.2.2.2⟩
theorem D4.start (w : World) (a b : Du) (t : TypeId) : D4 ((w.alloc (.cells #[.int .i64 a.dl, .int .i64 a.id] t)).alloc (.cells #[.int .i64 b.dl, .int .i64 b.id] t)) w.heap.size (w.heap.size + 1) a b := by
  refine ⟨?_, ?_, ?_, ?_⟩
  · rw [World.cell?_alloc_lt _ _ _ (by simp), World.cell?_alloc_new]; rfl
  · rw [World.cell?_alloc_lt _ _ _ (by simp), World.cell?_alloc_new]; rfl
  · have := World.cell?_alloc_new (w.alloc (.cells #[.int .i64 a.dl, .int .i64 a.id] t)) #[.int .i64 b.dl, .int .i64 b.id] t 0
    rw [World.size_alloc] at this
    rw [this]; rfl
  · have := World.cell?_alloc_new (w.alloc (.cells #[.int .i64 a.dl, .int .i64 a.id] t)) #[.int .i64 b.dl, .int .i64 b.id] t 1
    rw [World.size_alloc] at this
    rw [this]; rfl
end Go.Proofs.Ytobimcpkhgfliaa
namespace Go.Proofs.Ytobimcpkhgfliaa
open Go.RowKit
set_option linter.unusedVariables false

set_option maxHeartbeats 2000000 in
set_option maxRecDepth 20000 in
theorem compare_any (a b : Du) (w : World) :
    Calls Try.prog 39 #[a.v, b.v] w fun e w' => e = .returned (.int .i64 (cmF a b)) ∧ Below w.heap.size w w' := by
  have HD := Lib.hid (D4.start w a b 24)
  have HB := Lib.hid (((Below.refl w.heap.size w).alloc (Nat.le_refl _) (.cells #[.int .i64 a.dl, .int .i64 a.id] 24)).alloc (by simp) (.cells #[.int .i64 b.dl, .int .i64 b.id] 24))
  have HC1 := Lib.hid (fun w => cmpint_any a.dl b.dl w)
  have HC2 := Lib.hid (fun w => cmpint_any a.id b.id w)
  have HO := Lib.hid (fun g c w => or_any g c (ciF a.dl b.dl) (ciF a.id b.id) w)
  have HF := Lib.hid (cm_or a b)
  generalize ciF a.dl b.dl = x at *
  generalize ciF a.id b.id = y at *
  go_enter Try.func39, Try.ntmps39
  go_wp2
  obtain ⟨p, hp⟩ : ∃ p, p = w.heap.size := ⟨_, rfl⟩
  obtain ⟨q, hq⟩ : ∃ q, q = w.heap.size + 1 := ⟨_, rfl⟩
  have HPQ := Lib.hid (And.intro hp hq)
  rw [← hq, ← hp] at HD ⊢
  clear hp hq
  obtain ⟨W0, hW0⟩ : ∃ W0, W0 = ((w.alloc (.cells #[.int .i64 a.dl, .int .i64 a.id] 24)).alloc (.cells #[.int .i64 b.dl, .int .i64 b.id] 24)) := ⟨_, rfl⟩
  have HSZ := Lib.hid (show W0.heap.size = w.heap.size + 2 by rw [hW0]; simp)
  rw [← hW0] at HD HB ⊢
  clear hW0
  have HS0 := Lib.hid (show D4 W0.drew p q a b from HD.out)
  have HS1 := Lib.hid (HD.out.below (W' := (W0.alloc (.cells #[.int .i64 x, .int .i64 y] 3)).drew) (B := W0.heap.size) (((Below.refl W0.heap.size W0).alloc (by simp) _).drew) (by have := HPQ.out; have := HSZ.out; omega) (by have := HPQ.out; have := HSZ.out; omega))
  have HB1 := Lib.hid (show Below w.heap.size w ((W0.alloc (.cells #[.int .i64 x, .int .i64 y] 3)).drew) from (HB.out.alloc HB.out.size _).drew)
  obtain ⟨c0, c1, c2, c3⟩ := HD.out
  go_region_held3 (fun W => W.cell? ⟨p, 0, none⟩ = some (.int .i64 a.dl) ∧ W.cell? ⟨p, 1, none⟩ = some (.int .i64 a.id) ∧ W.cell? ⟨q, 0, none⟩ = some (.int .i64 b.dl) ∧ W.cell? ⟨q, 1, none⟩ = some (.int .i64 b.id))
    (first | with_reducible exact HS0.out | with_reducible exact HS1.out)
    (first
    | (go_at_call 55; (with_reducible refine (HC1.out _).mono ?_); rintro e w1 ⟨rfl, rfl⟩)
    | (go_at_call 55; (with_reducible refine (HC2.out _).mono ?_); rintro e w1 ⟨rfl, rfl⟩)
    | (go_at_call 54; (with_reducible refine (HO.out _ _ _ (by simp [go_sem]) (by simp [go_sem])).mono ?_); rintro e w1 ⟨rfl, rfl⟩))
  go_wp2
  go_ret
  exact ⟨by rw [← HF.out]; rfl, HB1.out⟩

set_option maxHeartbeats 1000000 in
theorem before_any (a b : Du) (w : World) :
    Calls Try.prog 46 #[a.v, b.v] w fun e w' => e = .returned (.bool (bef a b)) ∧ Below w.heap.size w w' := by
  have HB := Lib.hid (((Below.refl w.heap.size w).alloc (Nat.le_refl _) (.cells #[.int .i64 a.dl, .int .i64 a.id] 24)).alloc (by simp) (.cells #[.int .i64 b.dl, .int .i64 b.id] 24))
  have HC := Lib.hid (fun w => compare_any a b w)
  have HF := Lib.hid (show decide (cmF a b < 0) = bef a b by rw [Bool.eq_iff_iff, decide_eq_true_iff]; exact cmF_neg a b)
  generalize cmF a b = c at *
  go_enter Try.func46, Try.ntmps46
  go_wp2_with fail
  refine (HC.out _).mono ?_
  rintro e w1 ⟨rfl, hb⟩
  have HB1 := Lib.hid (HB.out.trans (hb.mono HB.out.size))
  clear hb
  go_wp2
  go_ret
  exact ⟨by rw [← HF.out]; rfl, HB1.out⟩

theorem snd_wi (d : Du) : snd d = (wiD d.dl 0 1073741824 && wiD d.id 1 1073741824) := by
  unfold snd wiD
  rw [Bool.eq_iff_iff]
  simp
  omega
set_option maxHeartbeats 1000000 in
theorem isout_any (d : Du) (w : World) :
    Calls Try.prog 32 #[d.v] w fun e w' => e = .returned (.bool (!snd d)) ∧ Below w.heap.size w w' := by
  have HB := Lib.hid ((Below.refl w.heap.size w).alloc (Nat.le_refl _) (.cells #[.int .i64 d.dl, .int .i64 d.id] 24))
  have HF := Lib.hid (snd_wi d)
  have H1 := Lib.hid (fun w => dwithin_any d.dl 0 1073741824 w)
  have H2 := Lib.hid (fun w => dwithin_any d.id 1 1073741824 w)
  generalize wiD d.dl 0 1073741824 = k1 at *
  generalize wiD d.id 1 1073741824 = k2 at *
  cases k1 with
  | false =>
    go_enter Try.func32, Try.ntmps32
    go_wp2_with fail
    refine (H1.out _).mono ?_
    rintro e w1 ⟨rfl, rfl⟩
    go_wp2
    go_ret
    exact ⟨by rw [HF.out]; rfl, HB.out⟩
  | true =>
    go_enter Try.func32, Try.ntmps32
    go_wp2_with fail
    refine (H1.out _).mono ?_
    rintro e w1 ⟨rfl, rfl⟩
    go_wp2_with fail
    refine (H2.out _).mono ?_
    rintro e w1 ⟨rfl, rfl⟩
    go_wp2
    go_ret
    exact ⟨by rw [HF.out]; simp, HB.out⟩
end Go.Proofs.Ytobimcpkhgfliaa
namespace Go.Proofs.Ytobimcpkhgfliaa
open Go.RowKit
set_option linter.unusedVariables false

/-- A row of elements in a block that may be written, behind a walk that turned nothing before the block. -/
structure RwAt (w : World) (q n : Nat) (h : List Du) (W : World) : Prop where
  row : DRow W q n (ge h)
  len : h.length = n
  bel : Below q w W
section
variable {w W W' : World} {q n : Nat} {h : List Du}
theorem RwAt.below (r : RwAt w q n h W) (hb : Below W.heap.size W W') : RwAt w q n h W' := ⟨r.row.below hb r.row.1, r.len, r.bel.trans (hb.mono (Nat.le_of_lt r.row.1))⟩
theorem RwAt.drew (r : RwAt w q n h W) : RwAt w q n h W.drew := ⟨r.row.drew, r.len, r.bel.drew⟩
theorem RwAt.drewN (r : RwAt w q n h W) (k : Nat) : RwAt w q n h (W.drewN k) := ⟨r.row, r.len, ⟨r.bel.os, r.bel.tape, r.bel.output, r.bel.size, r.bel.block⟩⟩
/-- Two elements are exchanged. -/
theorem RwAt.swap (r : RwAt w q n h W) {i k : Nat} (hi : i < n) (hk : k < n) : RwAt w q n (swp h i k) ((((W.setCell ⟨q, i * 2, none⟩ (.int .i64 (ge h k).dl)).setCell ⟨q, i * 2 + 1, none⟩ (.int .i64 (ge h k).id)).setCell ⟨q, k * 2, none⟩ (.int .i64 (ge h i).dl)).setCell ⟨q, k * 2 + 1, none⟩ (.int .i64 (ge h i).id)) := by
  refine ⟨((r.row.put hi (ge h k)).put hk (ge h i)).congr fun t ht => ?_, by rw [swp_len]; exact r.len, (((r.bel.setCell (p := ⟨q, i * 2, none⟩) (Nat.le_refl _) _).setCell (p := ⟨q, i * 2 + 1, none⟩) (Nat.le_refl _) _).setCell (p := ⟨q, k * 2, none⟩) (Nat.le_refl _) _).setCell (p := ⟨q, k * 2 + 1, none⟩) (Nat.le_refl _) _⟩
  rw [ge_swp (by rw [r.len]; exact hi) (by rw [r.len]; exact hk)]
end

set_option maxHeartbeats 2000000 in
set_option maxRecDepth 20000 in
theorem siftup_any (q n cap i : Nat) (h : List Du) (w : World) (hr : DRow w q n (ge h)) (hn : h.length = n) (hi : i < n) (h100 : n ≤ 100) :
    Calls Try.prog 30 #[.slice (some ⟨q, 0, none⟩) n cap, .int .i64 i] w fun e w' => e = .returned (.tuple #[]) ∧ RwAt w q n (upF h i) w' := by
  have H := Lib.hid (RwAt.mk hr hn (Below.refl q w))
  have HP := Lib.hid (fun (j : Nat) (hj : j < n) w => parent_any j (by omega) w)
  clear hr hn
  go_enter Try.func30, Try.ntmps30
  go_wp2_with fail
  refine (HP.out i hi _).mono ?_
  rintro e w1 ⟨rfl, rfl⟩
  go_wp2
  go_loopw [1, 4] (fun iv pv wr => ∃ (j : Nat) (g : List Du), iv = .int .i64 j ∧ pv = .int .i64 (((j - 1) / 2 : Nat) : Int) ∧ j ≤ i ∧ upF g j = upF h i ∧ RwAt w q n g wr) (fun iv _ _ => (intOf iv).toNat)
  case atStart => exact ⟨i, h, rfl, rfl, Nat.le_refl _, rfl, H.out⟩
  case round =>
    obtain ⟨j, g, rfl, rfl, hji, hu, hra⟩ := hrel
    have HR := Lib.hid hra
    have HU := Lib.hid hu
    have hjn : j < n := by omega
    obtain ⟨p, hp⟩ : ∃ p, p = (j - 1) / 2 := ⟨_, rfl⟩
    have HPP := Lib.hid hp
    have hpn : p < n := by omega
    rw [← hp]
    have HB := Lib.hid (fun w => before_any (ge g j) (ge g p) w)
    have HSW := Lib.hid (fun w1 (hb1 : Below wr.drew.heap.size wr.drew w1) => hra.drew.below hb1)
    obtain ⟨c0, c1, f0, f1, hq⟩ := hra.row.at_ hjn
    obtain ⟨d0, d1, e0, e1, -⟩ := hra.row.at_ hpn
    have hjn' : (j : Int) < (n : Int) := by omega
    have hpn' : (p : Int) < (n : Int) := by omega
    clear hra hu hp
    cases hb : bef (ge g j) (ge g p) with
    | true =>
      rw [hb] at HB
      have HBB := Lib.hid hb
      have HNE := Lib.hid (show ¬ j = p ∧ ¬ p = j by
        have : j ≠ p := fun e => by rw [e, bef_irr] at hb; cases hb
        omega)
      clear hb
      obtain ⟨X, hX⟩ : ∃ X, ge g j = X := ⟨_, rfl⟩
      obtain ⟨Y, hY⟩ : ∃ Y, ge g p = Y := ⟨_, rfl⟩
      rw [hX] at c0 c1 HB
      rw [hY] at d0 d1 HB
      have HX := Lib.hid hX
      have HY := Lib.hid hY
      clear hX hY
      go_wp2
      go_region_with ((go_at_call 46; refine (HB.out _).mono ?_; rintro e w1 ⟨rfl, hb1⟩; have HR1 := Lib.hid (HSW.out _ hb1); clear hb1))
      all_goals
        clear c0 c1 d0 d1 f0 f1 e0 e1 hq
        obtain ⟨c0, c1, f0, f1, hq⟩ := HR1.out.row.at_ hjn
        obtain ⟨d0, d1, e0, e1, -⟩ := HR1.out.row.at_ hpn
        rw [HX.out] at c0 c1
        rw [HY.out] at d0 d1
        go_wp2
        obtain ⟨n1, n2⟩ := HNE.out
        go_region
        clear c0 c1 d0 d1 f0 f1 e0 e1 hq n1 n2
        have HR2 := Lib.hid ((HR1.out.swap hjn hpn).drew)
        rw [HX.out, HY.out] at HR2
        generalize ((((w1.setCell ⟨q, j * 2, none⟩ (.int .i64 Y.dl)).setCell ⟨q, j * 2 + 1, none⟩ (.int .i64 Y.id)).setCell ⟨q, p * 2, none⟩ (.int .i64 X.dl)).setCell ⟨q, p * 2 + 1, none⟩ (.int .i64 X.id)).drew = w2 at *
        have HUU := Lib.hid (show upF (swp g j p) p = upF h i by
          have hb := HBB.out
          rw [HPP.out] at hb ⊢
          rw [← HU.out, upF_step (by have := HNE.out; have := HPP.out; omega) hb])
        have HLT := Lib.hid (show p < j by have := HNE.out; have := HPP.out; omega)
        go_wp2_with fail
        refine (HP.out p hpn _).mono ?_
        rintro e w3 ⟨rfl, rfl⟩
        go_wp2
        go_roundw
        case rel => exact ⟨p, swp g j p, rfl, rfl, by have := HLT.out; omega, HUU.out, HR2.out⟩
        case measure => have := HLT.out; simp [intOf]; omega
    | false =>
      rw [hb] at HB
      have HBB := Lib.hid hb
      have HUU := Lib.hid (show upF h i = g by
        rw [HPP.out] at hb
        rw [← HU.out, upF_stop hb])
      clear hb
      obtain ⟨X, hX⟩ : ∃ X, ge g j = X := ⟨_, rfl⟩
      obtain ⟨Y, hY⟩ : ∃ Y, ge g p = Y := ⟨_, rfl⟩
      rw [hX] at c0 c1 HB
      rw [hY] at d0 d1 HB
      clear hX hY
      go_wp2
      go_region_with ((go_at_call 46; refine (HB.out _).mono ?_; rintro e w1 ⟨rfl, hb1⟩; have HR1 := Lib.hid (HSW.out _ hb1); clear hb1))
      all_goals
        go_wp2
        go_end0
        exact ⟨rfl, by rw [HUU.out]; exact HR1.out⟩
end Go.Proofs.Ytobimcpkhgfliaa
