/- What is proved here: math/bits.Mul of one and a small number; slices.Repeat of one number; (plain) moves that keep 'nothing below B is turned', for the keep argument of a drawn region. -/
import Derived.Test.YtdilgeabcacbdaaJ01
import Derived.Test.YtdilgeabcacbdaaJ05
import Derived.OwnWalk
namespace Go.Proofs.Ytdilgeabcacbdaa
open Go.RowKit
set_option linter.unusedVariables false

def MuP (n : Nat) (w : World) (e : Ending) (w' : World) : Prop := e = .returned (.tuple #[.int .u64 0, .int .u64 (n : Int)]) ∧ w = w'
set_option maxHeartbeats 8000000 in
set_option maxRecDepth 200000 in
theorem mul64_one (n : Nat) (hn : n ≤ 6) (w : World) : Calls Try.prog 104 #[.int .u64 1, .int .u64 (n : Int)] w (MuP n w) := by
  have hc : n = 0 ∨ n = 1 ∨ n = 2 ∨ n = 3 ∨ n = 4 ∨ n = 5 ∨ n = 6 := by omega
  clear hn
  rcases hc with rfl | rfl | rfl | rfl | rfl | rfl | rfl
  all_goals
    go_enter Try.func104, Try.ntmps104
    go_wp2
    go_ret2
    exact ⟨rfl, rfl⟩
theorem mul_one (n : Nat) (hn : n ≤ 6) (w : World) : Calls Try.prog 80 #[.int .u64 1, .int .u64 (n : Int)] w (MuP n w) := by
  have HL := Lib.hid (mul64_one n hn)
  have h0 : (0 : Int) ≤ n := by omega
  have h1 : (n : Int) ≤ 6 := by omega
  clear hn
  go_enter Try.func80, Try.ntmps80
  go_wp2_with fail
  refine (HL.out _).mono ?_
  rintro e w1 ⟨rfl, rfl⟩
  go_wp2
  go_ret2
  exact ⟨rfl, rfl⟩
end Go.Proofs.Ytdilgeabcacbdaa
namespace Go.Proofs.Ytdilgeabcacbdaa
open Go.RowKit
set_option linter.unusedVariables false

def RpTru (_ : World) : Prop := True
theorem run_make_ints (n : Nat) (h : n ≤ 1000000) (w : World) : (Instr.makeSlice 45 (.int .i64 n) (.int .i64 n)).run Try.prog w = .ok (.slice (some ⟨w.heap.size, 0, none⟩) n n) (w.alloc (.cells (madeCells #[.int .i64 0] (n * 1)) 3)) := by
  obtain ⟨i0, hi0, hz0⟩ := Option.map_eq_some_iff.1 info_ni
  simp only [Prod.mk.injEq] at hz0
  have hr := run_make (P := Try.prog) w 45 3 i0 (.int .i64 0) Try.underlying45 hi0 hz0.1 .i64 .i64 n n (by omega) (Int.le_refl _) (by rw [hz0.2.2]; omega) (by omega)
  simp only [Int.toNat_natCast] at hr
  rw [hz0.2.1] at hr
  exact hr
/-- The loop's row: k numbers are laid. -/
structure RpAt (w : World) (g n k : Nat) (W : World) : Prop where
  k0 : 1 ≤ k
  kn : k ≤ n
  row : ∃ cur, Rw W g 3 cur ∧ cur.length = n ∧ cur.take k = ics (List.replicate k (-1))
  bel : Below g w W
  gw : g = w.heap.size
theorem ics_rep_add (a b : Nat) : ics (List.replicate a (-1)) ++ ics (List.replicate b (-1)) = ics (List.replicate (a + b) (-1)) := by
  rw [← ics_app, List.replicate_append_replicate]
theorem rp_start {w W0 : World} {g n : Nat} {cur : List Value} (h1 : 1 ≤ n) (hg : g = w.heap.size) (hr : Rw W0 g 3 cur) (hl : cur.length = n) (hb : Below g w W0) : RpAt w g n 1 (W0.setRow g (splice cur 0 (ics [-1])).toArray) := by
  refine ⟨Nat.le_refl _, h1, ⟨_, Rw.set hr 0 _, by rw [splice_len _ _ _ (by rw [hl]; exact h1), hl], ?_⟩, hb.grown (grown_setRow W0 g _) (by rw [hg]; exact hb.size) (fun k e => by injection e with e; subst e; exact Nat.le_refl _), hg⟩
  unfold splice; rfl
theorem rp_fin {w W : World} {g n : Nat} (h : RpAt w g n n W) (hm : n ≤ maxLen) : NIClP w (List.replicate n (-1)) (.returned (.slice (some ⟨g, 0, none⟩) n n)) W := by
  obtain ⟨cur, hr, hl, ht⟩ := h.row
  have hb := h.bel
  have hg := h.gw
  subst hg
  refine ⟨_, rfl, ?_, hb⟩
  rw [List.length_replicate]
  exact Rw.own hr (Nat.le_refl _) (Nat.le_refl _) hm (by rw [hl, Nat.mul_one]) (by rw [Nat.mul_one]; exact ht)
theorem rp_step {w W : World} {g n k m : Nat} (h : RpAt w g n k W) (hm : Nat.min k (n - k) = m) : (∀ ty, (Builtin.copy_ #[45, 45] ty #[.slice (some ⟨g, k, none⟩) (n - k) (n - k), .slice (some ⟨g, 0, none⟩) k n]).run Try.prog W.drew = .ok (goInt m) (W.drew.setRow g (splice (h.row.choose) k (ics (List.replicate m (-1)))).toArray)) ∧ (k < n → RpAt w g n (k + m) (W.drew.setRow g (splice (h.row.choose) k (ics (List.replicate m (-1)))).toArray)) := by
  obtain ⟨hr, hl, ht⟩ := h.row.choose_spec
  generalize h.row.choose = cur at *
  have hk0 := h.k0
  have hkn := h.kn
  have hmm : m ≤ k ∧ m ≤ n - k := ⟨hm ▸ Nat.min_le_left _ _, hm ▸ Nat.min_le_right _ _⟩
  have hlm : (ics (List.replicate m (-1))).length = m := by rw [ics_len]; simp
  constructor
  · intro ty
    rw [← hm]
    rw [← hm] at hlm hmm
    exact run_copy_sized W.drew 45 45 ty 3 1 g k (n - k) (n - k) ⟨g, 0, none⟩ k n cur 3 _ Try.underlying45 (by obtain ⟨i0, hi0, hz0⟩ := Option.map_eq_some_iff.1 info_ni; simp only [Prod.mk.injEq] at hz0; rw [hi0]; simp [hz0.2.1]) hr (by rw [hlm, Nat.mul_one]) (fun j v hj => by
      rw [add_mk, Nat.zero_add]
      have hjm : j < Nat.min k (n - k) := by have := (List.getElem?_eq_some_iff.1 hj).1; rw [hlm] at this; exact this
      refine Rw.cell hr ?_
      have h1 : cur[j]? = (cur.take k)[j]? := by rw [List.getElem?_take_of_lt (by omega)]
      rw [h1, ht, ← hj]
      have hjk : j < k := by have := hmm.1; omega
      simp [ics, List.getElem?_replicate, hjk]
      exact hjm) (by rw [hlm, hl]; omega) (ics_one _)
  · intro hkn'
    refine ⟨by omega, by omega, ⟨_, Rw.set (show Rw W.drew g 3 cur from hr) k _, by rw [splice_len _ _ _ (by rw [hlm, hl]; omega), hl], ?_⟩, h.bel.drew.grown (grown_setRow W.drew g _) (by rw [h.gw]; exact h.bel.size) (fun k e => by injection e with e; subst e; exact Nat.le_refl _), h.gw⟩
    rw [← ics_rep_add, ← ht]
    unfold splice
    rw [← List.append_assoc]
    exact List.take_left' (by rw [List.length_append, hlm, List.length_take, hl, Nat.min_eq_left hkn])

set_option maxHeartbeats 4000000 in
set_option maxRecDepth 20000 in
theorem repeat_one (xb n : Nat) (w : World) (h1 : 1 ≤ n) (h6 : n ≤ 6) (hx : w.cell? ⟨xb, 0, none⟩ = some (.int .i64 (-1))) (hl : xb < w.heap.size) :
    Calls Try.prog 45 #[.slice (some ⟨xb, 0, none⟩) 1 1, .int .i64 (n : Int)] w (NIClP w (List.replicate n (-1))) := by
  have HM := Lib.hid (mul_one n h6)
  have h0 : ((n : Int) < 0) = False := by simp
  have hc1 : IntKind.u64.wrap (n : Int) = n := by rw [IntKind.wrap_u64]; omega
  have hc2 : IntKind.i64.wrap (n : Int) = n := IntWalk.i64_in _ (by omega)
  have hn2 : ¬ ((9223372036854775807 : Int) < n) := by omega
  obtain ⟨g, hg⟩ : ∃ g, g = w.heap.size := ⟨_, rfl⟩
  have hmk := run_make_ints n (by omega) w
  rw [← hg] at hmk
  obtain ⟨W0, hW0⟩ : ∃ W0, W0 = w.alloc (.cells (madeCells #[.int .i64 0] (n * 1)) 3) := ⟨_, rfl⟩
  have hR0 : Rw W0 g 3 (madeCells #[.int .i64 0] (n * 1)).toList := by rw [hW0, hg]; exact Rw.fresh w _ _
  have hL0 : (madeCells #[.int .i64 0] (n * 1)).toList.length = n := by simp [size_madeCells]
  have hB0 : Below g w W0 := by rw [hW0, hg]; exact (Below.refl _ _).alloc (Nat.le_refl _) _
  rw [← hW0] at hmk
  generalize (madeCells #[.int .i64 0] (n * 1)).toList = cur0 at *
  have hcp : ∀ ty, (Builtin.copy_ #[45, 45] ty #[.slice (some ⟨g, 0, none⟩) n n, .slice (some ⟨xb, 0, none⟩) 1 1]).run Try.prog W0 = .ok (goInt (Nat.min 1 n)) (W0.setRow g (splice cur0 0 (ics [-1])).toArray) := fun ty =>
    run_copy_sized W0 45 45 ty 3 1 g 0 n n ⟨xb, 0, none⟩ 1 1 cur0 3 (ics [-1]) Try.underlying45 (by obtain ⟨i0, hi0, hz0⟩ := Option.map_eq_some_iff.1 info_ni; simp only [Prod.mk.injEq] at hz0; rw [hi0]; simp [hz0.2.1]) hR0 (by rw [show Nat.min 1 n = 1 from Nat.min_eq_left h1]; rfl) (fun j v hj => by
      rw [add_mk, Nat.zero_add]
      cases j with
      | zero => exact (hB0.cell (p := ⟨xb, 0, none⟩) (by rw [hg]; exact hl)).trans (by rw [hx]; exact hj)
      | succ j => simp [ics] at hj) (by rw [hL0]; exact h1) (ics_one _)
  rw [show Nat.min 1 n = 1 from Nat.min_eq_left h1] at hcp
  have HS := Lib.hid (rp_start h1 hg hR0 hL0 hB0)
  generalize W0.setRow g (splice cur0 0 (ics [-1])).toArray = W1 at *
  clear hR0 hL0 hB0 hW0 hx hl
  have HG := Lib.hid hg
  clear hg
  go_enter Try.func45, Try.ntmps45
  go_wp2_with fail
  refine (HM.out _).mono ?_
  rintro e w1 ⟨rfl, rfl⟩
  go_wp2_with fail
  go_loopw [8] (fun kv wr => ∃ k : Nat, kv = .int .i64 k ∧ Hid (RpAt w g n k wr)) (fun kv _ => n - (intOf kv).toNat)
  case atStart => exact ⟨1, rfl, HS⟩
  case round =>
    obtain ⟨k, rfl, HR⟩ := hrel
    by_cases hkn : k < n
    · obtain ⟨m, hm⟩ : ∃ m, Nat.min k (n - k) = m := ⟨_, rfl⟩
      obtain ⟨hcp2, hnx⟩ := rp_step HR.out hm
      have HN := Lib.hid (hnx hkn)
      have HMM := Lib.hid (show 1 ≤ m ∧ k + m ≤ n by have := HR.out.k0; rw [← hm]; show 1 ≤ min k (n - k) ∧ k + min k (n - k) ≤ n; omega)
      have hsum : IntKind.i64.wrap ((k : Int) + (m : Int)) = ((k + m : Nat) : Int) := by rw [IntWalk.i64_in _ (by have := HMM.out; omega)]; omega
      have hsum2 : wrap64 ((k : Int) + (m : Int)) = ((k + m : Nat) : Int) := by rw [IntWalk.wrap64_in _ (by have := HMM.out; omega)]; omega
      generalize wr.drew.setRow g _ = W2 at *
      have hlt : (k : Int) < (n : Int) := by omega
      have hle : k ≤ n := by omega
      have hnk : ¬ n = k := by omega
      clear hnx hm hcp hmk
      go_wp2
      go_region_held3 (fun W => RpTru W) (exact trivial) (first | (fail))
      go_wp2
      go_roundw
      case rel => exact ⟨k + m, by rw [Int.natCast_add], HN⟩
      case measure => have := HMM.out; simp [intOf]; omega
    · have hke : k = n := by have := HR.out.kn; omega
      subst hke
      have HF := Lib.hid (rp_fin HR.out (by unfold maxLen; omega))
      clear hkn
      have hlt : ¬ ((k : Int) < (k : Int)) := by omega
      go_wp2
      go_ret
      exact HF.out
end Go.Proofs.Ytdilgeabcacbdaa
namespace Go.Proofs.Ytdilgeabcacbdaa
open Go.RowKit
theorem dal {B : Nat} {a W : World} {o : Obj} (h : Below B a W) (h1 : B ≤ W.heap.size) : Below B a (W.alloc o) := h.alloc h1 o
theorem dst {B : Nat} {a W : World} {x : Addr} {v : Value} (h : Below B a W) (h1 : B ≤ x.block) : Below B a (W.setCell x v) := h.setCell h1 v
theorem ddr {B : Nat} {a W : World} (h : Below B a W) : Below B a W.drew := h.drew
end Go.Proofs.Ytdilgeabcacbdaa
