/- What is proved here: octets.Put and shardqueueref01.Put return the argument followed by the bytes of the number, or the error. -/
import Derived.Test.YtboencbblplhbaaCat
import Derived.Test.YtboencbblplhbaaSiz
import Derived.Deep.OwnRows
import Derived.Laws.MakeOwn
import Derived.Laws.ShiftsVarLaws
namespace Go.Proofs.Ytboencbblplhbaa
open Go.RowKit
set_option linter.unusedVariables false

/-- The number n as s bytes, the highest one first. -/
def be (s n : Nat) : List UInt8 := (List.range s).map fun j => UInt8.ofNat (n / 2 ^ (8 * (s - 1 - j)))

theorem be_length (s n : Nat) : (be s n).length = s := by simp [be]
theorem be_get (s n j : Nat) (h : j < s) : (be s n)[j]'(by rw [be_length]; exact h) = UInt8.ofNat (n / 2 ^ (8 * (s - 1 - j))) := by simp [be]
theorem oct_mod (x : Nat) : oct (UInt8.ofNat x) = .int .u8 ((x : Int) % 256) := by
  unfold oct
  rw [show (UInt8.ofNat x).toNat = x % 256 from by simp]
  simp

theorem Bs.of_row {w : World} {B g : Nat} {t : TypeId} {n c : Nat} {f : Nat → Value} {bs : List UInt8} (h : w.rowIs g t n f) (hg : g < B) (hl : bs.length = n) (hc : n ≤ c) (hm : c ≤ maxLen) (hf : ∀ j (hj : j < bs.length), f j = oct bs[j]) : Bs w B (.slice (some ⟨g, 0, none⟩) n c) bs := by
  subst hl
  refine ⟨_, c, rfl, hc, hm, by simp, fun _ => ⟨g, 0, rfl, hg, fun j u hu => ?_⟩⟩
  rw [Nat.zero_add]
  simp only [List.getElem?_map, Option.map_eq_some_iff] at hu
  obtain ⟨x, hx, rfl⟩ := hu
  obtain ⟨hj, rfl⟩ := List.getElem?_eq_some_iff.1 hx
  rw [h.cell hj, hf j hj]

theorem pow_le48 (s : Nat) (h : s ≤ 6) : (2 : Int) ^ (8 * s) ≤ 281474976710656 ∧ (0 : Int) ≤ 2 ^ (8 * s) ∧ ((2 ^ (8 * s) : Nat) : Int) = (2 : Int) ^ (8 * s) := by
  match s, h with
  | 0, _ => decide
  | 1, _ => decide
  | 2, _ => decide
  | 3, _ => decide
  | 4, _ => decide
  | 5, _ => decide
  | 6, _ => decide

set_option maxHeartbeats 2000000 in
set_option maxRecDepth 20000 in
theorem put_ok (A : Option Addr) (l c : Nat) (bs : List UInt8) (n s : Nat) (w : World) (hv : Bs w w.heap.size (.slice A l c) bs) (hl : bs.length ≤ 1099511627000) (hs1 : 1 ≤ (s : Int)) (hs2 : (s : Int) ≤ 6) (hn : n < 2 ^ (8 * s)) :
    Calls Try.prog 19 #[.slice A l c, .int .i64 n, .int .i64 s] w fun e w' =>
      ∃ v', e = .returned (.tuple #[v', .int .i64 0]) ∧ w'.ownsRow w.heap.size 5 1 v' (bs ++ be s n).length ((bs ++ be s n).map oct) ∧ Below w.heap.size w w' := by
  have h0 : (0 : Int) ≤ n := by omega
  have hp := pow_le48 s (by omega)
  have hw : ¬ (wrap64 (2 ^ (8 * s)) ≤ (n : Int)) := by
    obtain ⟨h1, h2, h3⟩ := hp
    have : wrap64 ((2 : Int) ^ (8 * s)) = 2 ^ (8 * s) := by unfold wrap64; omega
    rw [this, ← h3]
    omega
  have hn63 : (n : Int) ≤ 281474976710656 := by
    obtain ⟨h1, h2, h3⟩ := hp
    rw [← h3] at h1
    omega
  have hmk := fun W => run_make_row' (P := Try.prog) 22 5 (.int .u8 0) 1 Try.underlying22 info_u8 rfl .i64 .i64 s (by omega) (by omega) W
  have HL := Lib.hid hl
  have HV := Lib.hid hv
  have HR := Lib.hid (World.rowIs_made w (.int .u8 0) s 5)
  clear hv hl hn hp
  go_enter Try.func19, Try.ntmps19
  go_wp2_with fail
  refine (issize_yes _ _ hs1 hs2).mono ?_
  rintro e w1 ⟨rfl, rfl⟩
  go_wp2
  clear hmk hw
  go_loopw [9, 28] (fun _ i wr => ∃ k : Nat, k ≤ s ∧ i = .int .i64 k ∧ Below w.heap.size w wr ∧ wr.rowIs w.heap.size 5 s (fun j => if s ≤ j + k then oct (UInt8.ofNat (n / 2 ^ (8 * (s - 1 - j)))) else .int .u8 0)) (fun _ i _ => s - (intOf i).toNat)
  case atStart => 
    refine ⟨0, Nat.zero_le _, rfl, (Below.refl _ _).alloc (Nat.le_refl _) _, HR.out.congr fun j hj => ?_⟩
    rw [if_neg (by omega)]
  case round =>
    obtain ⟨k, hk, rfl, hbel, hrow⟩ := hrel
    by_cases hlt : k < s
    · have hcell := hrow.cell (i := s - 1 - k) (by omega)
      have hfr := hrow.frozen (s - 1 - k)
      have HB := Lib.hid hbel
      have HW := Lib.hid hrow
      clear hbel hrow
      go_wp2
      go_roundw
      case rel =>
        refine ⟨k + 1, by omega, by go_num, HB.out.setCell (Nat.le_refl _) _, (HW.out.set (s - 1 - k) _).congr fun j hj => ?_⟩
        by_cases hjk : j = s - 1 - k
        · rw [if_pos hjk, if_pos (by omega), oct_mod]
          subst hjk
          rw [show s - 1 - (s - 1 - k) = k by omega]
          simp
        · rw [if_neg hjk]
          by_cases hle : s ≤ j + k
          · rw [if_pos hle, if_pos (by omega)]
          · rw [if_neg hle, if_neg (by omega)]
      case measure => simp [intOf]; omega
    · obtain rfl : k = s := by omega
      have hlt' := hrow.lt
      have hb1 : Bs wr wr.heap.size (.slice (some ⟨w.heap.size, 0, none⟩) k k) (be k n) := Bs.of_row hrow hlt' (be_length k n) (Nat.le_refl _) (by unfold maxLen; omega) (fun j hj => by
        rw [be_length] at hj
        rw [if_pos (by omega), be_get k n j hj])
      have HC := Lib.hid (concat2 wr.heap.size 2 _ _ bs (be k n) wr rfl ((HV.out.below hbel).more hbel.size) hb1 (by have := HL.out; rw [be_length]; omega))
      have HB := Lib.hid hbel
      clear hbel hrow hb1
      go_wp2_with fail
      refine HC.out.mono ?_
      rintro e w1 ⟨v1, rfl, hown1, hb1⟩
      have HO1 := Lib.hid (own_low hown1 HB.out.size)
      have HB2 := Lib.hid (HB.out.trans (hb1.mono HB.out.size))
      clear hown1 hb1
      go_wp2
      go_ret2
      exact ⟨v1, rfl, HO1.out, HB2.out⟩

/-- Out of range: the error. -/
theorem put_bad (v : Value) (n s : Int) (w : World) (h : s < 1 ∨ 6 < s ∨ n < 0 ∨ 2 ^ (8 * s.toNat) ≤ n) :
    Calls Try.prog 19 #[v, .int .i64 n, .int .i64 s] w fun e w' => e = .returned (.tuple #[.slice none 0 0, .int .i64 1]) ∧ w = w' := by
  by_cases hs : s < 1 ∨ 6 < s
  · clear h
    go_enter Try.func19, Try.ntmps19
    go_wp2_with fail
    refine (issize_no _ _ hs).mono ?_
    rintro e w1 ⟨rfl, rfl⟩
    clear hs
    go_wp2
    go_ret2
    exact ⟨rfl, rfl⟩
  · have hs1 : 1 ≤ s := by omega
    have hs2 : s ≤ 6 := by omega
    by_cases hn : n < 0
    · clear h hs
      go_enter Try.func19, Try.ntmps19
      go_wp2_with fail
      refine (issize_yes _ _ hs1 hs2).mono ?_
      rintro e w1 ⟨rfl, rfl⟩
      go_wp2
      go_ret2
      exact ⟨rfl, rfl⟩
    · have h' : 2 ^ (8 * s.toNat) ≤ n := by omega
      obtain ⟨S, rfl⟩ := Int.eq_ofNat_of_zero_le (show 0 ≤ s by omega)
      rw [Int.toNat_natCast] at h'
      have hp := pow_le48 S (by omega)
      have hw : wrap64 (2 ^ (8 * S)) ≤ n := by
        obtain ⟨h1, h2, h3⟩ := hp
        have : wrap64 ((2 : Int) ^ (8 * S)) = 2 ^ (8 * S) := by unfold wrap64; omega
        rw [this]
        exact h'
      clear h hs hp h'
      go_enter Try.func19, Try.ntmps19
      go_wp2_with fail
      refine (issize_yes _ _ hs1 hs2).mono ?_
      rintro e w1 ⟨rfl, rfl⟩
      go_wp2
      go_ret2
      exact ⟨rfl, rfl⟩
end Go.Proofs.Ytboencbblplhbaa
