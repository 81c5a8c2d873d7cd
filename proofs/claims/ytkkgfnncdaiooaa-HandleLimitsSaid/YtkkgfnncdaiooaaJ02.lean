/- What is proved here: octets.isSize tests a range; (plain functions) a number as bytes of a fixed size; the hash of the document as a plain function of bytes, and the bit operations that its two programs use, as operations on natural numbers. No program is entered. -/
import Derived.Test.YtkkgfnncdaiooaaRows
import Derived.Test.YtkkgfnncdaiooaaJ01
import Derived.WalkKit
import Derived.Outline
import Derived.IntWalk
import Derived.Deep.OwnRows
import Derived.Laws.MakeOwn
import Derived.Laws.BitsAllLaws
import Derived.Laws.BitsLemmas
import Derived.Below
namespace Go.Proofs.Ytkkgfnncdaiooaa
open Go.RowKit
set_option linter.unusedVariables false

theorem issize_yes (n : Int) (w : World) (h1 : 1 ≤ n) (h2 : n ≤ 6) : Calls Try.prog 23 #[.int .i64 n] w fun e w' => e = .returned (.bool true) ∧ w = w' := by
  go_enter Try.func23, Try.ntmps23
  go_wp2
  go_ret
  exact ⟨rfl, rfl⟩

theorem issize_no (n : Int) (w : World) (h : n < 1 ∨ 6 < n) : Calls Try.prog 23 #[.int .i64 n] w fun e w' => e = .returned (.bool false) ∧ w = w' := by
  by_cases h1 : 1 ≤ n
  · have h2 : ¬ n ≤ 6 := by omega
    clear h
    go_enter Try.func23, Try.ntmps23
    go_wp2
    go_ret
    exact ⟨rfl, rfl⟩
  · clear h
    go_enter Try.func23, Try.ntmps23
    go_wp2
    go_ret
    exact ⟨rfl, rfl⟩
end Go.Proofs.Ytkkgfnncdaiooaa
namespace Go.Proofs.Ytkkgfnncdaiooaa
open Go.RowKit
set_option linter.unusedVariables false

/-- The number n as s bytes, the highest one first. -/
def be (s n : Nat) : List UInt8 := (List.range s).map fun j => UInt8.ofNat (n / 2 ^ (8 * (s - 1 - j)))

theorem be_length (s n : Nat) : (be s n).length = s := by simp [be]

theorem be_get (s n j : Nat) (h : j < s) : (be s n)[j]'(by rw [be_length]; exact h) = UInt8.ofNat (n / 2 ^ (8 * (s - 1 - j))) := by simp [be]

theorem oct_mod (x : Nat) : oct (UInt8.ofNat x) = .int .u8 ((x : Int) % 256) := by
  unfold oct
  rw [show (UInt8.ofNat x).toNat = x % 256 from by simp]
  simp

theorem Bs.of_row {w : World} {B g : Nat} {t : TypeId} {n c : Nat} {f : Nat → Value} {bs : List UInt8} (h : w.rowIs g t n f) (hg : g < B) (hl : bs.length = n) (hc : n ≤ c) (hm : c ≤ maxLen) (hf : ∀ j (hj : j < bs.length), f j = oct bs[j]) : Bs w B (.slice (some ⟨g, 0, none⟩) n c) bs := by
  subst hl
  refine ⟨_, c, rfl, hc, hm, by simp, fun _ => ⟨g, 0, rfl, hg, fun j u hu => ?_⟩⟩
  rw [Nat.zero_add]
  simp only [List.getElem?_map, Option.map_eq_some_iff] at hu
  obtain ⟨x, hx, rfl⟩ := hu
  obtain ⟨hj, rfl⟩ := List.getElem?_eq_some_iff.1 hx
  rw [h.cell hj, hf j hj]

theorem pow_le48 (s : Nat) (h : s ≤ 6) : (2 : Int) ^ (8 * s) ≤ 281474976710656 ∧ (0 : Int) ≤ 2 ^ (8 * s) ∧ ((2 ^ (8 * s) : Nat) : Int) = (2 : Int) ^ (8 * s) := by
  match s, h with
  | 0, _ => decide
  | 1, _ => decide
  | 2, _ => decide
  | 3, _ => decide
  | 4, _ => decide
  | 5, _ => decide
  | 6, _ => decide

theorem be_take (s n j : Nat) (hj : j + 1 ≤ s) : (be s n).take (s - j) = (be s n).take (s - (j + 1)) ++ [UInt8.ofNat (n / 2 ^ (8 * j))] := by
  have hl : s - (j + 1) < (be s n).length := by rw [be_length]; omega
  rw [show s - j = s - (j + 1) + 1 by omega, List.take_succ_eq_append_getElem hl, be_get s n _ (by omega), show s - 1 - (s - (j + 1)) = j by omega]

/-- What Put returns. -/
def ptOk (n s : Int) : Bool := decide (1 ≤ s ∧ s ≤ 6 ∧ 0 ≤ n ∧ n < 2 ^ (8 * s.toNat))

def ptE (n s : Int) : Int := if ptOk n s then 0 else 1

def ptB (bs : List UInt8) (n s : Int) : List UInt8 := if ptOk n s then bs ++ be s.toNat n.toNat else []

theorem pt4 (id : Int) (h0 : 0 ≤ id) (h1 : id ≤ 1073741824) : ptE id 4 = 0 ∧ ptB [] id 4 = be 4 id.toNat := by
  have hk : ptOk id 4 = true := by
    refine decide_eq_true ⟨by omega, by omega, h0, ?_⟩
    rw [show (2 : Int) ^ (8 * (4 : Int).toNat) = 4294967296 by decide]
    omega
  unfold ptE ptB
  rw [if_pos hk, if_pos hk]
  exact ⟨rfl, rfl⟩
end Go.Proofs.Ytkkgfnncdaiooaa
namespace Go.Proofs.Ytkkgfnncdaiooaa
open Go.RowKit

theorem nat_i64 (a : Nat) (ha : a < 9223372036854775808) : (BitVec.ofInt 64 (a : Int)).toNat = a := by
  rw [BitVec.ofInt_natCast, BitVec.toNat_ofNat]; exact Nat.mod_eq_of_lt (by omega)
theorem nat_u32 (a : Nat) (ha : a < 4294967296) : (BitVec.ofInt 32 (a : Int)).toNat = a := by
  rw [BitVec.ofInt_natCast, BitVec.toNat_ofNat]; exact Nat.mod_eq_of_lt (by omega)
theorem xor_i64 (a b : Nat) (ha : a < 9223372036854775808) (hb : b < 9223372036854775808) : bits .xor .i64 (a : Int) (b : Int) = ((a ^^^ b : Nat) : Int) := by
  have hx : a ^^^ b < 2 ^ 63 := Nat.xor_lt_two_pow (by omega) (by omega)
  show IntKind.i64.wrap ((BitVec.ofInt 64 (a : Int) ^^^ BitVec.ofInt 64 (b : Int)).toNat : Int) = _
  rw [BitVec.toNat_xor, nat_i64 a ha, nat_i64 b hb, IntKind.wrap_i64]
  omega
theorem xor_u32 (a b : Nat) (ha : a < 4294967296) (hb : b < 4294967296) : bits .xor .u32 (a : Int) (b : Int) = ((a ^^^ b : Nat) : Int) := by
  have hx : a ^^^ b < 2 ^ 32 := Nat.xor_lt_two_pow (by omega) (by omega)
  show IntKind.u32.wrap ((BitVec.ofInt 32 (a : Int) ^^^ BitVec.ofInt 32 (b : Int)).toNat : Int) = _
  rw [BitVec.toNat_xor, nat_u32 a ha, nat_u32 b hb]
  unfold IntKind.wrap
  simp [IntKind.bits, IntKind.signed]
  omega
/-- '&' with a number of k ones. -/
theorem and_ones (n : Int) (k m : Nat) (hk : k ≤ 62) (hm : m = 2 ^ k - 1) : bits .and .i64 n m = n % 2 ^ k := by
  have hp : 2 ^ k ≤ 2 ^ 62 := Nat.pow_le_pow_right (by omega) hk
  have hp0 : 0 < 2 ^ k := Nat.pow_pos (by omega)
  have h3 : (BitVec.ofInt 64 (m : Int)).toNat = 2 ^ k - 1 := by rw [nat_i64 m (by omega), hm]
  have key : (BitVec.ofInt 64 n &&& BitVec.ofInt 64 (m : Int)).toNat = (n % ((2 ^ 64 : Nat) : Int)).toNat % 2 ^ k := by
    rw [BitVec.toNat_and, BitVec.toNat_ofInt, h3, Nat.and_two_pow_sub_one_eq_mod]
  show IntKind.i64.wrap ((BitVec.ofInt 64 n &&& BitVec.ofInt 64 (m : Int)).toNat : Nat) = n % 2 ^ k
  rw [key, IntKind.wrap_i64]
  have h1 : (n % ((2 ^ 64 : Nat) : Int)).toNat % 2 ^ k < 2 ^ k := Nat.mod_lt _ hp0
  have h2 : (((n % ((2 ^ 64 : Nat) : Int)).toNat % 2 ^ k : Nat) : Int) = n % 2 ^ k := by
    have hd : ((2 ^ k : Nat) : Int) ∣ ((2 ^ 64 : Nat) : Int) := Int.natCast_dvd_natCast.2 (Nat.pow_dvd_pow 2 (by omega))
    rw [Int.natCast_emod, Int.toNat_of_nonneg (by omega), Int.emod_emod_of_dvd n hd, Int.natCast_pow]
    rfl
  rw [← h2]
  omega
theorem and_ffff (n : Int) : bits .and .i64 n 65535 = n % 65536 := and_ones n 16 65535 (by omega) (by omega)
theorem and_ffffffff (n : Int) : bits .and .i64 n 4294967295 = n % 4294967296 := and_ones n 32 4294967295 (by omega) (by omega)

/-- The hash: its step, and the hash of a list. -/
def fst1 (h b : Nat) : Nat := (h ^^^ b) * 16777619 % 4294967296
def fnvOn (h : Nat) (bs : List UInt8) : Nat := bs.foldl (fun h b => fst1 h b.toNat) h
def fnv (bs : List UInt8) : Nat := fnvOn 2166136261 bs

theorem fst1_lt (h b : Nat) : fst1 h b < 4294967296 := Nat.mod_lt _ (by decide)
theorem fnvOn_lt (h : Nat) (bs : List UInt8) (hh : h < 4294967296) : fnvOn h bs < 4294967296 := by
  induction bs generalizing h with
  | nil => exact hh
  | cons b r ih => exact ih _ (fst1_lt _ _)
theorem fnv_lt (bs : List UInt8) : fnv bs < 4294967296 := fnvOn_lt _ _ (by decide)
theorem fnv_take (bs : List UInt8) (k : Nat) (h : k < bs.length) : fnv (bs.take (k + 1)) = fst1 (fnv (bs.take k)) bs[k].toNat := by
  unfold fnv fnvOn
  rw [List.take_succ_eq_append_getElem h, List.foldl_append, List.foldl_cons, List.foldl_nil]
end Go.Proofs.Ytkkgfnncdaiooaa
