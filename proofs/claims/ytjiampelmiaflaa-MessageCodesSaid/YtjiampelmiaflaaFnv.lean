/- What is proved here: the hash of the document as a plain function of bytes, and the bit operations that its two programs use, as operations on natural numbers. No program is entered. -/
import Derived.Laws.BitsAllLaws
import Derived.Laws.BitsLemmas
import Derived.Below
namespace Go.Proofs.Ytjiampelmiaflaa
open Go.RowKit

theorem nat_i64 (a : Nat) (ha : a < 9223372036854775808) : (BitVec.ofInt 64 (a : Int)).toNat = a := by
  rw [BitVec.ofInt_natCast, BitVec.toNat_ofNat]; exact Nat.mod_eq_of_lt (by omega)
theorem nat_u32 (a : Nat) (ha : a < 4294967296) : (BitVec.ofInt 32 (a : Int)).toNat = a := by
  rw [BitVec.ofInt_natCast, BitVec.toNat_ofNat]; exact Nat.mod_eq_of_lt (by omega)
theorem xor_i64 (a b : Nat) (ha : a < 9223372036854775808) (hb : b < 9223372036854775808) : bits .xor .i64 (a : Int) (b : Int) = ((a ^^^ b : Nat) : Int) := by
  have hx : a ^^^ b < 2 ^ 63 := Nat.xor_lt_two_pow (by omega) (by omega)
  show IntKind.i64.wrap ((BitVec.ofInt 64 (a : Int) ^^^ BitVec.ofInt 64 (b : Int)).toNat : Int) = _
  rw [BitVec.toNat_xor, nat_i64 a ha, nat_i64 b hb, IntKind.wrap_i64]
  omega
theorem xor_u32 (a b : Nat) (ha : a < 4294967296) (hb : b < 4294967296) : bits .xor .u32 (a : Int) (b : Int) = ((a ^^^ b : Nat) : Int) := by
  have hx : a ^^^ b < 2 ^ 32 := Nat.xor_lt_two_pow (by omega) (by omega)
  show IntKind.u32.wrap ((BitVec.ofInt 32 (a : Int) ^^^ BitVec.ofInt 32 (b : Int)).toNat : Int) = _
  rw [BitVec.toNat_xor, nat_u32 a ha, nat_u32 b hb]
  unfold IntKind.wrap
  simp [IntKind.bits, IntKind.signed]
  omega
/-- '&' with a number of k ones. -/
theorem and_ones (n : Int) (k m : Nat) (hk : k ≤ 62) (hm : m = 2 ^ k - 1) : bits .and .i64 n m = n % 2 ^ k := by
  have hp : 2 ^ k ≤ 2 ^ 62 := Nat.pow_le_pow_right (by omega) hk
  have hp0 : 0 < 2 ^ k := Nat.pow_pos (by omega)
  have h3 : (BitVec.ofInt 64 (m : Int)).toNat = 2 ^ k - 1 := by rw [nat_i64 m (by omega), hm]
  have key : (BitVec.ofInt 64 n &&& BitVec.ofInt 64 (m : Int)).toNat = (n % ((2 ^ 64 : Nat) : Int)).toNat % 2 ^ k := by
    rw [BitVec.toNat_and, BitVec.toNat_ofInt, h3, Nat.and_two_pow_sub_one_eq_mod]
  show IntKind.i64.wrap ((BitVec.ofInt 64 n &&& BitVec.ofInt 64 (m : Int)).toNat : Nat) = n % 2 ^ k
  rw [key, IntKind.wrap_i64]
  have h1 : (n % ((2 ^ 64 : Nat) : Int)).toNat % 2 ^ k < 2 ^ k := Nat.mod_lt _ hp0
  have h2 : (((n % ((2 ^ 64 : Nat) : Int)).toNat % 2 ^ k : Nat) : Int) = n % 2 ^ k := by
    have hd : ((2 ^ k : Nat) : Int) ∣ ((2 ^ 64 : Nat) : Int) := Int.natCast_dvd_natCast.2 (Nat.pow_dvd_pow 2 (by omega))
    rw [Int.natCast_emod, Int.toNat_of_nonneg (by omega), Int.emod_emod_of_dvd n hd, Int.natCast_pow]
    rfl
  rw [← h2]
  omega
theorem and_ffff (n : Int) : bits .and .i64 n 65535 = n % 65536 := and_ones n 16 65535 (by omega) (by omega)
theorem and_ffffffff (n : Int) : bits .and .i64 n 4294967295 = n % 4294967296 := and_ones n 32 4294967295 (by omega) (by omega)

/-- The hash: its step, and the hash of a list. -/
def fst1 (h b : Nat) : Nat := (h ^^^ b) * 16777619 % 4294967296
def fnvOn (h : Nat) (bs : List UInt8) : Nat := bs.foldl (fun h b => fst1 h b.toNat) h
def fnv (bs : List UInt8) : Nat := fnvOn 2166136261 bs

theorem fst1_lt (h b : Nat) : fst1 h b < 4294967296 := Nat.mod_lt _ (by decide)
theorem fnvOn_lt (h : Nat) (bs : List UInt8) (hh : h < 4294967296) : fnvOn h bs < 4294967296 := by
  induction bs generalizing h with
  | nil => exact hh
  | cons b r ih => exact ih _ (fst1_lt _ _)
theorem fnv_lt (bs : List UInt8) : fnv bs < 4294967296 := fnvOn_lt _ _ (by decide)
theorem fnv_take (bs : List UInt8) (k : Nat) (h : k < bs.length) : fnv (bs.take (k + 1)) = fst1 (fnv (bs.take k)) bs[k].toNat := by
  unfold fnv fnvOn
  rw [List.take_succ_eq_append_getElem h, List.foldl_append, List.foldl_cons, List.foldl_nil]
end Go.Proofs.Ytjiampelmiaflaa
