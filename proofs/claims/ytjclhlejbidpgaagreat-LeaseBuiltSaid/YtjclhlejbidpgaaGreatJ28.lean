/- What is proved here: (plain functions) a number as bytes of a fixed size; Body of the statements' base returns a short string; the hash of the document as a plain function of bytes, and the bit operations that its two programs use, as operations on natural numbers. No program is entered. -/
import Derived.Test.YtjclhlejbidpgaaGreatJ02
import Derived.IntWalk
import Derived.Deep.OwnRows
import Derived.Laws.MakeOwn
import Derived.Test.YtjclhlejbidpgaaGreatJ27
import Derived.Laws.BitsAllLaws
import Derived.Laws.BitsLemmas
import Derived.Below
namespace Go.Proofs.YtjclhlejbidpgaaGreat
open Go.RowKit
set_option linter.unusedVariables false

/-- The number n as s bytes, the highest one first. -/
def be (s n : Nat) : List UInt8 := (List.range s).map fun j => UInt8.ofNat (n / 2 ^ (8 * (s - 1 - j)))

theorem be_length (s n : Nat) : (be s n).length = s := by simp [be]

theorem be_get (s n j : Nat) (h : j < s) : (be s n)[j]'(by rw [be_length]; exact h) = UInt8.ofNat (n / 2 ^ (8 * (s - 1 - j))) := by simp [be]

theorem oct_mod (x : Nat) : oct (UInt8.ofNat x) = .int .u8 ((x : Int) % 256) := by
  unfold oct
  rw [show (UInt8.ofNat x).toNat = x % 256 from by simp]
  simp

theorem Bs.of_row {w : World} {B g : Nat} {t : TypeId} {n c : Nat} {f : Nat → Value} {bs : List UInt8} (h : w.rowIs g t n f) (hg : g < B) (hl : bs.length = n) (hc : n ≤ c) (hm : c ≤ maxLen) (hf : ∀ j (hj : j < bs.length), f j = oct bs[j]) : Bs w B (.slice (some ⟨g, 0, none⟩) n c) bs := by
  subst hl
  refine ⟨_, c, rfl, hc, hm, by simp, fun _ => ⟨g, 0, rfl, hg, fun j u hu => ?_⟩⟩
  rw [Nat.zero_add]
  simp only [List.getElem?_map, Option.map_eq_some_iff] at hu
  obtain ⟨x, hx, rfl⟩ := hu
  obtain ⟨hj, rfl⟩ := List.getElem?_eq_some_iff.1 hx
  rw [h.cell hj, hf j hj]

theorem pow_le48 (s : Nat) (h : s ≤ 6) : (2 : Int) ^ (8 * s) ≤ 281474976710656 ∧ (0 : Int) ≤ 2 ^ (8 * s) ∧ ((2 ^ (8 * s) : Nat) : Int) = (2 : Int) ^ (8 * s) := by
  match s, h with
  | 0, _ => decide
  | 1, _ => decide
  | 2, _ => decide
  | 3, _ => decide
  | 4, _ => decide
  | 5, _ => decide
  | 6, _ => decide

theorem be_take (s n j : Nat) (hj : j + 1 ≤ s) : (be s n).take (s - j) = (be s n).take (s - (j + 1)) ++ [UInt8.ofNat (n / 2 ^ (8 * j))] := by
  have hl : s - (j + 1) < (be s n).length := by rw [be_length]; omega
  rw [show s - j = s - (j + 1) + 1 by omega, List.take_succ_eq_append_getElem hl, be_get s n _ (by omega), show s - 1 - (s - (j + 1)) = j by omega]

/-- What Put returns. -/
def ptOk (n s : Int) : Bool := decide (1 ≤ s ∧ s ≤ 6 ∧ 0 ≤ n ∧ n < 2 ^ (8 * s.toNat))

def ptE (n s : Int) : Int := if ptOk n s then 0 else 1

def ptB (bs : List UInt8) (n s : Int) : List UInt8 := if ptOk n s then bs ++ be s.toNat n.toNat else []

theorem pt4 (id : Int) (h0 : 0 ≤ id) (h1 : id ≤ 1073741824) : ptE id 4 = 0 ∧ ptB [] id 4 = be 4 id.toNat := by
  have hk : ptOk id 4 = true := by
    refine decide_eq_true ⟨by omega, by omega, h0, ?_⟩
    rw [show (2 : Int) ^ (8 * (4 : Int).toNat) = 4294967296 by decide]
    omega
  unfold ptE ptB
  rw [if_pos hk, if_pos hk]
  exact ⟨rfl, rfl⟩
end Go.Proofs.YtjclhlejbidpgaaGreat
namespace Go.Proofs.YtjclhlejbidpgaaGreat
open Go.RowKit
set_option linter.unusedVariables false

/-- A short body, made by a source. -/
def SrBody (B g : Nat) (w : World) (e : Ending) (w' : World) : Prop := ∃ s : ByteArray, e = .returned (.string s) ∧ s.size ≤ 3 ∧ SrcAt w' B g ∧ w.grownBy w' (some g)

theorem rowIs_grown {w w' : World} {b g : Nat} {t : TypeId} {n : Nat} {f : Nat → Value} (h : w.rowIs b t n f) (hg : w.grownBy w' (some g)) (hne : b ≠ g) (hb : b < w.heap.size) : w'.rowIs b t n f := by
  obtain ⟨c, h1, h2⟩ := h
  exact ⟨c, (hg.block b hb (fun e => hne (by injection e))).trans h1, h2⟩

set_option maxHeartbeats 2000000 in
set_option maxRecDepth 20000 in
theorem body_any (B g : Nat) (w : World) (h : SrcAt w B g) : Calls Tryz.prog 28 #[.pointer (some ⟨g, 0, none⟩)] w (SrBody B g w) := by
  have HC := Lib.hid (n_any B g w h 4 (by omega) (by omega))
  have HG0 := Lib.hid h.2.1
  have HBg := Lib.hid h.1
  clear h
  go_enter Tryz.func28, Tryz.ntmps28
  go_wp2_with fail
  refine HC.out.mono ?_
  rintro e w1 ⟨x, rfl, hx1, hx2, hs, hg⟩
  obtain ⟨m, rfl⟩ := Int.eq_ofNat_of_zero_le hx1
  have hm3 : (m : Int) ≤ 3 := by omega
  have hmk := run_make_row' (P := Tryz.prog) 82 5 (.int .u8 0) 1 Tryz.underlying82 info_u8 rfl .i64 .i64 m (by omega) (by omega) w1
  have HR := Lib.hid (World.rowIs_made w1 (.int .u8 0) m 5)
  have HS := Lib.hid (hs.alloc (.cells (madeCells #[.int .u8 0] m) 5))
  have HG := Lib.hid (only_alloc hg (.cells (madeCells #[.int .u8 0] m) 5))
  have hne : w1.heap.size ≠ g := by have := hs.2.1; omega
  have HNE := Lib.hid hne
  have hle : w.heap.size ≤ w1.heap.size := hg.size
  have HLE := Lib.hid hle
  obtain ⟨b, hbb⟩ : ∃ b, b = w1.heap.size := ⟨_, rfl⟩
  have HSZ := Lib.hid (show b < (w1.alloc (.cells (madeCells #[.int .u8 0] m) 5)).heap.size by simp [hbb])
  have HBB := Lib.hid hbb
  clear hs hg hx1 hx2 hne hle hbb
  go_wp2
  rw [← HBB.out]
  rw [← HBB.out] at HR HNE HLE
  clear hmk
  go_loopw [4] (fun i wr => ∃ (k : Nat) (f : Nat → UInt8), k ≤ m ∧ i = .int .i64 k ∧ wr.rowIs b 5 m (fun j => oct (f j)) ∧ b < wr.heap.size ∧ SrcAt wr B g ∧ w.grownBy wr (some g)) (fun i _ => m - (intOf i).toNat)
  case atStart => exact ⟨0, fun _ => 0, by omega, rfl, HR.out.congr (fun j hj => rfl), HSZ.out, HS.out, HG.out⟩
  case round =>
    obtain ⟨k, f, hk, rfl, hrow, hsz, hs, hg⟩ := hrel
    by_cases hlt : k < m
    · have HV := Lib.hid (n_any B g wr hs 3 (by omega) (by omega))
      have HRow := Lib.hid hrow
      have HSr := Lib.hid hs
      have HGr := Lib.hid hg
      clear hrow hs hg
      go_wp2_with fail
      refine HV.out.mono ?_
      rintro e w2 ⟨y, rfl, hy1, hy2, hs2, hg2⟩
      obtain ⟨z, rfl⟩ := Int.eq_ofNat_of_zero_le hy1
      have hz3 : (z : Int) ≤ 2 := by omega
      have HRow2 := Lib.hid (rowIs_grown HRow.out hg2 HNE.out hsz)
      have hsz2 : b < w2.heap.size := Nat.lt_of_lt_of_le hsz hg2.size
      have HS2 := Lib.hid hs2
      have HG2 := Lib.hid (HGr.out.trans hg2)
      have hcell := HRow2.out.cell (i := k) hlt
      have hfr := HRow2.out.frozen k
      have HO := Lib.hid (show oct (UInt8.ofNat (97 + z)) = .int .u8 (97 + (z : Int)) by rw [oct_mod]; congr 1; omega)
      clear hs2 hg2 hy1 hy2
      go_wp2
      go_roundw
      case rel =>
        refine ⟨k + 1, fun j => if j = k then UInt8.ofNat (97 + z) else f j, by omega, by go_num, (HRow2.out.set k _).congr (fun j hj => ?_), by simpa using hsz2, HS2.out.other (fun e => HNE.out e) (by have := HLE.out; have := HG0.out; have := HBg.out; simp; omega) _, only_set HG2.out (.inr HLE.out) _⟩
        by_cases e : j = k
        · subst e; simp only [if_true]; exact HO.out.symm
        · simp only [if_neg e]
      case measure => simp [intOf]; omega
    · obtain rfl : k = m := by omega
      have hb1 : Bs wr wr.heap.size (.slice (some ⟨b, 0, none⟩) k k) ((List.range k).map f) := Bs.of_row hrow hsz (by simp) (Nat.le_refl _) (by unfold maxLen; omega) (fun j hj => by simp)
      have hconv := run_convert_bs (P := Tryz.prog) wr 82 5 9 Tryz.underlying82 Tryz.underlying5 Tryz.underlying9 hb1
      have HSr := Lib.hid hs
      have HGr := Lib.hid hg
      clear hrow hs hg hb1
      go_wp2
      go_ret
      exact ⟨_, rfl, (by show (List.map f (List.range k)).toArray.size ≤ 3; simp; omega), HSr.out, HGr.out⟩
end Go.Proofs.YtjclhlejbidpgaaGreat
namespace Go.Proofs.YtjclhlejbidpgaaGreat
open Go.RowKit

theorem nat_i64 (a : Nat) (ha : a < 9223372036854775808) : (BitVec.ofInt 64 (a : Int)).toNat = a := by
  rw [BitVec.ofInt_natCast, BitVec.toNat_ofNat]; exact Nat.mod_eq_of_lt (by omega)
theorem nat_u32 (a : Nat) (ha : a < 4294967296) : (BitVec.ofInt 32 (a : Int)).toNat = a := by
  rw [BitVec.ofInt_natCast, BitVec.toNat_ofNat]; exact Nat.mod_eq_of_lt (by omega)
theorem xor_i64 (a b : Nat) (ha : a < 9223372036854775808) (hb : b < 9223372036854775808) : bits .xor .i64 (a : Int) (b : Int) = ((a ^^^ b : Nat) : Int) := by
  have hx : a ^^^ b < 2 ^ 63 := Nat.xor_lt_two_pow (by omega) (by omega)
  show IntKind.i64.wrap ((BitVec.ofInt 64 (a : Int) ^^^ BitVec.ofInt 64 (b : Int)).toNat : Int) = _
  rw [BitVec.toNat_xor, nat_i64 a ha, nat_i64 b hb, IntKind.wrap_i64]
  omega
theorem xor_u32 (a b : Nat) (ha : a < 4294967296) (hb : b < 4294967296) : bits .xor .u32 (a : Int) (b : Int) = ((a ^^^ b : Nat) : Int) := by
  have hx : a ^^^ b < 2 ^ 32 := Nat.xor_lt_two_pow (by omega) (by omega)
  show IntKind.u32.wrap ((BitVec.ofInt 32 (a : Int) ^^^ BitVec.ofInt 32 (b : Int)).toNat : Int) = _
  rw [BitVec.toNat_xor, nat_u32 a ha, nat_u32 b hb]
  unfold IntKind.wrap
  simp [IntKind.bits, IntKind.signed]
  omega
/-- '&' with a number of k ones. -/
theorem and_ones (n : Int) (k m : Nat) (hk : k ≤ 62) (hm : m = 2 ^ k - 1) : bits .and .i64 n m = n % 2 ^ k := by
  have hp : 2 ^ k ≤ 2 ^ 62 := Nat.pow_le_pow_right (by omega) hk
  have hp0 : 0 < 2 ^ k := Nat.pow_pos (by omega)
  have h3 : (BitVec.ofInt 64 (m : Int)).toNat = 2 ^ k - 1 := by rw [nat_i64 m (by omega), hm]
  have key : (BitVec.ofInt 64 n &&& BitVec.ofInt 64 (m : Int)).toNat = (n % ((2 ^ 64 : Nat) : Int)).toNat % 2 ^ k := by
    rw [BitVec.toNat_and, BitVec.toNat_ofInt, h3, Nat.and_two_pow_sub_one_eq_mod]
  show IntKind.i64.wrap ((BitVec.ofInt 64 n &&& BitVec.ofInt 64 (m : Int)).toNat : Nat) = n % 2 ^ k
  rw [key, IntKind.wrap_i64]
  have h1 : (n % ((2 ^ 64 : Nat) : Int)).toNat % 2 ^ k < 2 ^ k := Nat.mod_lt _ hp0
  have h2 : (((n % ((2 ^ 64 : Nat) : Int)).toNat % 2 ^ k : Nat) : Int) = n % 2 ^ k := by
    have hd : ((2 ^ k : Nat) : Int) ∣ ((2 ^ 64 : Nat) : Int) := Int.natCast_dvd_natCast.2 (Nat.pow_dvd_pow 2 (by omega))
    rw [Int.natCast_emod, Int.toNat_of_nonneg (by omega), Int.emod_emod_of_dvd n hd, Int.natCast_pow]
    rfl
  rw [← h2]
  omega
theorem and_ffff (n : Int) : bits .and .i64 n 65535 = n % 65536 := and_ones n 16 65535 (by omega) (by omega)
theorem and_ffffffff (n : Int) : bits .and .i64 n 4294967295 = n % 4294967296 := and_ones n 32 4294967295 (by omega) (by omega)

/-- The hash: its step, and the hash of a list. -/
def fst1 (h b : Nat) : Nat := (h ^^^ b) * 16777619 % 4294967296
def fnvOn (h : Nat) (bs : List UInt8) : Nat := bs.foldl (fun h b => fst1 h b.toNat) h
def fnv (bs : List UInt8) : Nat := fnvOn 2166136261 bs

theorem fst1_lt (h b : Nat) : fst1 h b < 4294967296 := Nat.mod_lt _ (by decide)
theorem fnvOn_lt (h : Nat) (bs : List UInt8) (hh : h < 4294967296) : fnvOn h bs < 4294967296 := by
  induction bs generalizing h with
  | nil => exact hh
  | cons b r ih => exact ih _ (fst1_lt _ _)
theorem fnv_lt (bs : List UInt8) : fnv bs < 4294967296 := fnvOn_lt _ _ (by decide)
theorem fnv_take (bs : List UInt8) (k : Nat) (h : k < bs.length) : fnv (bs.take (k + 1)) = fst1 (fnv (bs.take k)) bs[k].toNat := by
  unfold fnv fnvOn
  rw [List.take_succ_eq_append_getElem h, List.foldl_append, List.foldl_cons, List.foldl_nil]
end Go.Proofs.YtjclhlejbidpgaaGreat
