/- What is proved here: Body of the statements' base returns a short string; the hash of the document as a plain function of bytes, and the bit operations that its two programs use, as operations on natural numbers. No program is entered; (plain functions) routes; shardqueueref02.Into, by one contract for all arguments. -/
import Derived.Test.YtdilgeabcacbdaaGreatJ33
import Derived.Laws.BitsAllLaws
import Derived.Laws.BitsLemmas
import Derived.Below
import Derived.Test.YtdilgeabcacbdaaGreatJ01
namespace Go.Proofs.YtdilgeabcacbdaaGreat
open Go.RowKit
set_option linter.unusedVariables false

/-- A short body, made by a source. -/
def SrBody (B g : Nat) (w : World) (e : Ending) (w' : World) : Prop := ∃ s : ByteArray, e = .returned (.string s) ∧ s.size ≤ 3 ∧ SrcAt w' B g ∧ w.grownBy w' (some g)

theorem rowIs_grown {w w' : World} {b g : Nat} {t : TypeId} {n : Nat} {f : Nat → Value} (h : w.rowIs b t n f) (hg : w.grownBy w' (some g)) (hne : b ≠ g) (hb : b < w.heap.size) : w'.rowIs b t n f := by
  obtain ⟨c, h1, h2⟩ := h
  exact ⟨c, (hg.block b hb (fun e => hne (by injection e))).trans h1, h2⟩

set_option maxHeartbeats 2000000 in
set_option maxRecDepth 20000 in
theorem body_any (B g : Nat) (w : World) (h : SrcAt w B g) : Calls Tryz.prog 113 #[.pointer (some ⟨g, 0, none⟩)] w (SrBody B g w) := by
  have HC := Lib.hid (n_any B g w h 4 (by omega) (by omega))
  have HG0 := Lib.hid h.2.1
  have HBg := Lib.hid h.1
  clear h
  go_enter Tryz.func113, Tryz.ntmps113
  go_wp2_with fail
  refine HC.out.mono ?_
  rintro e w1 ⟨x, rfl, hx1, hx2, hs, hg⟩
  obtain ⟨m, rfl⟩ := Int.eq_ofNat_of_zero_le hx1
  have hm3 : (m : Int) ≤ 3 := by omega
  have hmk := run_make_row' (P := Tryz.prog) 124 5 (.int .u8 0) 1 Tryz.underlying124 info_u8 rfl .i64 .i64 m (by omega) (by omega) w1
  have HR := Lib.hid (World.rowIs_made w1 (.int .u8 0) m 5)
  have HS := Lib.hid (hs.alloc (.cells (madeCells #[.int .u8 0] m) 5))
  have HG := Lib.hid (only_alloc hg (.cells (madeCells #[.int .u8 0] m) 5))
  have hne : w1.heap.size ≠ g := by have := hs.2.1; omega
  have HNE := Lib.hid hne
  have hle : w.heap.size ≤ w1.heap.size := hg.size
  have HLE := Lib.hid hle
  obtain ⟨b, hbb⟩ : ∃ b, b = w1.heap.size := ⟨_, rfl⟩
  have HSZ := Lib.hid (show b < (w1.alloc (.cells (madeCells #[.int .u8 0] m) 5)).heap.size by simp [hbb])
  have HBB := Lib.hid hbb
  clear hs hg hx1 hx2 hne hle hbb
  go_wp2
  rw [← HBB.out]
  rw [← HBB.out] at HR HNE HLE
  clear hmk
  go_loopw [4] (fun i wr => ∃ (k : Nat) (f : Nat → UInt8), k ≤ m ∧ i = .int .i64 k ∧ wr.rowIs b 5 m (fun j => oct (f j)) ∧ b < wr.heap.size ∧ SrcAt wr B g ∧ w.grownBy wr (some g)) (fun i _ => m - (intOf i).toNat)
  case atStart => exact ⟨0, fun _ => 0, by omega, rfl, HR.out.congr (fun j hj => rfl), HSZ.out, HS.out, HG.out⟩
  case round =>
    obtain ⟨k, f, hk, rfl, hrow, hsz, hs, hg⟩ := hrel
    by_cases hlt : k < m
    · have HV := Lib.hid (n_any B g wr hs 3 (by omega) (by omega))
      have HRow := Lib.hid hrow
      have HSr := Lib.hid hs
      have HGr := Lib.hid hg
      clear hrow hs hg
      go_wp2_with fail
      refine HV.out.mono ?_
      rintro e w2 ⟨y, rfl, hy1, hy2, hs2, hg2⟩
      obtain ⟨z, rfl⟩ := Int.eq_ofNat_of_zero_le hy1
      have hz3 : (z : Int) ≤ 2 := by omega
      have HRow2 := Lib.hid (rowIs_grown HRow.out hg2 HNE.out hsz)
      have hsz2 : b < w2.heap.size := Nat.lt_of_lt_of_le hsz hg2.size
      have HS2 := Lib.hid hs2
      have HG2 := Lib.hid (HGr.out.trans hg2)
      have hcell := HRow2.out.cell (i := k) hlt
      have hfr := HRow2.out.frozen k
      have HO := Lib.hid (show oct (UInt8.ofNat (97 + z)) = .int .u8 (97 + (z : Int)) by rw [oct_mod]; congr 1; omega)
      clear hs2 hg2 hy1 hy2
      go_wp2
      go_roundw
      case rel =>
        refine ⟨k + 1, fun j => if j = k then UInt8.ofNat (97 + z) else f j, by omega, by go_num, (HRow2.out.set k _).congr (fun j hj => ?_), by simpa using hsz2, HS2.out.other (fun e => HNE.out e) (by have := HLE.out; have := HG0.out; have := HBg.out; simp; omega) _, only_set HG2.out (.inr HLE.out) _⟩
        by_cases e : j = k
        · subst e; simp only [if_true]; exact HO.out.symm
        · simp only [if_neg e]
      case measure => simp [intOf]; omega
    · obtain rfl : k = m := by omega
      have hb1 : Bs wr wr.heap.size (.slice (some ⟨b, 0, none⟩) k k) ((List.range k).map f) := Bs.of_row hrow hsz (by simp) (Nat.le_refl _) (by unfold maxLen; omega) (fun j hj => by simp)
      have hconv := run_convert_bs (P := Tryz.prog) wr 124 5 9 Tryz.underlying124 Tryz.underlying5 Tryz.underlying9 hb1
      have HSr := Lib.hid hs
      have HGr := Lib.hid hg
      clear hrow hs hg hb1
      go_wp2
      go_ret
      exact ⟨_, rfl, (by show (List.map f (List.range k)).toArray.size ≤ 3; simp; omega), HSr.out, HGr.out⟩
end Go.Proofs.YtdilgeabcacbdaaGreat
namespace Go.Proofs.YtdilgeabcacbdaaGreat
open Go.RowKit

theorem nat_i64 (a : Nat) (ha : a < 9223372036854775808) : (BitVec.ofInt 64 (a : Int)).toNat = a := by
  rw [BitVec.ofInt_natCast, BitVec.toNat_ofNat]; exact Nat.mod_eq_of_lt (by omega)
theorem xor_i64 (a b : Nat) (ha : a < 9223372036854775808) (hb : b < 9223372036854775808) : bits .xor .i64 (a : Int) (b : Int) = ((a ^^^ b : Nat) : Int) := by
  have hx : a ^^^ b < 2 ^ 63 := Nat.xor_lt_two_pow (by omega) (by omega)
  show IntKind.i64.wrap ((BitVec.ofInt 64 (a : Int) ^^^ BitVec.ofInt 64 (b : Int)).toNat : Int) = _
  rw [BitVec.toNat_xor, nat_i64 a ha, nat_i64 b hb, IntKind.wrap_i64]
  omega
/-- '&' with a number of k ones. -/
theorem and_ones (n : Int) (k m : Nat) (hk : k ≤ 62) (hm : m = 2 ^ k - 1) : bits .and .i64 n m = n % 2 ^ k := by
  have hp : 2 ^ k ≤ 2 ^ 62 := Nat.pow_le_pow_right (by omega) hk
  have hp0 : 0 < 2 ^ k := Nat.pow_pos (by omega)
  have h3 : (BitVec.ofInt 64 (m : Int)).toNat = 2 ^ k - 1 := by rw [nat_i64 m (by omega), hm]
  have key : (BitVec.ofInt 64 n &&& BitVec.ofInt 64 (m : Int)).toNat = (n % ((2 ^ 64 : Nat) : Int)).toNat % 2 ^ k := by
    rw [BitVec.toNat_and, BitVec.toNat_ofInt, h3, Nat.and_two_pow_sub_one_eq_mod]
  show IntKind.i64.wrap ((BitVec.ofInt 64 n &&& BitVec.ofInt 64 (m : Int)).toNat : Nat) = n % 2 ^ k
  rw [key, IntKind.wrap_i64]
  have h1 : (n % ((2 ^ 64 : Nat) : Int)).toNat % 2 ^ k < 2 ^ k := Nat.mod_lt _ hp0
  have h2 : (((n % ((2 ^ 64 : Nat) : Int)).toNat % 2 ^ k : Nat) : Int) = n % 2 ^ k := by
    have hd : ((2 ^ k : Nat) : Int) ∣ ((2 ^ 64 : Nat) : Int) := Int.natCast_dvd_natCast.2 (Nat.pow_dvd_pow 2 (by omega))
    rw [Int.natCast_emod, Int.toNat_of_nonneg (by omega), Int.emod_emod_of_dvd n hd, Int.natCast_pow]
    rfl
  rw [← h2]
  omega
theorem and_ffff (n : Int) : bits .and .i64 n 65535 = n % 65536 := and_ones n 16 65535 (by omega) (by omega)
theorem and_ffffffff (n : Int) : bits .and .i64 n 4294967295 = n % 4294967296 := and_ones n 32 4294967295 (by omega) (by omega)

/-- The hash: its step, and the hash of a list. -/
def fst1 (h b : Nat) : Nat := (h ^^^ b) * 16777619 % 4294967296
def fnvOn (h : Nat) (bs : List UInt8) : Nat := bs.foldl (fun h b => fst1 h b.toNat) h
def fnv (bs : List UInt8) : Nat := fnvOn 2166136261 bs

theorem fst1_lt (h b : Nat) : fst1 h b < 4294967296 := Nat.mod_lt _ (by decide)
theorem fnvOn_lt (h : Nat) (bs : List UInt8) (hh : h < 4294967296) : fnvOn h bs < 4294967296 := by
  induction bs generalizing h with
  | nil => exact hh
  | cons b r ih => exact ih _ (fst1_lt _ _)
theorem fnv_lt (bs : List UInt8) : fnv bs < 4294967296 := fnvOn_lt _ _ (by decide)
theorem fnv_take (bs : List UInt8) (k : Nat) (h : k < bs.length) : fnv (bs.take (k + 1)) = fst1 (fnv (bs.take k)) bs[k].toNat := by
  unfold fnv fnvOn
  rw [List.take_succ_eq_append_getElem h, List.foldl_append, List.foldl_cons, List.foldl_nil]
end Go.Proofs.YtdilgeabcacbdaaGreat
namespace Go.Proofs.YtdilgeabcacbdaaGreat
open Go.RowKit
set_option linter.unusedVariables false

/-- Three numbers are routes. -/
def areB (a b c : Int) : Bool := decide ((0 ≤ a ∧ a ≤ 65535) ∧ (0 ≤ b ∧ b ≤ 65535) ∧ (0 ≤ c ∧ c ≤ 65535))

/-- What Into returns. -/
def intoF (r l h : Int) : Int := if areB r l h = true ∧ l ≤ h then (if l ≤ r ∧ r ≤ h then r else l + r % (h - l + 1)) else 0

theorem intoF_out (r l h : Int) (hb : r < 0 ∨ 65535 < r ∨ l < 0 ∨ 65535 < h ∨ h < l) : intoF r l h = 0 := by
  unfold intoF
  rw [if_neg]
  rintro ⟨h1, h2⟩
  obtain ⟨⟨r0, r1⟩, ⟨l0, l1⟩, ⟨h0, h1⟩⟩ := of_decide_eq_true h1
  omega

/-- What Route returns. -/
def rtx (h : Nat) : Nat := (h / 65536) ^^^ (h % 65536)

def rtF (id : Int) : Int := if 0 ≤ id ∧ id ≤ 1073741824 then (rtx (fnv (be 4 id.toNat)) : Int) else 0

theorem rtx_bits (h : Nat) (hh : h < 4294967296) : bits .xor .i64 ((h : Int) / 65536) ((h : Int) % 65536) = (rtx h : Int) := by
  have := xor_i64 (h / 65536) (h % 65536) (by omega) (by omega)
  unfold rtx
  rw [← this]
  congr 1

theorem rtx_lt (h : Nat) (hh : h < 4294967296) : rtx h < 65536 := Nat.xor_lt_two_pow (n := 16) (by omega) (by omega)

theorem rtF_lt (id : Int) : 0 ≤ rtF id ∧ rtF id ≤ 65535 := by
  by_cases h : 0 ≤ id ∧ id ≤ 1073741824
  · rw [show rtF id = (rtx (fnv (be 4 id.toNat)) : Int) from if_pos h]
    have := rtx_lt _ (fnv_lt (be 4 id.toNat))
    omega
  · rw [show rtF id = 0 from if_neg h]; omega
end Go.Proofs.YtdilgeabcacbdaaGreat
namespace Go.Proofs.YtdilgeabcacbdaaGreat
open Go.RowKit
set_option linter.unusedVariables false

theorem rinto_out (r l h : Int) (w : World) (hb : r < 0 ∨ 65535 < r ∨ l < 0 ∨ 65535 < h ∨ h < l) :
    Calls Tryz.prog 111 #[.int .i64 r, .int .i64 l, .int .i64 h] w fun e w' => e = .returned (.int .i64 0) ∧ w = w' := by
  by_cases b0 : r < 0
  · clear hb
    go_enter Tryz.func111, Tryz.ntmps111
    go_wp2
    go_ret
    exact ⟨rfl, rfl⟩
  by_cases b1 : 65535 < r
  · clear hb
    go_enter Tryz.func111, Tryz.ntmps111
    go_wp2
    go_ret
    exact ⟨rfl, rfl⟩
  by_cases b2 : l < 0
  · clear hb
    go_enter Tryz.func111, Tryz.ntmps111
    go_wp2
    go_ret
    exact ⟨rfl, rfl⟩
  by_cases b3 : 65535 < h
  · clear hb
    go_enter Tryz.func111, Tryz.ntmps111
    go_wp2
    go_ret
    exact ⟨rfl, rfl⟩
  have b4 : h < l := by omega
  clear hb
  go_enter Tryz.func111, Tryz.ntmps111
  go_wp2
  go_ret
  exact ⟨rfl, rfl⟩

set_option maxHeartbeats 1000000 in
theorem rinto_any (r l h : Int) (w : World) :
    Calls Tryz.prog 111 #[.int .i64 r, .int .i64 l, .int .i64 h] w fun e w' => e = .returned (.int .i64 (intoF r l h)) ∧ w = w' := by
  by_cases hb : r < 0 ∨ 65535 < r ∨ l < 0 ∨ 65535 < h ∨ h < l
  · rw [intoF_out r l h hb]; exact rinto_out r l h w hb
  · have r0 : 0 ≤ r := by omega
    have r1 : r ≤ 65535 := by omega
    have l0 : 0 ≤ l := by omega
    have h1 : h ≤ 65535 := by omega
    have lh : l ≤ h := by omega
    have hA : areB r l h = true := decide_eq_true ⟨⟨r0, r1⟩, ⟨l0, by omega⟩, ⟨by omega, h1⟩⟩
    clear hb
    by_cases hin : l ≤ r ∧ r ≤ h
    · have HF := Lib.hid (show intoF r l h = r by unfold intoF; rw [if_pos ⟨hA, by omega⟩, if_pos hin])
      obtain ⟨g0, g1⟩ := hin
      clear hA
      go_enter Tryz.func111, Tryz.ntmps111
      go_wp2
      go_ret
      exact ⟨by rw [HF.out]; rfl, rfl⟩
    · have HF := Lib.hid (show intoF r l h = l + r % (h - l + 1) by unfold intoF; rw [if_pos ⟨hA, by omega⟩, if_neg hin])
      clear hA
      have hm0 : 0 ≤ r % (h - l + 1) := Int.emod_nonneg _ (by omega)
      have hm1 : r % (h - l + 1) < h - l + 1 := Int.emod_lt_of_pos _ (by omega)
      by_cases hlr : l ≤ r
      · have hrh : ¬ r ≤ h := fun g => hin ⟨hlr, g⟩
        clear hin
        go_enter Tryz.func111, Tryz.ntmps111
        go_wp2
        go_ret
        exact ⟨by rw [HF.out]; rfl, rfl⟩
      · clear hin
        go_enter Tryz.func111, Tryz.ntmps111
        go_wp2
        go_ret
        exact ⟨by rw [HF.out]; rfl, rfl⟩
end Go.Proofs.YtdilgeabcacbdaaGreat
