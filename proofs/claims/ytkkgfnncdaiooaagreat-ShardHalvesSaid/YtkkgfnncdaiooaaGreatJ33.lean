/- What is proved here: Body of the statements' base returns a short string; (plain functions) routes; shardqueueref02.Into, by one contract for all arguments; shardqueueref02.Sum returns the hash of the bytes. -/
import Derived.Test.YtkkgfnncdaiooaaGreatJ32
import Derived.Test.YtkkgfnncdaiooaaGreatJ31
import Derived.Test.YtkkgfnncdaiooaaGreatJ01
namespace Go.Proofs.YtkkgfnncdaiooaaGreat
open Go.RowKit
set_option linter.unusedVariables false

def SrBody (B g : Nat) (w : World) (e : Ending) (w' : World) : Prop := ∃ s : ByteArray, e = .returned (.string s) ∧ s.size ≤ 3 ∧ SrcAt w' B g ∧ w.grownBy w' (some g)

theorem rowIs_grown {w w' : World} {b g : Nat} {t : TypeId} {n : Nat} {f : Nat → Value} (h : w.rowIs b t n f) (hg : w.grownBy w' (some g)) (hne : b ≠ g) (hb : b < w.heap.size) : w'.rowIs b t n f := by
  obtain ⟨c, h1, h2⟩ := h
  exact ⟨c, (hg.block b hb (fun e => hne (by injection e))).trans h1, h2⟩

set_option maxHeartbeats 2000000 in
set_option maxRecDepth 20000 in
theorem body_any (B g : Nat) (w : World) (h : SrcAt w B g) : Calls Tryz.prog 75 #[.pointer (some ⟨g, 0, none⟩)] w (SrBody B g w) := by
  have HC := Lib.hid (n_any B g w h 4 (by omega) (by omega))
  have HG0 := Lib.hid h.2.1
  have HBg := Lib.hid h.1
  clear h
  go_enter Tryz.func75, Tryz.ntmps75
  go_wp2_with fail
  refine HC.out.mono ?_
  rintro e w1 ⟨x, rfl, hx1, hx2, hs, hg⟩
  obtain ⟨m, rfl⟩ := Int.eq_ofNat_of_zero_le hx1
  have hm3 : (m : Int) ≤ 3 := by omega
  have hmk := run_make_row' (P := Tryz.prog) 146 5 (.int .u8 0) 1 Tryz.underlying146 info_u8 rfl .i64 .i64 m (by omega) (by omega) w1
  have HR := Lib.hid (World.rowIs_made w1 (.int .u8 0) m 5)
  have HS := Lib.hid (hs.alloc (.cells (madeCells #[.int .u8 0] m) 5))
  have HG := Lib.hid (only_alloc hg (.cells (madeCells #[.int .u8 0] m) 5))
  have hne : w1.heap.size ≠ g := by have := hs.2.1; omega
  have HNE := Lib.hid hne
  have hle : w.heap.size ≤ w1.heap.size := hg.size
  have HLE := Lib.hid hle
  obtain ⟨b, hbb⟩ : ∃ b, b = w1.heap.size := ⟨_, rfl⟩
  have HSZ := Lib.hid (show b < (w1.alloc (.cells (madeCells #[.int .u8 0] m) 5)).heap.size by simp [hbb])
  have HBB := Lib.hid hbb
  clear hs hg hx1 hx2 hne hle hbb
  go_wp2
  rw [← HBB.out]
  rw [← HBB.out] at HR HNE HLE
  clear hmk
  go_loopw [4] (fun i wr => ∃ (k : Nat) (f : Nat → UInt8), k ≤ m ∧ i = .int .i64 k ∧ wr.rowIs b 5 m (fun j => oct (f j)) ∧ b < wr.heap.size ∧ SrcAt wr B g ∧ w.grownBy wr (some g)) (fun i _ => m - (intOf i).toNat)
  case atStart => exact ⟨0, fun _ => 0, by omega, rfl, HR.out.congr (fun j hj => rfl), HSZ.out, HS.out, HG.out⟩
  case round =>
    obtain ⟨k, f, hk, rfl, hrow, hsz, hs, hg⟩ := hrel
    by_cases hlt : k < m
    · have HV := Lib.hid (n_any B g wr hs 3 (by omega) (by omega))
      have HRow := Lib.hid hrow
      have HSr := Lib.hid hs
      have HGr := Lib.hid hg
      clear hrow hs hg
      go_wp2_with fail
      refine HV.out.mono ?_
      rintro e w2 ⟨y, rfl, hy1, hy2, hs2, hg2⟩
      obtain ⟨z, rfl⟩ := Int.eq_ofNat_of_zero_le hy1
      have hz3 : (z : Int) ≤ 2 := by omega
      have HRow2 := Lib.hid (rowIs_grown HRow.out hg2 HNE.out hsz)
      have hsz2 : b < w2.heap.size := Nat.lt_of_lt_of_le hsz hg2.size
      have HS2 := Lib.hid hs2
      have HG2 := Lib.hid (HGr.out.trans hg2)
      have hcell := HRow2.out.cell (i := k) hlt
      have hfr := HRow2.out.frozen k
      have HO := Lib.hid (show oct (UInt8.ofNat (97 + z)) = .int .u8 (97 + (z : Int)) by rw [oct_mod]; congr 1; omega)
      clear hs2 hg2 hy1 hy2
      go_wp2
      go_roundw
      case rel =>
        refine ⟨k + 1, fun j => if j = k then UInt8.ofNat (97 + z) else f j, by omega, by go_num, (HRow2.out.set k _).congr (fun j hj => ?_), by simpa using hsz2, HS2.out.other (fun e => HNE.out e) (by have := HLE.out; have := HG0.out; have := HBg.out; simp; omega) _, only_set HG2.out (.inr HLE.out) _⟩
        by_cases e : j = k
        · subst e; simp only [if_true]; exact HO.out.symm
        · simp only [if_neg e]
      case measure => simp [intOf]; omega
    · obtain rfl : k = m := by omega
      have hb1 : Bs wr wr.heap.size (.slice (some ⟨b, 0, none⟩) k k) ((List.range k).map f) := Bs.of_row hrow hsz (by simp) (Nat.le_refl _) (by unfold maxLen; omega) (fun j hj => by simp)
      have hconv := run_convert_bs (P := Tryz.prog) wr 146 5 9 Tryz.underlying146 Tryz.underlying5 Tryz.underlying9 hb1
      have HSr := Lib.hid hs
      have HGr := Lib.hid hg
      clear hrow hs hg hb1
      go_wp2
      go_ret
      exact ⟨_, rfl, (by show (List.map f (List.range k)).toArray.size ≤ 3; simp; omega), HSr.out, HGr.out⟩
end Go.Proofs.YtkkgfnncdaiooaaGreat
namespace Go.Proofs.YtkkgfnncdaiooaaGreat
open Go.RowKit
set_option linter.unusedVariables false

def areB (a b c : Int) : Bool := decide ((0 ≤ a ∧ a ≤ 65535) ∧ (0 ≤ b ∧ b ≤ 65535) ∧ (0 ≤ c ∧ c ≤ 65535))

def nth3 (a b c : Int) : Nat → Int
  | 0 => a
  | 1 => b
  | _ => c

def intoF (r l h : Int) : Int := if areB r l h = true ∧ l ≤ h then (if l ≤ r ∧ r ≤ h then r else l + r % (h - l + 1)) else 0

theorem intoF_out (r l h : Int) (hb : r < 0 ∨ 65535 < r ∨ l < 0 ∨ 65535 < h ∨ h < l) : intoF r l h = 0 := by
  unfold intoF
  rw [if_neg]
  rintro ⟨h1, h2⟩
  obtain ⟨⟨r0, r1⟩, ⟨l0, l1⟩, ⟨h0, h1⟩⟩ := of_decide_eq_true h1
  omega

def rtx (h : Nat) : Nat := (h / 65536) ^^^ (h % 65536)

def rtF (id : Int) : Int := if 0 ≤ id ∧ id ≤ 1073741824 then (rtx (fnv (be 4 id.toNat)) : Int) else 0

theorem rtx_bits (h : Nat) (hh : h < 4294967296) : bits .xor .i64 ((h : Int) / 65536) ((h : Int) % 65536) = (rtx h : Int) := by
  have := xor_i64 (h / 65536) (h % 65536) (by omega) (by omega)
  unfold rtx
  rw [← this]
  congr 1

theorem rtx_lt (h : Nat) (hh : h < 4294967296) : rtx h < 65536 := Nat.xor_lt_two_pow (n := 16) (by omega) (by omega)

theorem rtF_lt (id : Int) : 0 ≤ rtF id ∧ rtF id ≤ 65535 := by
  by_cases h : 0 ≤ id ∧ id ≤ 1073741824
  · rw [show rtF id = (rtx (fnv (be 4 id.toNat)) : Int) from if_pos h]
    have := rtx_lt _ (fnv_lt (be 4 id.toNat))
    omega
  · rw [show rtF id = 0 from if_neg h]; omega
end Go.Proofs.YtkkgfnncdaiooaaGreat
namespace Go.Proofs.YtkkgfnncdaiooaaGreat
open Go.RowKit
set_option linter.unusedVariables false

theorem rinto_out (r l h : Int) (w : World) (hb : r < 0 ∨ 65535 < r ∨ l < 0 ∨ 65535 < h ∨ h < l) :
    Calls Tryz.prog 76 #[.int .i64 r, .int .i64 l, .int .i64 h] w fun e w' => e = .returned (.int .i64 0) ∧ w = w' := by
  by_cases b0 : r < 0
  · clear hb
    go_enter Tryz.func76, Tryz.ntmps76
    go_wp2
    go_ret
    exact ⟨rfl, rfl⟩
  by_cases b1 : 65535 < r
  · clear hb
    go_enter Tryz.func76, Tryz.ntmps76
    go_wp2
    go_ret
    exact ⟨rfl, rfl⟩
  by_cases b2 : l < 0
  · clear hb
    go_enter Tryz.func76, Tryz.ntmps76
    go_wp2
    go_ret
    exact ⟨rfl, rfl⟩
  by_cases b3 : 65535 < h
  · clear hb
    go_enter Tryz.func76, Tryz.ntmps76
    go_wp2
    go_ret
    exact ⟨rfl, rfl⟩
  have b4 : h < l := by omega
  clear hb
  go_enter Tryz.func76, Tryz.ntmps76
  go_wp2
  go_ret
  exact ⟨rfl, rfl⟩

set_option maxHeartbeats 1000000 in
theorem rinto_any (r l h : Int) (w : World) :
    Calls Tryz.prog 76 #[.int .i64 r, .int .i64 l, .int .i64 h] w fun e w' => e = .returned (.int .i64 (intoF r l h)) ∧ w = w' := by
  by_cases hb : r < 0 ∨ 65535 < r ∨ l < 0 ∨ 65535 < h ∨ h < l
  · rw [intoF_out r l h hb]; exact rinto_out r l h w hb
  · have r0 : 0 ≤ r := by omega
    have r1 : r ≤ 65535 := by omega
    have l0 : 0 ≤ l := by omega
    have h1 : h ≤ 65535 := by omega
    have lh : l ≤ h := by omega
    have hA : areB r l h = true := decide_eq_true ⟨⟨r0, r1⟩, ⟨l0, by omega⟩, ⟨by omega, h1⟩⟩
    clear hb
    by_cases hin : l ≤ r ∧ r ≤ h
    · have HF := Lib.hid (show intoF r l h = r by unfold intoF; rw [if_pos ⟨hA, by omega⟩, if_pos hin])
      obtain ⟨g0, g1⟩ := hin
      clear hA
      go_enter Tryz.func76, Tryz.ntmps76
      go_wp2
      go_ret
      exact ⟨by rw [HF.out]; rfl, rfl⟩
    · have HF := Lib.hid (show intoF r l h = l + r % (h - l + 1) by unfold intoF; rw [if_pos ⟨hA, by omega⟩, if_neg hin])
      clear hA
      have hm0 : 0 ≤ r % (h - l + 1) := Int.emod_nonneg _ (by omega)
      have hm1 : r % (h - l + 1) < h - l + 1 := Int.emod_lt_of_pos _ (by omega)
      by_cases hlr : l ≤ r
      · have hrh : ¬ r ≤ h := fun g => hin ⟨hlr, g⟩
        clear hin
        go_enter Tryz.func76, Tryz.ntmps76
        go_wp2
        go_ret
        exact ⟨by rw [HF.out]; rfl, rfl⟩
      · clear hin
        go_enter Tryz.func76, Tryz.ntmps76
        go_wp2
        go_ret
        exact ⟨by rw [HF.out]; rfl, rfl⟩
end Go.Proofs.YtkkgfnncdaiooaaGreat
namespace Go.Proofs.YtkkgfnncdaiooaaGreat
open Go.RowKit
set_option linter.unusedVariables false

set_option maxRecDepth 20000 in
theorem rsum_any (A : Option Addr) (l c : Nat) (bs : List UInt8) (w : World) (hv : Bs w w.heap.size (.slice A l c) bs) (hl : bs.length ≤ 1099511627776) :
    Calls Tryz.prog 136 #[.slice A l c] w fun e w' => e = .returned (.int .i64 (fnv bs)) ∧ w = w' := by
  obtain ⟨rfl, hlc, hm⟩ := hv.len
  have hL : (bs.length : Int) ≤ 9223372036854775806 := by omega
  have HV := Lib.hid hv
  have HA := Lib.hid and_ffffffff
  clear hv hlc hm
  go_enter Tryz.func136, Tryz.ntmps136
  go_wp2
  go_loop [3, 4] (fun h i => ∃ k : Nat, k ≤ bs.length ∧ i = .int .i64 k ∧ h = .int .i64 (fnv (bs.take k))) (fun _ i => bs.length - (intOf i).toNat)
  case atStart => exact ⟨0, Nat.zero_le _, rfl, rfl⟩
  case round =>
    obtain ⟨k, hk, rfl, rfl⟩ := hrel
    by_cases hlt : k < bs.length
    · obtain ⟨b, o, rfl, _, hb, hc⟩ := HV.out.at_ hlt
      have HT := Lib.hid (fnv_take bs k hlt)
      obtain ⟨h, hh⟩ : ∃ h, h = fnv (bs.take k) := ⟨_, rfl⟩
      obtain ⟨y, hy⟩ : ∃ y, y = bs[k].toNat := ⟨_, rfl⟩
      have h32 : h < 4294967296 := by rw [hh]; exact fnv_lt _
      have y8 : y < 256 := by rw [hy]; exact UInt8.toNat_lt _
      have hx := xor_i64 h y (by omega) (by omega)
      have HX := Lib.hid (show fst1 h y = (h ^^^ y) * 16777619 % 4294967296 from rfl)
      obtain ⟨x, hx'⟩ : ∃ x, x = h ^^^ y := ⟨_, rfl⟩
      have x32 : x < 4294967296 := by rw [hx']; exact Nat.xor_lt_two_pow (n := 32) (by omega) (by omega)
      rw [← hx'] at hx HX
      rw [← hh, ← hy] at HT
      rw [← hy] at hc
      rw [← hh]
      have ha := and_ffffffff ((x : Int) * 16777619)
      have h32' : (h : Int) ≤ 4294967295 := by omega
      have y8' : (y : Int) ≤ 255 := by omega
      have x32' : (x : Int) ≤ 4294967295 := by omega
      clear hx' hh hy h32 y8 x32
      go_wp2
      go_round
      case rel => exact ⟨k + 1, by omega, by go_num, by rw [HT.out, HX.out]; go_num⟩
      case measure => simp [intOf]; omega
    · obtain rfl : k = bs.length := by omega
      go_wp2
      go_ret
      exact ⟨rfl, rfl⟩
end Go.Proofs.YtkkgfnncdaiooaaGreat
