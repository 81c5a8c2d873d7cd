/- What is proved here: shardqueueref02.Sum returns the hash of the bytes. -/
import Derived.Test.YtjiampelmiaflaaBas
import Derived.Test.YtjiampelmiaflaaFnv
namespace Go.Proofs.Ytjiampelmiaflaa
open Go.RowKit
set_option linter.unusedVariables false

set_option maxRecDepth 20000 in
theorem rsum_any (A : Option Addr) (l c : Nat) (bs : List UInt8) (w : World) (hv : Bs w w.heap.size (.slice A l c) bs) (hl : bs.length ≤ 1099511627776) :
    Calls Try.prog 56 #[.slice A l c] w fun e w' => e = .returned (.int .i64 (fnv bs)) ∧ w = w' := by
  obtain ⟨rfl, hlc, hm⟩ := hv.len
  have hL : (bs.length : Int) ≤ 9223372036854775806 := by omega
  have HV := Lib.hid hv
  have HA := Lib.hid and_ffffffff
  clear hv hlc hm
  go_enter Try.func56, Try.ntmps56
  go_wp2
  go_loop [3, 4] (fun h i => ∃ k : Nat, k ≤ bs.length ∧ i = .int .i64 k ∧ h = .int .i64 (fnv (bs.take k))) (fun _ i => bs.length - (intOf i).toNat)
  case atStart => exact ⟨0, Nat.zero_le _, rfl, rfl⟩
  case round =>
    obtain ⟨k, hk, rfl, rfl⟩ := hrel
    by_cases hlt : k < bs.length
    · obtain ⟨b, o, rfl, _, hb, hc⟩ := HV.out.at_ hlt
      have HT := Lib.hid (fnv_take bs k hlt)
      obtain ⟨h, hh⟩ : ∃ h, h = fnv (bs.take k) := ⟨_, rfl⟩
      obtain ⟨y, hy⟩ : ∃ y, y = bs[k].toNat := ⟨_, rfl⟩
      have h32 : h < 4294967296 := by rw [hh]; exact fnv_lt _
      have y8 : y < 256 := by rw [hy]; exact UInt8.toNat_lt _
      have hx := xor_i64 h y (by omega) (by omega)
      have HX := Lib.hid (show fst1 h y = (h ^^^ y) * 16777619 % 4294967296 from rfl)
      obtain ⟨x, hx'⟩ : ∃ x, x = h ^^^ y := ⟨_, rfl⟩
      have x32 : x < 4294967296 := by rw [hx']; exact Nat.xor_lt_two_pow (n := 32) (by omega) (by omega)
      rw [← hx'] at hx HX
      rw [← hh, ← hy] at HT
      rw [← hy] at hc
      rw [← hh]
      have ha := and_ffffffff ((x : Int) * 16777619)
      have h32' : (h : Int) ≤ 4294967295 := by omega
      have y8' : (y : Int) ≤ 255 := by omega
      have x32' : (x : Int) ≤ 4294967295 := by omega
      clear hx' hh hy h32 y8 x32
      go_wp2
      go_round
      case rel => exact ⟨k + 1, by omega, by go_num, by rw [HT.out, HX.out]; go_num⟩
      case measure => simp [intOf]; omega
    · obtain rfl : k = bs.length := by omega
      go_wp2
      go_ret
      exact ⟨rfl, rfl⟩
end Go.Proofs.Ytjiampelmiaflaa
