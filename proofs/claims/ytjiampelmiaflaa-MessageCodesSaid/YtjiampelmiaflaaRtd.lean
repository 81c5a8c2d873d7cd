/- What is proved here: (plain functions) routes. -/
import Derived.Test.YtjiampelmiaflaaFnv
import Derived.Test.YtjiampelmiaflaaBed
namespace Go.Proofs.Ytjiampelmiaflaa
open Go.RowKit
set_option linter.unusedVariables false

/-- Three numbers are routes. -/
def areB (a b c : Int) : Bool := decide ((0 ≤ a ∧ a ≤ 65535) ∧ (0 ≤ b ∧ b ≤ 65535) ∧ (0 ≤ c ∧ c ≤ 65535))

def nth3 (a b c : Int) : Nat → Int
  | 0 => a
  | 1 => b
  | _ => c

/-- What Into returns. -/
def intoF (r l h : Int) : Int := if areB r l h = true ∧ l ≤ h then (if l ≤ r ∧ r ≤ h then r else l + r % (h - l + 1)) else 0

theorem intoF_out (r l h : Int) (hb : r < 0 ∨ 65535 < r ∨ l < 0 ∨ 65535 < h ∨ h < l) : intoF r l h = 0 := by
  unfold intoF
  rw [if_neg]
  rintro ⟨h1, h2⟩
  obtain ⟨⟨r0, r1⟩, ⟨l0, l1⟩, ⟨h0, h1⟩⟩ := of_decide_eq_true h1
  omega

/-- What Route returns. -/
def rtx (h : Nat) : Nat := (h / 65536) ^^^ (h % 65536)

def rtF (id : Int) : Int := if 0 ≤ id ∧ id ≤ 1073741824 then (rtx (fnv (be 4 id.toNat)) : Int) else 0

theorem rtx_bits (h : Nat) (hh : h < 4294967296) : bits .xor .i64 ((h : Int) / 65536) ((h : Int) % 65536) = (rtx h : Int) := by
  have := xor_i64 (h / 65536) (h % 65536) (by omega) (by omega)
  unfold rtx
  rw [← this]
  congr 1

theorem rtx_lt (h : Nat) (hh : h < 4294967296) : rtx h < 65536 := Nat.xor_lt_two_pow (n := 16) (by omega) (by omega)

theorem rtF_lt (id : Int) : 0 ≤ rtF id ∧ rtF id ≤ 65535 := by
  by_cases h : 0 ≤ id ∧ id ≤ 1073741824
  · rw [show rtF id = (rtx (fnv (be 4 id.toNat)) : Int) from if_pos h]
    have := rtx_lt _ (fnv_lt (be 4 id.toNat))
    omega
  · rw [show rtF id = 0 from if_neg h]; omega
end Go.Proofs.Ytjiampelmiaflaa
