/- What is proved here: (plain functions) the bytes of a message, and what is read of bytes. -/
import Derived.Test.YtjiampelmiaflaaMst
import Derived.Test.YtjiampelmiaflaaGrd
import Derived.Test.YtjiampelmiaflaaTxd
namespace Go.Proofs.Ytjiampelmiaflaa
open Go.RowKit
set_option linter.unusedVariables false

/-- The numbers of a message in their order. -/
def Msg.nth (M : Msg) : Nat → Int
  | 0 => M.id
  | 1 => M.rt
  | 2 => M.ep
  | 3 => M.ct
  | 4 => M.gn
  | _ => M.st
/-- The groups of the first k numbers. -/
def eb (M : Msg) : Nat → List UInt8
  | 0 => []
  | k + 1 => eb M k ++ groups 5 (M.nth k).toNat
/-- The bytes of a valid message. -/
def encB (M : Msg) : List UInt8 := eb M 6 ++ [UInt8.ofNat M.bd.size] ++ M.bd.data.toList
/-- What Encode returns. -/
def encF (M : Msg) : List UInt8 := if vf M = 0 then encB M else []

theorem nth_ok {M : Msg} (h : vf M = 0) (k : Nat) : 0 ≤ M.nth k ∧ M.nth k ≤ 1073741824 := by
  obtain ⟨h0, h1, h2, h3, h4, h5, _⟩ := vf_ok h
  unfold Msg.nth
  split <;> omega
theorem eb_length (M : Msg) : ∀ k, k ≤ (eb M k).length ∧ (eb M k).length ≤ 6 * k
  | 0 => by simp [eb]
  | k + 1 => by
    have h := eb_length M k
    have := groups_length 5 (M.nth k).toNat
    simp [eb]
    omega
theorem pv_eb {M : Msg} (h : vf M = 0) (k : Nat) : pvB (eb M k) (M.nth k) = eb M (k + 1) := by
  have := nth_ok h k
  unfold pvB
  rw [if_pos (by omega)]
  rfl
theorem px_enc {M : Msg} (h : vf M = 0) : pxB (eb M 6) M.bd 16 = encB M ∧ pxE M.bd 16 = 0 := by
  obtain ⟨_, _, _, _, _, _, h6⟩ := vf_ok h
  unfold pxB pxE
  rw [if_neg (by omega), if_neg (by omega), if_neg (by omega), if_neg (by omega)]
  exact ⟨rfl, rfl⟩
end Go.Proofs.Ytjiampelmiaflaa
