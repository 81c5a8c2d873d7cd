/- What is proved here: Raw, N, Range, Pick of the statements' base: what they return and what they turn. -/
import Derived.Test.YtjiampelmiaflaaSrd
import Derived.Test.YtjiampelmiaflaaBas
import Derived.Deep.QuietTactic
import Derived.BigQuiet
import Derived.IntWalk
namespace Go.Proofs.Ytjiampelmiaflaa
open Go.RowKit
set_option linter.unusedVariables false

set_option maxHeartbeats 2000000 in
set_option maxRecDepth 20000 in
theorem raw_any (B g : Nat) (w : World) (h : SrcAt w B g) : Calls Try.prog 48 #[.pointer (some ⟨g, 0, none⟩)] w (SrInt B g (-9223372036854775808) 9223372036854775807 w) := by
  have H := Lib.hid h
  obtain ⟨hB, hg, A, n, c, k, zs, a1, a2, a3, a4, a5, a6, a7, a8, a9⟩ := h
  have HA := Lib.hid a8
  have HZ := Lib.hid a9
  have a2' : (n : Int) ≤ 4000 := by omega
  clear hB hg a2 a3 a4 a8 a9
  by_cases hk : k < n
  · have hk' : ¬ ((n : Int) ≤ (k : Int)) := by omega
    have hd : decide ((n : Int) ≤ (k : Int)) = false := decide_eq_false hk'
    obtain ⟨b, o, rfl, hb, hcell⟩ := HA.out.2 (by omega)
    have hzl : k < zs.length := by have := HA.out.1; simp at this; omega
    have hz := HZ.out zs[k] (List.getElem_mem hzl)
    have hcz := hcell k (i64v zs[k]) (by simp [hzl])
    unfold i64v at hcz
    generalize zs[k] = z at *
    have HZ2 := Lib.hid hz
    have hne1 : b ≠ g := by have := H.out.1; omega
    have hne2 : g ≠ b := fun e => hne1 e.symm
    have hk63 : (k : Int) < (n : Int) := by omega
    have hk0 : (0 : Int) ≤ (k : Int) := Int.natCast_nonneg _
    have hs : IntKind.i64.wrap ((k : Int) + 1 - 1) = k := by rw [IntWalk.i64_in _ (by omega)]; omega
    clear hcell hzl hz
    go_enter Try.func48, Try.ntmps48
    go_wp2
    go_quiet (fail)
    go_wp2
    go_quiet (fail)
    go_wp2
    go_ret
    exact ⟨z, rfl, HZ2.out.1, HZ2.out.2, ((H.out.drewN _).next a5 a6 (by omega)).drewN _, only_drewN (only_set (only_drewN (World.grownBy.refl _ _) _) (.inl rfl) _) _⟩
  · have hk' : (n : Int) ≤ (k : Int) := by omega
    have hd : decide ((n : Int) ≤ (k : Int)) = true := decide_eq_true hk'
    go_enter Try.func48, Try.ntmps48
    go_wp2
    go_quiet (fail)
    go_wp2
    go_ret
    exact ⟨0, rfl, by omega, by omega, H.out.drewN _, only_drewN (World.grownBy.refl _ _) _⟩

theorem tmod_gt (x n : Int) (h : 0 < n) : -n < x.tmod n := by
  have h1 := Int.tmod_lt_of_pos (-x) h
  rw [Int.neg_tmod] at h1
  omega

set_option maxHeartbeats 2000000 in
theorem n_any (B g : Nat) (w : World) (h : SrcAt w B g) (n : Int) (h1 : 1 ≤ n) (h2 : n ≤ 1073741824) : Calls Try.prog 32 #[.pointer (some ⟨g, 0, none⟩), .int .i64 n] w (SrInt B g 0 (n - 1) w) := by
  have HC := Lib.hid (raw_any B g w h)
  clear h
  go_enter Try.func32, Try.ntmps32
  go_wp2_with fail
  refine HC.out.mono ?_
  rintro e w1 ⟨x, rfl, hx1, hx2, hs, hg⟩
  have HS := Lib.hid hs
  have HG := Lib.hid hg
  have hr1 : x.tmod n < n := Int.tmod_lt_of_pos x (by omega)
  have hr2 : -n < x.tmod n := tmod_gt x n (by omega)
  clear hs hg
  by_cases hr : x.tmod n < 0
  · go_wp2
    go_ret
    exact ⟨x.tmod n + n, rfl, by omega, by omega, HS.out, HG.out⟩
  · go_wp2
    go_ret
    exact ⟨x.tmod n, rfl, by omega, by omega, HS.out, HG.out⟩

set_option maxHeartbeats 2000000 in
theorem range_any (B g : Nat) (w : World) (h : SrcAt w B g) (lo hi : Int) (h0 : 0 ≤ lo) (h1 : lo ≤ hi) (h2 : hi ≤ 1073741823) : Calls Try.prog 28 #[.pointer (some ⟨g, 0, none⟩), .int .i64 lo, .int .i64 hi] w (SrInt B g lo hi w) := by
  have HC := Lib.hid (n_any B g w h (hi - lo + 1) (by omega) (by omega))
  clear h
  go_enter Try.func28, Try.ntmps28
  go_wp2_with fail
  refine HC.out.mono ?_
  rintro e w1 ⟨x, rfl, hx1, hx2, hs, hg⟩
  have HS := Lib.hid hs
  have HG := Lib.hid hg
  clear hs hg
  go_wp2
  go_ret
  exact ⟨lo + x, rfl, by omega, by omega, HS.out, HG.out⟩

/-- A number of a row, taken by a source. -/
def SrPick (B g : Nat) (zs : List Int) (w : World) (e : Ending) (w' : World) : Prop := ∃ x, e = .returned (.int .i64 x) ∧ x ∈ zs ∧ SrcAt w' B g ∧ w.grownBy w' (some g)

set_option maxHeartbeats 2000000 in
theorem pick_any (B g : Nat) (w : World) (h : SrcAt w B g) (b n : Nat) (zs : List Int) (hn : n = zs.length) (hb : b < w.heap.size) (hne : b ≠ g) (h1 : 1 ≤ n) (h2 : n ≤ 1000) (hc : ∀ j (hj : j < zs.length), w.cell? ⟨b, j, none⟩ = some (.int .i64 zs[j])) :
    Calls Try.prog 38 #[.pointer (some ⟨g, 0, none⟩), .slice (some ⟨b, 0, none⟩) n n] w (SrPick B g zs w) := by
  have HC := Lib.hid (n_any B g w h n (by omega) (by omega))
  have HR := Lib.hid hc
  have HN := Lib.hid hn
  have h2' : (n : Int) ≤ 1000 := by omega
  have HB := Lib.hid hb
  have HE := Lib.hid hne
  clear h hc hn h2 hb hne
  go_enter Try.func38, Try.ntmps38
  go_wp2_with fail
  refine HC.out.mono ?_
  rintro e w1 ⟨x, rfl, hx1, hx2, hs, hg⟩
  obtain ⟨k, rfl⟩ := Int.eq_ofNat_of_zero_le hx1
  have hkl : k < zs.length := by have := HN.out; omega
  have hcell := (hg.cell_far ⟨b, k, none⟩ HB.out (fun e => HE.out (by injection e))).trans (HR.out k hkl)
  have HM := Lib.hid (List.getElem_mem hkl)
  generalize zs[k] = z at *
  have hkn : k < n := by have := HN.out; omega
  have HS := Lib.hid hs
  have HG := Lib.hid hg
  clear hs hg hkl
  go_wp2
  go_ret
  exact ⟨z, rfl, HM.out, HS.out, HG.out⟩
end Go.Proofs.Ytjiampelmiaflaa
