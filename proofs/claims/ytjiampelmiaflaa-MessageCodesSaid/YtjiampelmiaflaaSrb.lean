/- What is proved here: Body of the statements' base returns a short string. -/
import Derived.Test.YtjiampelmiaflaaSra
import Derived.Test.YtjiampelmiaflaaBed
namespace Go.Proofs.Ytjiampelmiaflaa
open Go.RowKit
set_option linter.unusedVariables false

/-- A short body, made by a source. -/
def SrBody (B g : Nat) (w : World) (e : Ending) (w' : World) : Prop := ∃ s : ByteArray, e = .returned (.string s) ∧ s.size ≤ 3 ∧ SrcAt w' B g ∧ w.grownBy w' (some g)

theorem rowIs_grown {w w' : World} {b g : Nat} {t : TypeId} {n : Nat} {f : Nat → Value} (h : w.rowIs b t n f) (hg : w.grownBy w' (some g)) (hne : b ≠ g) (hb : b < w.heap.size) : w'.rowIs b t n f := by
  obtain ⟨c, h1, h2⟩ := h
  exact ⟨c, (hg.block b hb (fun e => hne (by injection e))).trans h1, h2⟩

set_option maxHeartbeats 2000000 in
set_option maxRecDepth 20000 in
theorem body_any (B g : Nat) (w : World) (h : SrcAt w B g) : Calls Try.prog 39 #[.pointer (some ⟨g, 0, none⟩)] w (SrBody B g w) := by
  have HC := Lib.hid (n_any B g w h 4 (by omega) (by omega))
  have HG0 := Lib.hid h.2.1
  have HBg := Lib.hid h.1
  clear h
  go_enter Try.func39, Try.ntmps39
  go_wp2_with fail
  refine HC.out.mono ?_
  rintro e w1 ⟨x, rfl, hx1, hx2, hs, hg⟩
  obtain ⟨m, rfl⟩ := Int.eq_ofNat_of_zero_le hx1
  have hm3 : (m : Int) ≤ 3 := by omega
  have hmk := run_make_row' (P := Try.prog) 41 5 (.int .u8 0) 1 Try.underlying41 info_u8 rfl .i64 .i64 m (by omega) (by omega) w1
  have HR := Lib.hid (World.rowIs_made w1 (.int .u8 0) m 5)
  have HS := Lib.hid (hs.alloc (.cells (madeCells #[.int .u8 0] m) 5))
  have HG := Lib.hid (only_alloc hg (.cells (madeCells #[.int .u8 0] m) 5))
  have hne : w1.heap.size ≠ g := by have := hs.2.1; omega
  have HNE := Lib.hid hne
  have hle : w.heap.size ≤ w1.heap.size := hg.size
  have HLE := Lib.hid hle
  obtain ⟨b, hbb⟩ : ∃ b, b = w1.heap.size := ⟨_, rfl⟩
  have HSZ := Lib.hid (show b < (w1.alloc (.cells (madeCells #[.int .u8 0] m) 5)).heap.size by simp [hbb])
  have HBB := Lib.hid hbb
  clear hs hg hx1 hx2 hne hle hbb
  go_wp2
  rw [← HBB.out]
  rw [← HBB.out] at HR HNE HLE
  clear hmk
  go_loopw [4] (fun i wr => ∃ (k : Nat) (f : Nat → UInt8), k ≤ m ∧ i = .int .i64 k ∧ wr.rowIs b 5 m (fun j => oct (f j)) ∧ b < wr.heap.size ∧ SrcAt wr B g ∧ w.grownBy wr (some g)) (fun i _ => m - (intOf i).toNat)
  case atStart => exact ⟨0, fun _ => 0, by omega, rfl, HR.out.congr (fun j hj => rfl), HSZ.out, HS.out, HG.out⟩
  case round =>
    obtain ⟨k, f, hk, rfl, hrow, hsz, hs, hg⟩ := hrel
    by_cases hlt : k < m
    · have HV := Lib.hid (n_any B g wr hs 3 (by omega) (by omega))
      have HRow := Lib.hid hrow
      have HSr := Lib.hid hs
      have HGr := Lib.hid hg
      clear hrow hs hg
      go_wp2_with fail
      refine HV.out.mono ?_
      rintro e w2 ⟨y, rfl, hy1, hy2, hs2, hg2⟩
      obtain ⟨z, rfl⟩ := Int.eq_ofNat_of_zero_le hy1
      have hz3 : (z : Int) ≤ 2 := by omega
      have HRow2 := Lib.hid (rowIs_grown HRow.out hg2 HNE.out hsz)
      have hsz2 : b < w2.heap.size := Nat.lt_of_lt_of_le hsz hg2.size
      have HS2 := Lib.hid hs2
      have HG2 := Lib.hid (HGr.out.trans hg2)
      have hcell := HRow2.out.cell (i := k) hlt
      have hfr := HRow2.out.frozen k
      have HO := Lib.hid (show oct (UInt8.ofNat (97 + z)) = .int .u8 (97 + (z : Int)) by rw [oct_mod]; congr 1; omega)
      clear hs2 hg2 hy1 hy2
      go_wp2
      go_roundw
      case rel =>
        refine ⟨k + 1, fun j => if j = k then UInt8.ofNat (97 + z) else f j, by omega, by go_num, (HRow2.out.set k _).congr (fun j hj => ?_), by simpa using hsz2, HS2.out.other (fun e => HNE.out e) (by have := HLE.out; have := HG0.out; have := HBg.out; simp; omega) _, only_set HG2.out (.inr HLE.out) _⟩
        by_cases e : j = k
        · subst e; simp only [if_true]; exact HO.out.symm
        · simp only [if_neg e]
      case measure => simp [intOf]; omega
    · obtain rfl : k = m := by omega
      have hb1 : Bs wr wr.heap.size (.slice (some ⟨b, 0, none⟩) k k) ((List.range k).map f) := Bs.of_row hrow hsz (by simp) (Nat.le_refl _) (by unfold maxLen; omega) (fun j hj => by simp)
      have hconv := run_convert_bs (P := Try.prog) wr 41 5 9 Try.underlying41 Try.underlying5 Try.underlying9 hb1
      have HSr := Lib.hid hs
      have HGr := Lib.hid hg
      clear hrow hs hg hb1
      go_wp2
      go_ret
      exact ⟨_, rfl, (by show (List.map f (List.range k)).toArray.size ≤ 3; simp; omega), HSr.out, HGr.out⟩
end Go.Proofs.Ytjiampelmiaflaa
