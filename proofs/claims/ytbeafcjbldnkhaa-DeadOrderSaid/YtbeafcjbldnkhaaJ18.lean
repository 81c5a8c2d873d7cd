/- What is proved here: New of the statements' base makes a source of a list; (plain functions) the bytes of a message, and what is read of bytes; Pick of the statements' base picks one of the numbers. -/
import Derived.Test.YtbeafcjbldnkhaaJ17
import Derived.Test.YtbeafcjbldnkhaaJ01
import Derived.Test.YtbeafcjbldnkhaaJ02
import Derived.Test.YtbeafcjbldnkhaaJ03
import Derived.Test.YtbeafcjbldnkhaaJ14
namespace Go.Proofs.Ytbeafcjbldnkhaa
open Go.RowKit
set_option linter.unusedVariables false

/-- A new source. -/
def SrNew (w : World) (e : Ending) (w' : World) : Prop := ∃ g, e = .returned (.pointer (some ⟨g, 0, none⟩)) ∧ SrcAt w' w.heap.size g ∧ Below w.heap.size w w'

theorem src_new (w : World) (A : Option Addr) (n c : Nat) (zs : List Int) (t : TypeId) (h : Rd w w.heap.size 1 A n (zs.map i64v)) (hn : n ≤ 4000) (hc : n ≤ c) (hm : c ≤ maxLen) (hz : ∀ z ∈ zs, -9223372036854775808 ≤ z ∧ z ≤ 9223372036854775807) :
    SrNew w (.returned (.pointer (some ⟨w.heap.size, 0, none⟩))) (w.alloc (.cells #[.slice A n c, .int .i64 0] t)) :=
  ⟨_, rfl, ⟨Nat.le_refl _, by simp, A, n, c, 0, zs, by omega, hn, hc, hm, by simp [go_sem], by simp [go_sem], by simp [go_sem], h.alloc (Nat.le_refl _) _, hz⟩, (Below.refl _ _).alloc (Nat.le_refl _) _⟩

theorem new_src (A : Option Addr) (n c : Nat) (zs : List Int) (w : World) (h : Ns w w.heap.size (.slice A n c) zs) : Calls Try.prog 12 #[.slice A n c] w (SrNew w) := by
  obtain ⟨hn, hc, hm, hr, hz⟩ := h.parts
  by_cases h4 : (4000 : Int) < (n : Int)
  · have ht' : Try.prog.underlying 31 = some (.slice (Try.prog.elem 31)) := by kernel_rfl
    have he : Try.prog.elem 31 = 3 := by kernel_rfl
    have hz8 : ∀ w, (Go.sizeOf 3).run Try.prog w = .ok 1 w := Try.sizeOf3
    have hcut : ∀ W, (Instr.slice 31 (.slice A n c) none (some (.int .i64 4000)) none).run Try.prog W = .ok (.slice A 4000 c) W := fun W => by
      have hq := run_slice_h W 31 A n c ht' .i64 4000 (by omega) (by omega)
      rw [hq, he, hz8]
      cases A <;> simp [Result.andThen, sliced, Addr.add]
    have hr4 : Rd w w.heap.size 1 A 4000 ((zs.take 4000).map i64v) := by
      have hlen : zs.length = n := hn.symm
      refine ⟨by simp; omega, fun h0 => ?_⟩
      obtain ⟨b, o, rfl, hb, hcc⟩ := hr.2 (by omega)
      refine ⟨b, o, rfl, hb, fun k u hu => hcc k u ?_⟩
      have hk : k < 4000 := by
        have := (List.getElem?_eq_some_iff.1 hu).1
        simp at this; omega
      rw [← hu, List.map_take, List.getElem?_take_of_lt hk]
    have HN := Lib.hid (src_new w A 4000 c (zs.take 4000) 52 hr4 (by omega) (by omega) hm (fun z hz' => hz z (List.mem_of_mem_take hz')))
    clear h hn hc hm hr hz hr4 hz8 he ht'
    go_enter Try.func12, Try.ntmps12
    go_wp2
    go_ret
    exact HN.out
  · have HN := Lib.hid (src_new w A n c zs 52 hr (by omega) hc hm hz)
    clear h hn hc hm hr hz
    go_enter Try.func12, Try.ntmps12
    go_wp2
    go_ret
    exact HN.out
end Go.Proofs.Ytbeafcjbldnkhaa
namespace Go.Proofs.Ytbeafcjbldnkhaa
open Go.RowKit
set_option linter.unusedVariables false

/-- The numbers of a message in their order. -/
def Msg.nth (M : Msg) : Nat → Int
  | 0 => M.id
  | 1 => M.rt
  | 2 => M.ep
  | 3 => M.ct
  | 4 => M.gn
  | _ => M.st
/-- The groups of the first k numbers. -/
def eb (M : Msg) : Nat → List UInt8
  | 0 => []
  | k + 1 => eb M k ++ groups 5 (M.nth k).toNat
/-- The bytes of a valid message. -/
def encB (M : Msg) : List UInt8 := eb M 6 ++ [UInt8.ofNat M.bd.size] ++ M.bd.data.toList
/-- What Encode returns. -/
def encF (M : Msg) : List UInt8 := if vf M = 0 then encB M else []

theorem nth_ok {M : Msg} (h : vf M = 0) (k : Nat) : 0 ≤ M.nth k ∧ M.nth k ≤ 1073741824 := by
  obtain ⟨h0, h1, h2, h3, h4, h5, _⟩ := vf_ok h
  unfold Msg.nth
  split <;> omega
theorem eb_length (M : Msg) : ∀ k, k ≤ (eb M k).length ∧ (eb M k).length ≤ 6 * k
  | 0 => by simp [eb]
  | k + 1 => by
    have h := eb_length M k
    have := groups_length 5 (M.nth k).toNat
    simp [eb]
    omega
theorem pv_eb {M : Msg} (h : vf M = 0) (k : Nat) : pvB (eb M k) (M.nth k) = eb M (k + 1) := by
  have := nth_ok h k
  unfold pvB
  rw [if_pos (by omega)]
  rfl
theorem px_enc {M : Msg} (h : vf M = 0) : pxB (eb M 6) M.bd 16 = encB M ∧ pxE M.bd 16 = 0 := by
  obtain ⟨_, _, _, _, _, _, h6⟩ := vf_ok h
  unfold pxB pxE
  rw [if_neg (by omega), if_neg (by omega), if_neg (by omega), if_neg (by omega)]
  exact ⟨rfl, rfl⟩
end Go.Proofs.Ytbeafcjbldnkhaa
namespace Go.Proofs.Ytbeafcjbldnkhaa
open Go.RowKit
set_option linter.unusedVariables false

/-- A number of a row, taken by a source. -/
def SrPick (B g : Nat) (zs : List Int) (w : World) (e : Ending) (w' : World) : Prop := ∃ x, e = .returned (.int .i64 x) ∧ x ∈ zs ∧ SrcAt w' B g ∧ w.grownBy w' (some g)

set_option maxHeartbeats 2000000 in
theorem pick_any (B g : Nat) (w : World) (h : SrcAt w B g) (b n : Nat) (zs : List Int) (hn : n = zs.length) (hb : b < w.heap.size) (hne : b ≠ g) (h1 : 1 ≤ n) (h2 : n ≤ 1000) (hc : ∀ j (hj : j < zs.length), w.cell? ⟨b, j, none⟩ = some (.int .i64 zs[j])) :
    Calls Try.prog 33 #[.pointer (some ⟨g, 0, none⟩), .slice (some ⟨b, 0, none⟩) n n] w (SrPick B g zs w) := by
  have HC := Lib.hid (n_any B g w h n (by omega) (by omega))
  have HR := Lib.hid hc
  have HN := Lib.hid hn
  have h2' : (n : Int) ≤ 1000 := by omega
  have HB := Lib.hid hb
  have HE := Lib.hid hne
  clear h hc hn h2 hb hne
  go_enter Try.func33, Try.ntmps33
  go_wp2_with fail
  refine HC.out.mono ?_
  rintro e w1 ⟨x, rfl, hx1, hx2, hs, hg⟩
  obtain ⟨k, rfl⟩ := Int.eq_ofNat_of_zero_le hx1
  have hkl : k < zs.length := by have := HN.out; omega
  have hcell := (hg.cell_far ⟨b, k, none⟩ HB.out (fun e => HE.out (by injection e))).trans (HR.out k hkl)
  have HM := Lib.hid (List.getElem_mem hkl)
  generalize zs[k] = z at *
  have hkn : k < n := by have := HN.out; omega
  have HS := Lib.hid hs
  have HG := Lib.hid hg
  clear hs hg hkl
  go_wp2
  go_ret
  exact ⟨z, rfl, HM.out, HS.out, HG.out⟩
end Go.Proofs.Ytbeafcjbldnkhaa
