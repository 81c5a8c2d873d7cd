/- What is proved here: New of the statements' base makes a source of a list; Raw, N, Range, Pick of the statements' base: what they return and what they turn; (plain functions) a number as bytes of a fixed size. -/
import Derived.Test.YtiklkagkmcapnaaJ14
import Derived.Test.YtiklkagkmcapnaaJ01
import Derived.Deep.QuietTactic
import Derived.BigQuiet
import Derived.IntWalk
import Derived.Deep.OwnRows
import Derived.Laws.MakeOwn
namespace Go.Proofs.Ytiklkagkmcapnaa
open Go.RowKit
set_option linter.unusedVariables false

/-- A new source. -/
def SrNew (w : World) (e : Ending) (w' : World) : Prop := ∃ g, e = .returned (.pointer (some ⟨g, 0, none⟩)) ∧ SrcAt w' w.heap.size g ∧ Below w.heap.size w w'

theorem src_new (w : World) (A : Option Addr) (n c : Nat) (zs : List Int) (t : TypeId) (h : Rd w w.heap.size 1 A n (zs.map i64v)) (hn : n ≤ 4000) (hc : n ≤ c) (hm : c ≤ maxLen) (hz : ∀ z ∈ zs, -9223372036854775808 ≤ z ∧ z ≤ 9223372036854775807) :
    SrNew w (.returned (.pointer (some ⟨w.heap.size, 0, none⟩))) (w.alloc (.cells #[.slice A n c, .int .i64 0] t)) :=
  ⟨_, rfl, ⟨Nat.le_refl _, by simp, A, n, c, 0, zs, by omega, hn, hc, hm, by simp [go_sem], by simp [go_sem], by simp [go_sem], h.alloc (Nat.le_refl _) _, hz⟩, (Below.refl _ _).alloc (Nat.le_refl _) _⟩

theorem new_src (A : Option Addr) (n c : Nat) (zs : List Int) (w : World) (h : Ns w w.heap.size (.slice A n c) zs) : Calls Try.prog 13 #[.slice A n c] w (SrNew w) := by
  obtain ⟨hn, hc, hm, hr, hz⟩ := h.parts
  by_cases h4 : (4000 : Int) < (n : Int)
  · have ht' : Try.prog.underlying 34 = some (.slice (Try.prog.elem 34)) := by kernel_rfl
    have he : Try.prog.elem 34 = 3 := by kernel_rfl
    have hz8 : ∀ w, (Go.sizeOf 3).run Try.prog w = .ok 1 w := Try.sizeOf3
    have hcut : ∀ W, (Instr.slice 34 (.slice A n c) none (some (.int .i64 4000)) none).run Try.prog W = .ok (.slice A 4000 c) W := fun W => by
      have hq := run_slice_h W 34 A n c ht' .i64 4000 (by omega) (by omega)
      rw [hq, he, hz8]
      cases A <;> simp [Result.andThen, sliced, Addr.add]
    have hr4 : Rd w w.heap.size 1 A 4000 ((zs.take 4000).map i64v) := by
      have hlen : zs.length = n := hn.symm
      refine ⟨by simp; omega, fun h0 => ?_⟩
      obtain ⟨b, o, rfl, hb, hcc⟩ := hr.2 (by omega)
      refine ⟨b, o, rfl, hb, fun k u hu => hcc k u ?_⟩
      have hk : k < 4000 := by
        have := (List.getElem?_eq_some_iff.1 hu).1
        simp at this; omega
      rw [← hu, List.map_take, List.getElem?_take_of_lt hk]
    have HN := Lib.hid (src_new w A 4000 c (zs.take 4000) 55 hr4 (by omega) (by omega) hm (fun z hz' => hz z (List.mem_of_mem_take hz')))
    clear h hn hc hm hr hz hr4 hz8 he ht'
    go_enter Try.func13, Try.ntmps13
    go_wp2
    go_ret
    exact HN.out
  · have HN := Lib.hid (src_new w A n c zs 55 hr (by omega) hc hm hz)
    clear h hn hc hm hr hz
    go_enter Try.func13, Try.ntmps13
    go_wp2
    go_ret
    exact HN.out
end Go.Proofs.Ytiklkagkmcapnaa
namespace Go.Proofs.Ytiklkagkmcapnaa
open Go.RowKit
set_option linter.unusedVariables false

set_option maxHeartbeats 2000000 in
set_option maxRecDepth 20000 in
theorem raw_any (B g : Nat) (w : World) (h : SrcAt w B g) : Calls Try.prog 42 #[.pointer (some ⟨g, 0, none⟩)] w (SrInt B g (-9223372036854775808) 9223372036854775807 w) := by
  have H := Lib.hid h
  obtain ⟨hB, hg, A, n, c, k, zs, a1, a2, a3, a4, a5, a6, a7, a8, a9⟩ := h
  have HA := Lib.hid a8
  have HZ := Lib.hid a9
  have a2' : (n : Int) ≤ 4000 := by omega
  clear hB hg a2 a3 a4 a8 a9
  by_cases hk : k < n
  · have hk' : ¬ ((n : Int) ≤ (k : Int)) := by omega
    have hd : decide ((n : Int) ≤ (k : Int)) = false := decide_eq_false hk'
    obtain ⟨b, o, rfl, hb, hcell⟩ := HA.out.2 (by omega)
    have hzl : k < zs.length := by have := HA.out.1; simp at this; omega
    have hz := HZ.out zs[k] (List.getElem_mem hzl)
    have hcz := hcell k (i64v zs[k]) (by simp [hzl])
    unfold i64v at hcz
    generalize zs[k] = z at *
    have HZ2 := Lib.hid hz
    have hne1 : b ≠ g := by have := H.out.1; omega
    have hne2 : g ≠ b := fun e => hne1 e.symm
    have hk63 : (k : Int) < (n : Int) := by omega
    have hk0 : (0 : Int) ≤ (k : Int) := Int.natCast_nonneg _
    have hs : IntKind.i64.wrap ((k : Int) + 1 - 1) = k := by rw [IntWalk.i64_in _ (by omega)]; omega
    clear hcell hzl hz
    go_enter Try.func42, Try.ntmps42
    go_wp2
    go_quiet (fail)
    go_wp2
    go_quiet (fail)
    go_wp2
    go_ret
    exact ⟨z, rfl, HZ2.out.1, HZ2.out.2, ((H.out.drewN _).next a5 a6 (by omega)).drewN _, only_drewN (only_set (only_drewN (World.grownBy.refl _ _) _) (.inl rfl) _) _⟩
  · have hk' : (n : Int) ≤ (k : Int) := by omega
    have hd : decide ((n : Int) ≤ (k : Int)) = true := decide_eq_true hk'
    go_enter Try.func42, Try.ntmps42
    go_wp2
    go_quiet (fail)
    go_wp2
    go_ret
    exact ⟨0, rfl, by omega, by omega, H.out.drewN _, only_drewN (World.grownBy.refl _ _) _⟩

theorem tmod_gt (x n : Int) (h : 0 < n) : -n < x.tmod n := by
  have h1 := Int.tmod_lt_of_pos (-x) h
  rw [Int.neg_tmod] at h1
  omega

set_option maxHeartbeats 2000000 in
theorem n_any (B g : Nat) (w : World) (h : SrcAt w B g) (n : Int) (h1 : 1 ≤ n) (h2 : n ≤ 1073741824) : Calls Try.prog 15 #[.pointer (some ⟨g, 0, none⟩), .int .i64 n] w (SrInt B g 0 (n - 1) w) := by
  have HC := Lib.hid (raw_any B g w h)
  clear h
  go_enter Try.func15, Try.ntmps15
  go_wp2_with fail
  refine HC.out.mono ?_
  rintro e w1 ⟨x, rfl, hx1, hx2, hs, hg⟩
  have HS := Lib.hid hs
  have HG := Lib.hid hg
  have hr1 : x.tmod n < n := Int.tmod_lt_of_pos x (by omega)
  have hr2 : -n < x.tmod n := tmod_gt x n (by omega)
  clear hs hg
  by_cases hr : x.tmod n < 0
  · go_wp2
    go_ret
    exact ⟨x.tmod n + n, rfl, by omega, by omega, HS.out, HG.out⟩
  · go_wp2
    go_ret
    exact ⟨x.tmod n, rfl, by omega, by omega, HS.out, HG.out⟩

set_option maxHeartbeats 2000000 in
theorem range_any (B g : Nat) (w : World) (h : SrcAt w B g) (lo hi : Int) (h0 : 0 ≤ lo) (h1 : lo ≤ hi) (h2 : hi ≤ 1073741823) : Calls Try.prog 17 #[.pointer (some ⟨g, 0, none⟩), .int .i64 lo, .int .i64 hi] w (SrInt B g lo hi w) := by
  have HC := Lib.hid (n_any B g w h (hi - lo + 1) (by omega) (by omega))
  clear h
  go_enter Try.func17, Try.ntmps17
  go_wp2_with fail
  refine HC.out.mono ?_
  rintro e w1 ⟨x, rfl, hx1, hx2, hs, hg⟩
  have HS := Lib.hid hs
  have HG := Lib.hid hg
  clear hs hg
  go_wp2
  go_ret
  exact ⟨lo + x, rfl, by omega, by omega, HS.out, HG.out⟩

/-- A number of a row, taken by a source. -/
def SrPick (B g : Nat) (zs : List Int) (w : World) (e : Ending) (w' : World) : Prop := ∃ x, e = .returned (.int .i64 x) ∧ x ∈ zs ∧ SrcAt w' B g ∧ w.grownBy w' (some g)

set_option maxHeartbeats 2000000 in
theorem pick_any (B g : Nat) (w : World) (h : SrcAt w B g) (b n : Nat) (zs : List Int) (hn : n = zs.length) (hb : b < w.heap.size) (hne : b ≠ g) (h1 : 1 ≤ n) (h2 : n ≤ 1000) (hc : ∀ j (hj : j < zs.length), w.cell? ⟨b, j, none⟩ = some (.int .i64 zs[j])) :
    Calls Try.prog 43 #[.pointer (some ⟨g, 0, none⟩), .slice (some ⟨b, 0, none⟩) n n] w (SrPick B g zs w) := by
  have HC := Lib.hid (n_any B g w h n (by omega) (by omega))
  have HR := Lib.hid hc
  have HN := Lib.hid hn
  have h2' : (n : Int) ≤ 1000 := by omega
  have HB := Lib.hid hb
  have HE := Lib.hid hne
  clear h hc hn h2 hb hne
  go_enter Try.func43, Try.ntmps43
  go_wp2_with fail
  refine HC.out.mono ?_
  rintro e w1 ⟨x, rfl, hx1, hx2, hs, hg⟩
  obtain ⟨k, rfl⟩ := Int.eq_ofNat_of_zero_le hx1
  have hkl : k < zs.length := by have := HN.out; omega
  have hcell := (hg.cell_far ⟨b, k, none⟩ HB.out (fun e => HE.out (by injection e))).trans (HR.out k hkl)
  have HM := Lib.hid (List.getElem_mem hkl)
  generalize zs[k] = z at *
  have hkn : k < n := by have := HN.out; omega
  have HS := Lib.hid hs
  have HG := Lib.hid hg
  clear hs hg hkl
  go_wp2
  go_ret
  exact ⟨z, rfl, HM.out, HS.out, HG.out⟩
end Go.Proofs.Ytiklkagkmcapnaa
namespace Go.Proofs.Ytiklkagkmcapnaa
open Go.RowKit
set_option linter.unusedVariables false

/-- The number n as s bytes, the highest one first. -/
def be (s n : Nat) : List UInt8 := (List.range s).map fun j => UInt8.ofNat (n / 2 ^ (8 * (s - 1 - j)))

theorem be_length (s n : Nat) : (be s n).length = s := by simp [be]

theorem be_get (s n j : Nat) (h : j < s) : (be s n)[j]'(by rw [be_length]; exact h) = UInt8.ofNat (n / 2 ^ (8 * (s - 1 - j))) := by simp [be]

theorem oct_mod (x : Nat) : oct (UInt8.ofNat x) = .int .u8 ((x : Int) % 256) := by
  unfold oct
  rw [show (UInt8.ofNat x).toNat = x % 256 from by simp]
  simp

theorem Bs.of_row {w : World} {B g : Nat} {t : TypeId} {n c : Nat} {f : Nat → Value} {bs : List UInt8} (h : w.rowIs g t n f) (hg : g < B) (hl : bs.length = n) (hc : n ≤ c) (hm : c ≤ maxLen) (hf : ∀ j (hj : j < bs.length), f j = oct bs[j]) : Bs w B (.slice (some ⟨g, 0, none⟩) n c) bs := by
  subst hl
  refine ⟨_, c, rfl, hc, hm, by simp, fun _ => ⟨g, 0, rfl, hg, fun j u hu => ?_⟩⟩
  rw [Nat.zero_add]
  simp only [List.getElem?_map, Option.map_eq_some_iff] at hu
  obtain ⟨x, hx, rfl⟩ := hu
  obtain ⟨hj, rfl⟩ := List.getElem?_eq_some_iff.1 hx
  rw [h.cell hj, hf j hj]

theorem pow_le48 (s : Nat) (h : s ≤ 6) : (2 : Int) ^ (8 * s) ≤ 281474976710656 ∧ (0 : Int) ≤ 2 ^ (8 * s) ∧ ((2 ^ (8 * s) : Nat) : Int) = (2 : Int) ^ (8 * s) := by
  match s, h with
  | 0, _ => decide
  | 1, _ => decide
  | 2, _ => decide
  | 3, _ => decide
  | 4, _ => decide
  | 5, _ => decide
  | 6, _ => decide

theorem be_take (s n j : Nat) (hj : j + 1 ≤ s) : (be s n).take (s - j) = (be s n).take (s - (j + 1)) ++ [UInt8.ofNat (n / 2 ^ (8 * j))] := by
  have hl : s - (j + 1) < (be s n).length := by rw [be_length]; omega
  rw [show s - j = s - (j + 1) + 1 by omega, List.take_succ_eq_append_getElem hl, be_get s n _ (by omega), show s - 1 - (s - (j + 1)) = j by omega]

/-- What Put returns. -/
def ptOk (n s : Int) : Bool := decide (1 ≤ s ∧ s ≤ 6 ∧ 0 ≤ n ∧ n < 2 ^ (8 * s.toNat))

def ptE (n s : Int) : Int := if ptOk n s then 0 else 1

def ptB (bs : List UInt8) (n s : Int) : List UInt8 := if ptOk n s then bs ++ be s.toNat n.toNat else []

theorem pt4 (id : Int) (h0 : 0 ≤ id) (h1 : id ≤ 1073741824) : ptE id 4 = 0 ∧ ptB [] id 4 = be 4 id.toNat := by
  have hk : ptOk id 4 = true := by
    refine decide_eq_true ⟨by omega, by omega, h0, ?_⟩
    rw [show (2 : Int) ^ (8 * (4 : Int).toNat) = 4294967296 by decide]
    omega
  unfold ptE ptB
  rw [if_pos hk, if_pos hk]
  exact ⟨rfl, rfl⟩
end Go.Proofs.Ytiklkagkmcapnaa
