/- What is proved here: Raw, N, Range of the statements' base: what they return and what they turn; Heap of the statements' base makes a valid heap; (plain) a slice that reads as a list of numbers. -/
import Derived.Test.YtobimcpkhgfliaaJ08
import Derived.Test.YtobimcpkhgfliaaJ01
import Derived.Deep.QuietTactic
import Derived.BigQuiet
import Derived.IntWalk
import Derived.Test.YtobimcpkhgfliaaJ11
import Derived.Test.YtobimcpkhgfliaaJ12
namespace Go.Proofs.Ytobimcpkhgfliaa
open Go.RowKit
set_option linter.unusedVariables false

set_option maxHeartbeats 2000000 in
set_option maxRecDepth 20000 in
theorem raw_any (B g : Nat) (w : World) (h : SrcAt w B g) : Calls Try.prog 27 #[.pointer (some ⟨g, 0, none⟩)] w (SrInt B g (-9223372036854775808) 9223372036854775807 w) := by
  have H := Lib.hid h
  obtain ⟨hB, hg, A, n, c, k, zs, a1, a2, a3, a4, a5, a6, a7, a8, a9⟩ := h
  have HA := Lib.hid a8
  have HZ := Lib.hid a9
  have a2' : (n : Int) ≤ 4000 := by omega
  clear hB hg a2 a3 a4 a8 a9
  by_cases hk : k < n
  · have hk' : ¬ ((n : Int) ≤ (k : Int)) := by omega
    have hd : decide ((n : Int) ≤ (k : Int)) = false := decide_eq_false hk'
    obtain ⟨b, o, rfl, hb, hcell⟩ := HA.out.2 (by omega)
    have hzl : k < zs.length := by have := HA.out.1; simp at this; omega
    have hz := HZ.out zs[k] (List.getElem_mem hzl)
    have hcz := hcell k (i64v zs[k]) (by simp [hzl])
    unfold i64v at hcz
    generalize zs[k] = z at *
    have HZ2 := Lib.hid hz
    have hne1 : b ≠ g := by have := H.out.1; omega
    have hne2 : g ≠ b := fun e => hne1 e.symm
    have hk63 : (k : Int) < (n : Int) := by omega
    have hk0 : (0 : Int) ≤ (k : Int) := Int.natCast_nonneg _
    have hs : IntKind.i64.wrap ((k : Int) + 1 - 1) = k := by rw [IntWalk.i64_in _ (by omega)]; omega
    clear hcell hzl hz
    go_enter Try.func27, Try.ntmps27
    go_wp2
    go_quiet (fail)
    go_wp2
    go_quiet (fail)
    go_wp2
    go_ret
    exact ⟨z, rfl, HZ2.out.1, HZ2.out.2, ((H.out.drewN _).next a5 a6 (by omega)).drewN _, only_drewN (only_set (only_drewN (World.grownBy.refl _ _) _) (.inl rfl) _) _⟩
  · have hk' : (n : Int) ≤ (k : Int) := by omega
    have hd : decide ((n : Int) ≤ (k : Int)) = true := decide_eq_true hk'
    go_enter Try.func27, Try.ntmps27
    go_wp2
    go_quiet (fail)
    go_wp2
    go_ret
    exact ⟨0, rfl, by omega, by omega, H.out.drewN _, only_drewN (World.grownBy.refl _ _) _⟩

theorem tmod_gt (x n : Int) (h : 0 < n) : -n < x.tmod n := by
  have h1 := Int.tmod_lt_of_pos (-x) h
  rw [Int.neg_tmod] at h1
  omega

set_option maxHeartbeats 2000000 in
theorem n_any (B g : Nat) (w : World) (h : SrcAt w B g) (n : Int) (h1 : 1 ≤ n) (h2 : n ≤ 1073741824) : Calls Try.prog 14 #[.pointer (some ⟨g, 0, none⟩), .int .i64 n] w (SrInt B g 0 (n - 1) w) := by
  have HC := Lib.hid (raw_any B g w h)
  clear h
  go_enter Try.func14, Try.ntmps14
  go_wp2_with fail
  refine HC.out.mono ?_
  rintro e w1 ⟨x, rfl, hx1, hx2, hs, hg⟩
  have HS := Lib.hid hs
  have HG := Lib.hid hg
  have hr1 : x.tmod n < n := Int.tmod_lt_of_pos x (by omega)
  have hr2 : -n < x.tmod n := tmod_gt x n (by omega)
  clear hs hg
  by_cases hr : x.tmod n < 0
  · go_wp2
    go_ret
    exact ⟨x.tmod n + n, rfl, by omega, by omega, HS.out, HG.out⟩
  · go_wp2
    go_ret
    exact ⟨x.tmod n, rfl, by omega, by omega, HS.out, HG.out⟩

set_option maxHeartbeats 2000000 in
theorem range_any (B g : Nat) (w : World) (h : SrcAt w B g) (lo hi : Int) (h0 : 0 ≤ lo) (h1 : lo ≤ hi) (h2 : hi ≤ 1073741823) : Calls Try.prog 13 #[.pointer (some ⟨g, 0, none⟩), .int .i64 lo, .int .i64 hi] w (SrInt B g lo hi w) := by
  have HC := Lib.hid (n_any B g w h (hi - lo + 1) (by omega) (by omega))
  clear h
  go_enter Try.func13, Try.ntmps13
  go_wp2_with fail
  refine HC.out.mono ?_
  rintro e w1 ⟨x, rfl, hx1, hx2, hs, hg⟩
  have HS := Lib.hid hs
  have HG := Lib.hid hg
  clear hs hg
  go_wp2
  go_ret
  exact ⟨lo + x, rfl, by omega, by omega, HS.out, HG.out⟩
set_option maxHeartbeats 2000000 in
theorem range2_any (B g : Nat) (w : World) (h : SrcAt w B g) (lo hi : Int) (h0 : -1000 ≤ lo) (h1 : lo ≤ hi) (h2 : hi ≤ 1000000) : Calls Try.prog 13 #[.pointer (some ⟨g, 0, none⟩), .int .i64 lo, .int .i64 hi] w (SrInt B g lo hi w) := by
  have HC := Lib.hid (n_any B g w h (hi - lo + 1) (by omega) (by omega))
  clear h
  go_enter Try.func13, Try.ntmps13
  go_wp2_with fail
  refine HC.out.mono ?_
  rintro e w1 ⟨x, rfl, hx1, hx2, hs, hg⟩
  have HS := Lib.hid hs
  have HG := Lib.hid hg
  clear hs hg
  go_wp2
  go_ret
  exact ⟨lo + x, rfl, by omega, by omega, HS.out, HG.out⟩
end Go.Proofs.Ytobimcpkhgfliaa
namespace Go.Proofs.Ytobimcpkhgfliaa
open Go.RowKit
set_option linter.unusedVariables false

/-- A valid heap, made of a source. -/
def SrHeap (B g : Nat) (w : World) (e : Ending) (w' : World) : Prop := ∃ A c l, e = .returned (.slice A l.length c) ∧ vaF l = 0 ∧ Nw w.heap.size A ∧ Dl w' w'.heap.size (.slice A l.length c) l ∧ SrcAt w' B g ∧ w.grownBy w' (some g)
/-- A list of elements lies as it lay where a source has been turned. -/
theorem Dl.grownG {W W' : World} {g lo n c : Nat} {A : Option Addr} {l : List Du} (h : Dl W W.heap.size (.slice A n c) l) (hA : Nw lo A) (hg : g < lo) (hgr : W.grownBy W' (some g)) : Dl W' W'.heap.size (.slice A n c) l := by
  obtain ⟨A', c', e, hl, hm, hr⟩ := h
  injection e with e1 e2 e3
  subst e1; subst e3
  refine ⟨A, c, by rw [e2], hl, hm, hr.1, fun h0 => ?_⟩
  obtain ⟨b, o, e, hb, hc⟩ := hr.2 h0
  have hlo := hA _ e
  have hlo' : lo ≤ b := hlo
  exact ⟨b, o, e, Nat.lt_of_lt_of_le hb hgr.size, fun j u hu => (hgr.cell_far ⟨b, o + j, none⟩ hb (fun e' => by injection e' with e'; have e2 : b = g := e'; omega)).trans (hc j u hu)⟩
/-- The state of Heap's loop. -/
structure HpAt (w : World) (B g : Nat) (A : Option Addr) (c : Nat) (l : List Du) (W : World) : Prop where
  dl : Dl W W.heap.size (.slice A l.length c) l
  ok : vaF l = 0
  nw : Nw w.heap.size A
  src : SrcAt W B g
  grow : w.grownBy W (some g)
theorem HpAt.turn {w W W' : World} {B g : Nat} {A : Option Addr} {c : Nat} {l : List Du} (h : HpAt w B g A c l W) (hg : g < w.heap.size) (hs : SrcAt W' B g) (hgr : W.grownBy W' (some g)) : HpAt w B g A c l W' :=
  ⟨h.dl.grownG h.nw hg hgr, h.ok, h.nw, hs, h.grow.trans hgr⟩
theorem HpAt.below {w W W' : World} {B g : Nat} {A : Option Addr} {c : Nat} {l : List Du} (h : HpAt w B g A c l W) (hb : Below W.heap.size W W') : HpAt w B g A c l W' :=
  ⟨h.dl.up hb, h.ok, h.nw, h.src.below hb, only_below h.grow hb⟩

set_option maxHeartbeats 4000000 in
set_option maxRecDepth 20000 in
theorem heap_any (B g : Nat) (w : World) (h : SrcAt w B g) :
    Calls Try.prog 12 #[.pointer (some ⟨g, 0, none⟩)] w (SrHeap B g w) := by
  have H := Lib.hid (show HpAt w B g none 0 [] w from ⟨Dl.nil, vaF_ok (by simp) (by simp) (by rintro ⟨i, j, _, h, _⟩; simp at h) (fun j _ h => by simp at h), nw_none, h, World.grownBy.refl w (some g)⟩)
  have HG := Lib.hid (show g < w.heap.size from h.2.1)
  have HN := Lib.hid (n_any B g w h 13 (by omega) (by omega))
  clear h
  go_enter Try.func12, Try.ntmps12
  go_wp2_with fail
  refine HN.out.mono ?_
  rintro e w1 ⟨x, rfl, hx0, hx1, hs, hg⟩
  obtain ⟨x, rfl⟩ := Int.eq_ofNat_of_zero_le hx0
  have H1 := Lib.hid (H.out.turn HG.out hs hg)
  clear hs hg
  go_wp2
  go_loopw [3, 4] (fun hv iv wr => ∃ (j : Nat) (A : Option Addr) (c : Nat) (l : List Du), hv = .slice A l.length c ∧ iv = .int .i64 j ∧ j ≤ 12 ∧ HpAt w B g A c l wr) (fun _ iv _ => (intOf iv).toNat)
  case atStart => exact ⟨x, none, 0, [], rfl, rfl, by omega, H1.out⟩
  case round =>
    obtain ⟨j, A, c, l, rfl, rfl, hj, hh⟩ := hrel
    have HH := Lib.hid hh
    clear hh
    by_cases hj0 : 0 < j
    · have hj0' : (0 : Int) < (j : Int) := by omega
      have hj12 : (j : Int) ≤ 12 := by omega
      go_wp2_with fail
      refine (n_any B g _ HH.out.src 12 (by omega) (by omega)).mono ?_
      rintro e w2 ⟨y, rfl, hy0, hy1, hs, hg⟩
      have H2 := Lib.hid (HH.out.turn HG.out hs hg)
      clear hs hg
      go_wp2_with fail
      refine (range_any B g _ H2.out.src 1 20 (by omega) (by omega) (by omega)).mono ?_
      rintro e w3 ⟨z, rfl, hz0, hz1, hs, hg⟩
      have H3 := Lib.hid (H2.out.turn HG.out hs hg)
      have HSN := Lib.hid (show snd ⟨y, z⟩ = true from decide_eq_true ⟨hy0, by show y ≤ _; omega, hz0, by show z ≤ _; omega⟩)
      have HPU := Lib.hid (show Calls Try.prog 23 #[.slice A l.length c, .agg #[.int .i64 y, .int .i64 z]] w3 (DlE w3 (puR l ⟨y, z⟩) (puE l ⟨y, z⟩)) from rpush5_any A l.length c l ⟨y, z⟩ w3 H3.out.dl)
      clear hs hg
      go_wp2_with fail
      refine HPU.out.mono ?_
      rintro e w4 ⟨A4, c4, rfl, hnw, hl4, hb⟩
      by_cases he : puE l ⟨y, z⟩ = 0
      · have hv := vaF_push (puE_zero he).1 (puE_zero he).2.1 (puE_zero he).2.2.1 (puE_zero he).2.2.2
        have hr : puR l ⟨y, z⟩ = puF l ⟨y, z⟩ := if_pos he
        rw [hr] at hl4 ⊢
        have H4 := Lib.hid (show HpAt w B g A4 c4 (puF l ⟨y, z⟩) w4 from ⟨hl4, hv, nw_low hnw H3.out.grow.size, H3.out.src.below hb, only_below H3.out.grow hb⟩)
        rw [he]
        clear hnw hl4 hb hv hr he
        generalize puF l ⟨y, z⟩ = l4 at *
        go_wp2
        go_roundw
        case rel => exact ⟨j - 1, A4, c4, l4, rfl, by rw [show ((j - 1 : Nat) : Int) = (j : Int) - 1 by omega], by omega, H4.out⟩
        case measure => simp [intOf]; omega
      · have H4 := Lib.hid (H3.out.below hb)
        have hne : (puE l ⟨y, z⟩ == 0) = false := by simpa using he
        generalize puE l ⟨y, z⟩ = x1 at *
        generalize puR l ⟨y, z⟩ = l4 at *
        clear hnw hl4 hb he
        go_wp2
        go_roundw
        case rel => exact ⟨j - 1, A, c, l, rfl, by rw [show ((j - 1 : Nat) : Int) = (j : Int) - 1 by omega], by omega, H4.out⟩
        case measure => simp [intOf]; omega
    · obtain rfl : j = 0 := by omega
      go_wp2
      go_ret
      exact ⟨A, c, l, rfl, HH.out.ok, HH.out.nw, HH.out.dl, HH.out.src, HH.out.grow⟩
end Go.Proofs.Ytobimcpkhgfliaa
namespace Go.Proofs.Ytobimcpkhgfliaa
open Go.RowKit
set_option linter.unusedVariables false

/-- A value that is a slice, reads as the numbers zs and lies below B. -/
def Ns (w : World) (B : Nat) (v : Value) (zs : List Int) : Prop := ∃ A c, v = .slice A zs.length c ∧ zs.length ≤ c ∧ c ≤ maxLen ∧ Rd w B 1 A zs.length (zs.map i64v) ∧ ∀ z ∈ zs, -9223372036854775808 ≤ z ∧ z ≤ 9223372036854775807

section
variable {w w' : World} {B B' : Nat} {v : Value} {zs : List Int}
theorem Ns.nil : Ns w B (.slice none 0 0) [] := ⟨none, 0, rfl, Nat.le_refl _, Nat.zero_le _, Rd.nil none, by simp⟩
theorem Ns.below (h : Ns w B v zs) (hb : Below B w w') : Ns w' B v zs := by
  obtain ⟨A, c, e, hl, hm, h, hz⟩ := h; exact ⟨A, c, e, hl, hm, h.below hb, hz⟩
theorem Ns.parts {A : Option Addr} {n c : Nat} (h : Ns w B (.slice A n c) zs) : n = zs.length ∧ n ≤ c ∧ c ≤ maxLen ∧ Rd w B 1 A n (zs.map i64v) ∧ ∀ z ∈ zs, -9223372036854775808 ≤ z ∧ z ≤ 9223372036854775807 := by
  obtain ⟨A', c', e, hl, hm, h, hz⟩ := h
  injection e with e1 e2 e3
  subst e1; subst e2; subst e3
  exact ⟨rfl, hl, hm, h, hz⟩
/-- From the way in which the guide opens a slice of numbers that came in. -/
theorem Ns.of_cells {a : Addr} {l c : Nat} {zs : List Int} (hl : l ≤ c) (hm : c ≤ maxLen) (hz : zs.length = c) (hc : ∀ i, i < zs.length → w.cell? (a.add i) = some (.int .i64 (zs.getD i 0))) (hw : ∀ n ∈ zs, (Lit.int .i64 n).wf = true) :
    ∃ ys, Ns w w.heap.size (.slice (some a) l c) ys := by
  have hlen : (zs.take l).length = l := by simp; omega
  refine ⟨zs.take l, some a, c, by rw [hlen], by omega, hm, ⟨by simp, fun hn => ?_⟩, fun z hz' => ?_⟩
  · rw [hlen] at hn
    obtain ⟨b, o, spot⟩ := a
    have h0 := hc 0 (by omega)
    have hspot : spot = none := by simpa [Addr.add] using World.cell?_spot h0
    subst hspot
    refine ⟨b, o, rfl, World.block_lt_of_cell? w ⟨b, o, none⟩ (by simpa [Addr.add] using h0), fun j u hu => ?_⟩
    simp only [List.getElem?_map, Option.map_eq_some_iff] at hu
    obtain ⟨x, hx, rfl⟩ := hu
    obtain ⟨hj, rfl⟩ := List.getElem?_eq_some_iff.1 hx
    have hj' : j < zs.length := by simp at hj; omega
    have h := hc j hj'
    rw [add_mk] at h
    rw [h]
    simp [i64v, List.getD, hj']
  · have := hw z (List.mem_of_mem_take hz')
    simp only [Lit.wf, Bool.and_eq_true, decide_eq_true_eq] at this
    exact this
end
end Go.Proofs.Ytobimcpkhgfliaa
