/- What is proved here: shardqueueref05.Same of two lists that read alike are true; shardqueueref06.SameLeases, Same of two lists, two tables that read alike are true; Raw, N, Range of the statements' base: what they return and what they turn. -/
import Derived.Test.YtjclhlejbidpgaaGreatJ11
import Derived.Test.YtjclhlejbidpgaaGreatJ26
import Derived.Deep.QuietTactic
import Derived.BigQuiet
import Derived.Test.YtjclhlejbidpgaaGreatJ09
import Derived.Test.YtjclhlejbidpgaaGreatJ19
import Derived.Test.YtjclhlejbidpgaaGreatJ02
import Derived.IntWalk
namespace Go.Proofs.YtjclhlejbidpgaaGreat
open Go.RowKit
set_option linter.unusedVariables false

theorem Dl.more' {w : World} {B B' : Nat} {v : Value} {l : List Du} (h : Dl w B v l) (hB : B ≤ B') : Dl w B' v l := h.more hB
set_option maxHeartbeats 2000000 in
theorem rsame5_yes (A A' : Option Addr) (n n' c c' : Nat) (l : List Du) (w : World) (B B' : Nat) (hv : Dl w B (.slice A n c) l) (hv' : Dl w B' (.slice A' n' c') l) :
    Calls Tryz.prog 52 #[.slice A n c, .slice A' n' c'] w fun e w' => e = .returned (.bool true) ∧ Below w.heap.size w w' := by
  obtain ⟨rfl, hm1, hm2⟩ := hv.len
  obtain ⟨rfl, hm1', hm2'⟩ := hv'.len
  have hL : l.length ≤ 9223372036854775807 := by unfold maxLen at hm2; omega
  have HV := Lib.hid hv
  have HV' := Lib.hid hv'
  have HB := Lib.hid (Below.refl w.heap.size w)
  clear hv hm1 hm2 hv' hm1' hm2'
  go_enter Tryz.func52, Tryz.ntmps52
  go_wp2
  go_loopw [5] (fun i wr => ∃ k : Nat, k ≤ l.length ∧ i = .int .i64 k ∧ Dl wr B (.slice A l.length c) l ∧ Dl wr B' (.slice A' l.length c') l ∧ Below w.heap.size w wr) (fun i _ => l.length - (intOf i).toNat)
  case atStart => exact ⟨0, by omega, rfl, HV.out, HV'.out, HB.out⟩
  case round =>
    obtain ⟨k, hk, rfl, hv, hv', hb⟩ := hrel
    have HV := Lib.hid hv
    have HV' := Lib.hid hv'
    have HB := Lib.hid hb
    clear hv hv' hb
    by_cases hlt : k < l.length
    · obtain ⟨b, o, rfl, hb, c0, c1⟩ := HV.out.atg hlt
      obtain ⟨b', o', rfl, hb', d0, d1⟩ := HV'.out.atg hlt
      generalize ge l k = M at *
      have hne := neqd_no M
      go_wp2
      go_quiet (fail)
      go_wp2
      go_roundw
      case rel => exact ⟨k + 1, by omega, by go_num, HV.out.drewN _, HV'.out.drewN _, bel_drewN HB.out _⟩
      case measure => simp [intOf]; omega
    · go_wp2
      go_ret
      exact ⟨rfl, HB.out⟩

end Go.Proofs.YtjclhlejbidpgaaGreat
namespace Go.Proofs.YtjclhlejbidpgaaGreat
open Go.RowKit
set_option linter.unusedVariables false

set_option maxHeartbeats 2000000 in
theorem rsamel_yes (A A' : Option Addr) (n n' c c' : Nat) (l : List Le) (w : World) (B B' : Nat) (hv : El w B (.slice A n c) l) (hv' : El w B' (.slice A' n' c') l) :
    Calls Tryz.prog 51 #[.slice A n c, .slice A' n' c'] w fun e w' => e = .returned (.bool true) ∧ Below w.heap.size w w' := by
  obtain ⟨rfl, hm1, hm2⟩ := hv.len
  obtain ⟨rfl, hm1', hm2'⟩ := hv'.len
  have hL : l.length ≤ 9223372036854775807 := by unfold maxLen at hm2; omega
  have HV := Lib.hid hv
  have HV' := Lib.hid hv'
  have HB := Lib.hid (Below.refl w.heap.size w)
  clear hv hm1 hm2 hv' hm1' hm2'
  go_enter Tryz.func51, Tryz.ntmps51
  go_wp2
  go_loopw [5] (fun i wr => ∃ k : Nat, k ≤ l.length ∧ i = .int .i64 k ∧ El wr B (.slice A l.length c) l ∧ El wr B' (.slice A' l.length c') l ∧ Below w.heap.size w wr) (fun i _ => l.length - (intOf i).toNat)
  case atStart => exact ⟨0, by omega, rfl, HV.out, HV'.out, HB.out⟩
  case round =>
    obtain ⟨k, hk, rfl, hv, hv', hb⟩ := hrel
    have HV := Lib.hid hv
    have HV' := Lib.hid hv'
    have HB := Lib.hid hb
    clear hv hv' hb
    by_cases hlt : k < l.length
    · obtain ⟨b, o, rfl, _⟩ := HV.out.some_ (by omega)
      obtain ⟨b', o', rfl, _⟩ := HV'.out.some_ (by omega)
      obtain ⟨⟨c0, c1, c2, c3, c4, c5, c6, c7⟩, hb⟩ := HV.out.c8 hlt
      obtain ⟨⟨d0, d1, d2, d3, d4, d5, d6, d7⟩, hb'⟩ := HV'.out.c8 hlt
      generalize l[k] = M at *
      have hne := neql M
      go_wp2
      go_quiet (fail)
      go_wp2
      go_roundw
      case rel => exact ⟨k + 1, by omega, by go_num, HV.out.drewN _, HV'.out.drewN _, bel_drewN HB.out _⟩
      case measure => simp [intOf]; omega
    · go_wp2
      go_ret
      exact ⟨rfl, HB.out⟩

set_option maxHeartbeats 2000000 in
theorem rtsame_yes (A A' : Option Addr) (n n' c c' : Nat) (l : List Le) (A2 A2' : Option Addr) (n2 n2' c2 c2' : Nat) (h : List Du) (w : World)
    (hv : El w w.heap.size (.slice A n c) l) (hv' : El w w.heap.size (.slice A' n' c') l) (hd : Dl w w.heap.size (.slice A2 n2 c2) h) (hd' : Dl w w.heap.size (.slice A2' n2' c2') h) :
    Calls Tryz.prog 23 #[tv A n c A2 n2 c2, tv A' n' c' A2' n2' c2'] w fun e w' => e = .returned (.bool true) ∧ Below w.heap.size w w' := by
  have HB := Lib.hid (((Below.refl w.heap.size w).alloc (Nat.le_refl _) (.cells #[.slice A n c, .slice A2 n2 c2] 25)).alloc (by simp) (.cells #[.slice A' n' c', .slice A2' n2' c2'] 25))
  have HE := Lib.hid (fun W (hb : Below w.heap.size w W) => rsamel_yes A A' n n' c c' l W _ _ (hv.below hb) (hv'.below hb))
  have HD := Lib.hid (fun W (hb : Below w.heap.size w W) => rsame5_yes A2 A2' n2 n2' c2 c2' h W _ _ (hd.below hb) (hd'.below hb))
  have HT := Lib.hid ((TB.start w A n c A2 n2 c2 25).below ((Below.refl (w.heap.size + 1) _).alloc (by simp) (.cells #[.slice A' n' c', .slice A2' n2' c2'] 25)) (Nat.lt_succ_self _))
  have HT' := Lib.hid (TB.start (w.alloc (.cells #[.slice A n c, .slice A2 n2 c2] 25)) A' n' c' A2' n2' c2' 25)
  rw [show (w.alloc (.cells #[.slice A n c, .slice A2 n2 c2] 25)).heap.size = w.heap.size + 1 by simp] at HT'
  clear hv hv' hd hd'
  go_enter Tryz.func23, Tryz.ntmps23
  go_wp2_with fail
  obtain ⟨p, hp⟩ : ∃ p, p = w.heap.size := ⟨_, rfl⟩
  obtain ⟨q, hq⟩ : ∃ q, q = w.heap.size + 1 := ⟨_, rfl⟩
  rw [← hq] at HT'
  rw [← hp] at HT
  rw [← hq, ← hp]
  clear hq hp
  generalize (w.alloc (.cells #[.slice A n c, .slice A2 n2 c2] 25)).alloc (.cells #[.slice A' n' c', .slice A2' n2' c2'] 25) = w2 at *
  refine (HE.out _ HB.out).mono ?_
  rintro e w3 ⟨rfl, hb⟩
  obtain ⟨t0, t1, tl⟩ := HT.out.below hb HT.out.2.2
  obtain ⟨s0, s1, sl⟩ := HT'.out.below hb HT'.out.2.2
  have HB3 := Lib.hid (HB.out.trans (hb.mono HB.out.size))
  clear hb
  go_wp2_with fail
  refine (HD.out _ HB3.out).mono ?_
  rintro e w4 ⟨rfl, hb⟩
  have HB4 := Lib.hid (HB3.out.trans (hb.mono HB3.out.size))
  clear hb
  go_wp2
  go_ret
  exact ⟨rfl, HB4.out⟩
end Go.Proofs.YtjclhlejbidpgaaGreat
namespace Go.Proofs.YtjclhlejbidpgaaGreat
open Go.RowKit
set_option linter.unusedVariables false

set_option maxHeartbeats 2000000 in
set_option maxRecDepth 20000 in
theorem raw_any (B g : Nat) (w : World) (h : SrcAt w B g) : Calls Tryz.prog 29 #[.pointer (some ⟨g, 0, none⟩)] w (SrInt B g (-9223372036854775808) 9223372036854775807 w) := by
  have H := Lib.hid h
  obtain ⟨hB, hg, A, n, c, k, zs, a1, a2, a3, a4, a5, a6, a7, a8, a9⟩ := h
  have HA := Lib.hid a8
  have HZ := Lib.hid a9
  have a2' : (n : Int) ≤ 4000 := by omega
  clear hB hg a2 a3 a4 a8 a9
  by_cases hk : k < n
  · have hk' : ¬ ((n : Int) ≤ (k : Int)) := by omega
    have hd : decide ((n : Int) ≤ (k : Int)) = false := decide_eq_false hk'
    obtain ⟨b, o, rfl, hb, hcell⟩ := HA.out.2 (by omega)
    have hzl : k < zs.length := by have := HA.out.1; simp at this; omega
    have hz := HZ.out zs[k] (List.getElem_mem hzl)
    have hcz := hcell k (i64v zs[k]) (by simp [hzl])
    unfold i64v at hcz
    generalize zs[k] = z at *
    have HZ2 := Lib.hid hz
    have hne1 : b ≠ g := by have := H.out.1; omega
    have hne2 : g ≠ b := fun e => hne1 e.symm
    have hk63 : (k : Int) < (n : Int) := by omega
    have hk0 : (0 : Int) ≤ (k : Int) := Int.natCast_nonneg _
    have hs : IntKind.i64.wrap ((k : Int) + 1 - 1) = k := by rw [IntWalk.i64_in _ (by omega)]; omega
    clear hcell hzl hz
    go_enter Tryz.func29, Tryz.ntmps29
    go_wp2
    go_quiet (fail)
    go_wp2
    go_quiet (fail)
    go_wp2
    go_ret
    exact ⟨z, rfl, HZ2.out.1, HZ2.out.2, ((H.out.drewN _).next a5 a6 (by omega)).drewN _, only_drewN (only_set (only_drewN (World.grownBy.refl _ _) _) (.inl rfl) _) _⟩
  · have hk' : (n : Int) ≤ (k : Int) := by omega
    have hd : decide ((n : Int) ≤ (k : Int)) = true := decide_eq_true hk'
    go_enter Tryz.func29, Tryz.ntmps29
    go_wp2
    go_quiet (fail)
    go_wp2
    go_ret
    exact ⟨0, rfl, by omega, by omega, H.out.drewN _, only_drewN (World.grownBy.refl _ _) _⟩

theorem tmod_gt (x n : Int) (h : 0 < n) : -n < x.tmod n := by
  have h1 := Int.tmod_lt_of_pos (-x) h
  rw [Int.neg_tmod] at h1
  omega

set_option maxHeartbeats 2000000 in
theorem n_any (B g : Nat) (w : World) (h : SrcAt w B g) (n : Int) (h1 : 1 ≤ n) (h2 : n ≤ 1073741824) : Calls Tryz.prog 12 #[.pointer (some ⟨g, 0, none⟩), .int .i64 n] w (SrInt B g 0 (n - 1) w) := by
  have HC := Lib.hid (raw_any B g w h)
  clear h
  go_enter Tryz.func12, Tryz.ntmps12
  go_wp2_with fail
  refine HC.out.mono ?_
  rintro e w1 ⟨x, rfl, hx1, hx2, hs, hg⟩
  have HS := Lib.hid hs
  have HG := Lib.hid hg
  have hr1 : x.tmod n < n := Int.tmod_lt_of_pos x (by omega)
  have hr2 : -n < x.tmod n := tmod_gt x n (by omega)
  clear hs hg
  by_cases hr : x.tmod n < 0
  · go_wp2
    go_ret
    exact ⟨x.tmod n + n, rfl, by omega, by omega, HS.out, HG.out⟩
  · go_wp2
    go_ret
    exact ⟨x.tmod n, rfl, by omega, by omega, HS.out, HG.out⟩

set_option maxHeartbeats 2000000 in
theorem range_any (B g : Nat) (w : World) (h : SrcAt w B g) (lo hi : Int) (h0 : 0 ≤ lo) (h1 : lo ≤ hi) (h2 : hi ≤ 1073741823) : Calls Tryz.prog 10 #[.pointer (some ⟨g, 0, none⟩), .int .i64 lo, .int .i64 hi] w (SrInt B g lo hi w) := by
  have HC := Lib.hid (n_any B g w h (hi - lo + 1) (by omega) (by omega))
  clear h
  go_enter Tryz.func10, Tryz.ntmps10
  go_wp2_with fail
  refine HC.out.mono ?_
  rintro e w1 ⟨x, rfl, hx1, hx2, hs, hg⟩
  have HS := Lib.hid hs
  have HG := Lib.hid hg
  clear hs hg
  go_wp2
  go_ret
  exact ⟨lo + x, rfl, by omega, by omega, HS.out, HG.out⟩
set_option maxHeartbeats 2000000 in
theorem range2_any (B g : Nat) (w : World) (h : SrcAt w B g) (lo hi : Int) (h0 : -1000 ≤ lo) (h1 : lo ≤ hi) (h2 : hi ≤ 1000000) : Calls Tryz.prog 10 #[.pointer (some ⟨g, 0, none⟩), .int .i64 lo, .int .i64 hi] w (SrInt B g lo hi w) := by
  have HC := Lib.hid (n_any B g w h (hi - lo + 1) (by omega) (by omega))
  clear h
  go_enter Tryz.func10, Tryz.ntmps10
  go_wp2_with fail
  refine HC.out.mono ?_
  rintro e w1 ⟨x, rfl, hx1, hx2, hs, hg⟩
  have HS := Lib.hid hs
  have HG := Lib.hid hg
  clear hs hg
  go_wp2
  go_ret
  exact ⟨lo + x, rfl, by omega, by omega, HS.out, HG.out⟩
end Go.Proofs.YtjclhlejbidpgaaGreat
