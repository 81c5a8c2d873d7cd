/- What is proved here: Raw, N, Range of the statements' base: what they return and what they turn; directory.within, directory.find, slices.IndexFunc over its closure, coversSpace, hasSameShard, slotTest by contracts; slices.Clone of spans and of numbers by contracts: the copies are the call's own; (plain) 'copy' between rows whose elements take more than one cell; rows known whole. -/
import Derived.Test.YtommkhjgockpfaaJ15
import Derived.Test.YtommkhjgockpfaaRows
import Derived.Test.YtommkhjgockpfaaJ02
import Derived.WalkKit
import Derived.Outline
import Derived.IntWalk
import Derived.Deep.QuietTactic
import Derived.BigQuiet
import Derived.Deep.RegionHeld3
import Derived.Deep.DrawnRows
import Derived.Deep.RegionWith
import Derived.Deep.AppendLies
import Derived.WalkSpells
import Derived.Lib.AppendZerosOnto
import Derived.Laws.CopyRow
import Derived.Laws.CopyOwn
import Derived.Deep.RegionLaw
namespace Go.Proofs.Ytommkhjgockpfaa
open Go.RowKit
set_option linter.unusedVariables false

set_option maxHeartbeats 2000000 in
set_option maxRecDepth 20000 in
theorem raw_any (B g : Nat) (w : World) (h : SrcAt w B g) : Calls Try.prog 24 #[.pointer (some ⟨g, 0, none⟩)] w (SrInt B g (-9223372036854775808) 9223372036854775807 w) := by
  have H := Lib.hid h
  obtain ⟨hB, hg, A, n, c, k, zs, a1, a2, a3, a4, a5, a6, a7, a8, a9⟩ := h
  have HA := Lib.hid a8
  have HZ := Lib.hid a9
  have a2' : (n : Int) ≤ 4000 := by omega
  clear hB hg a2 a3 a4 a8 a9
  by_cases hk : k < n
  · have hk' : ¬ ((n : Int) ≤ (k : Int)) := by omega
    have hd : decide ((n : Int) ≤ (k : Int)) = false := decide_eq_false hk'
    obtain ⟨b, o, rfl, hb, hcell⟩ := HA.out.2 (by omega)
    have hzl : k < zs.length := by have := HA.out.1; simp at this; omega
    have hz := HZ.out zs[k] (List.getElem_mem hzl)
    have hcz := hcell k (i64v zs[k]) (by simp [hzl])
    unfold i64v at hcz
    generalize zs[k] = z at *
    have HZ2 := Lib.hid hz
    have hne1 : b ≠ g := by have := H.out.1; omega
    have hne2 : g ≠ b := fun e => hne1 e.symm
    have hk63 : (k : Int) < (n : Int) := by omega
    have hk0 : (0 : Int) ≤ (k : Int) := Int.natCast_nonneg _
    have hs : IntKind.i64.wrap ((k : Int) + 1 - 1) = k := by rw [IntWalk.i64_in _ (by omega)]; omega
    clear hcell hzl hz
    go_enter Try.func24, Try.ntmps24
    go_wp2
    go_quiet (fail)
    go_wp2
    go_quiet (fail)
    go_wp2
    go_ret
    exact ⟨z, rfl, HZ2.out.1, HZ2.out.2, ((H.out.drewN _).next a5 a6 (by omega)).drewN _, only_drewN (only_set (only_drewN (World.grownBy.refl _ _) _) (.inl rfl) _) _⟩
  · have hk' : (n : Int) ≤ (k : Int) := by omega
    have hd : decide ((n : Int) ≤ (k : Int)) = true := decide_eq_true hk'
    go_enter Try.func24, Try.ntmps24
    go_wp2
    go_quiet (fail)
    go_wp2
    go_ret
    exact ⟨0, rfl, by omega, by omega, H.out.drewN _, only_drewN (World.grownBy.refl _ _) _⟩

theorem tmod_gt (x n : Int) (h : 0 < n) : -n < x.tmod n := by
  have h1 := Int.tmod_lt_of_pos (-x) h
  rw [Int.neg_tmod] at h1
  omega

set_option maxHeartbeats 2000000 in
theorem n_any (B g : Nat) (w : World) (h : SrcAt w B g) (n : Int) (h1 : 1 ≤ n) (h2 : n ≤ 1073741824) : Calls Try.prog 8 #[.pointer (some ⟨g, 0, none⟩), .int .i64 n] w (SrInt B g 0 (n - 1) w) := by
  have HC := Lib.hid (raw_any B g w h)
  clear h
  go_enter Try.func8, Try.ntmps8
  go_wp2_with fail
  refine HC.out.mono ?_
  rintro e w1 ⟨x, rfl, hx1, hx2, hs, hg⟩
  have HS := Lib.hid hs
  have HG := Lib.hid hg
  have hr1 : x.tmod n < n := Int.tmod_lt_of_pos x (by omega)
  have hr2 : -n < x.tmod n := tmod_gt x n (by omega)
  clear hs hg
  by_cases hr : x.tmod n < 0
  · go_wp2
    go_ret
    exact ⟨x.tmod n + n, rfl, by omega, by omega, HS.out, HG.out⟩
  · go_wp2
    go_ret
    exact ⟨x.tmod n, rfl, by omega, by omega, HS.out, HG.out⟩

set_option maxHeartbeats 2000000 in
theorem range2_any (B g : Nat) (w : World) (h : SrcAt w B g) (lo hi : Int) (h0 : -1000 ≤ lo) (h1 : lo ≤ hi) (h2 : hi ≤ 1000000) : Calls Try.prog 9 #[.pointer (some ⟨g, 0, none⟩), .int .i64 lo, .int .i64 hi] w (SrInt B g lo hi w) := by
  have HC := Lib.hid (n_any B g w h (hi - lo + 1) (by omega) (by omega))
  clear h
  go_enter Try.func9, Try.ntmps9
  go_wp2_with fail
  refine HC.out.mono ?_
  rintro e w1 ⟨x, rfl, hx1, hx2, hs, hg⟩
  have HS := Lib.hid hs
  have HG := Lib.hid hg
  clear hs hg
  go_wp2
  go_ret
  exact ⟨lo + x, rfl, by omega, by omega, HS.out, HG.out⟩
end Go.Proofs.Ytommkhjgockpfaa
namespace Go.Proofs.Ytommkhjgockpfaa
open Go.RowKit
set_option linter.unusedVariables false

/-- A number from lo to hi. -/
def wiR (n lo hi : Int) : Bool := decide (lo ≤ n ∧ n ≤ hi)
theorem wiR_true {n lo hi : Int} (h1 : lo ≤ n) (h2 : n ≤ hi) : wiR n lo hi = true := decide_eq_true ⟨h1, h2⟩
theorem wiR_low {n lo hi : Int} (h1 : ¬ lo ≤ n) : wiR n lo hi = false := decide_eq_false (fun h => h1 h.1)
theorem wiR_high {n lo hi : Int} (h1 : ¬ n ≤ hi) : wiR n lo hi = false := decide_eq_false (fun h => h1 h.2)
theorem rwithin_any (n lo hi : Int) (w : World) : Calls Try.prog 42 #[.int .i64 n, .int .i64 lo, .int .i64 hi] w fun e w' => e = .returned (.bool (wiR n lo hi)) ∧ w = w' := by
  by_cases h1 : lo ≤ n
  · by_cases h2 : n ≤ hi
    · have H := Lib.hid (wiR_true h1 h2)
      go_enter Try.func42, Try.ntmps42
      go_wp2
      go_ret
      exact ⟨by rw [H.out]; rfl, rfl⟩
    · have H := Lib.hid (wiR_high (lo := lo) h2)
      go_enter Try.func42, Try.ntmps42
      go_wp2
      go_ret
      exact ⟨by rw [H.out]; rfl, rfl⟩
  · have H := Lib.hid (wiR_low (hi := hi) h1)
    go_enter Try.func42, Try.ntmps42
    go_wp2
    go_ret
    exact ⟨by rw [H.out]; rfl, rfl⟩

theorem sfind1_any (d : Sp) (s : Int) (p : Nat) (w : World) (hp : p < w.heap.size) (hc : w.cell? ⟨p, 0, none⟩ = some (.int .i64 s)) :
    Calls Try.prog 86 #[d.v, .pointer (some ⟨p, 0, none⟩)] w fun e w' => e = .returned (.bool (decide (d.sh = s))) ∧ Below w.heap.size w w' := by
  have HB := Lib.hid ((Below.refl w.heap.size w).alloc (Nat.le_refl _) (.cells #[.int .i64 d.lo, .int .i64 d.hi, .int .i64 d.sh] 94))
  have HD := Lib.hid (show (d.sh == s) = decide (d.sh = s) by rw [Bool.eq_iff_iff]; simp)
  go_enter Try.func86, Try.ntmps86
  go_wp2
  go_ret
  exact ⟨by rw [← HD.out]; rfl, HB.out⟩

set_option maxHeartbeats 1000000 in
theorem sixfunc_any (A : Option Addr) (n c : Nat) (l : List Sp) (s : Int) (p : Nat) (w : World) (hv : Pl w w.heap.size (.slice A n c) l) (hp : p < w.heap.size) (hc : w.cell? ⟨p, 0, none⟩ = some (.int .i64 s)) :
    Calls Try.prog 85 #[.slice A n c, .func (.func 86) #[] #[.pointer (some ⟨p, 0, none⟩)]] w fun e w' => e = .returned (.int .i64 (ixS l s)) ∧ Below w.heap.size w w' := by
  obtain ⟨rfl, hm1, hm2⟩ := hv.len
  have hL : l.length ≤ 9223372036854775807 := by unfold maxLen at hm2; omega
  have HV := Lib.hid hv
  have HP := Lib.hid hp
  have HC := Lib.hid hc
  have HB := Lib.hid (Below.refl w.heap.size w)
  clear hv hm1 hm2 hp hc
  go_enter Try.func85, Try.ntmps85
  go_wp2
  go_loopw [8] (fun i wr => ∃ k : Nat, k ≤ l.length ∧ i = .int .i64 k ∧ Below w.heap.size w wr ∧ ∀ j, j < k → (sg l j).sh ≠ s) (fun i _ => l.length - (intOf i).toNat)
  case atStart => exact ⟨0, by omega, rfl, HB.out, fun j h => absurd h (by omega)⟩
  case round =>
    obtain ⟨k, hk, rfl, hb, hno⟩ := hrel
    have HN := Lib.hid hno
    have HVK := Lib.hid (HV.out.below hb)
    have HPK := Lib.hid (Nat.lt_of_lt_of_le HP.out hb.size)
    have HCK := Lib.hid ((hb.cell (p := ⟨p, 0, none⟩) HP.out).trans HC.out)
    have HB := Lib.hid hb
    clear hno hb
    by_cases hlt : k < l.length
    · obtain ⟨b, o, rfl, hb, c0, c1, c2⟩ := HVK.out.atg hlt
      have HF := Lib.hid (fun w1 hp hc => sfind1_any (sg l k) s p w1 hp hc)
      by_cases he : (sg l k).sh = s
      · have HR := Lib.hid (ixS_hit hlt he HN.out)
        rw [decide_eq_true he] at HF
        clear he
        generalize sg l k = M at *
        go_wp2_with fail
        refine (HF.out _ HPK.out HCK.out).mono ?_
        rintro e w1 ⟨rfl, hb1⟩
        have HB1 := Lib.hid (HB.out.trans (hb1.mono HB.out.size))
        clear hb1
        go_wp2
        go_ret
        exact ⟨by rw [HR.out]; rfl, HB1.out⟩
      · have HNN := Lib.hid (show ∀ j, j < k + 1 → (sg l j).sh ≠ s from fun j h => by
          by_cases e : j = k
          · rw [e]; exact he
          · exact HN.out j (by omega))
        rw [decide_eq_false he] at HF
        clear he
        generalize sg l k = M at *
        go_wp2_with fail
        refine (HF.out _ HPK.out HCK.out).mono ?_
        rintro e w1 ⟨rfl, hb1⟩
        have HB1 := Lib.hid (HB.out.trans (hb1.mono HB.out.size))
        clear hb1
        go_wp2
        go_roundw
        case rel => exact ⟨k + 1, by omega, by go_num, HB1.out, HNN.out⟩
        case measure => simp [intOf]; omega
    · have HR := Lib.hid (ixS_none (s := s) (fun j hj => HN.out j (by omega)))
      go_wp2
      go_ret
      exact ⟨by rw [HR.out]; rfl, HB.out⟩

theorem sfind_any (A : Option Addr) (n c : Nat) (l : List Sp) (s : Int) (w : World) (hv : Pl w w.heap.size (.slice A n c) l) :
    Calls Try.prog 64 #[.slice A n c, .int .i64 s] w fun e w' => e = .returned (.int .i64 (ixS l s)) ∧ Below w.heap.size w w' := by
  have HC := Lib.hid (sixfunc_any A n c l s w.heap.size (w.alloc (.cells #[.int .i64 s] 3)) ((hv.alloc (Nat.le_refl _) _).more (by simp)) (by simp) (by simp [go_sem]))
  have HB := Lib.hid ((Below.refl w.heap.size w).alloc (Nat.le_refl _) (.cells #[.int .i64 s] 3))
  have hmf : ∀ (fn : Fn) (first cap : Array Value) (w : World), (Instr.makeFunc fn first cap).run Try.prog w = .ok (.func fn first cap) w := fun _ _ _ _ => rfl
  clear hv
  generalize ixS l s = r at *
  go_enter Try.func64, Try.ntmps64
  go_wp2_with fail
  refine HC.out.mono ?_
  rintro e w1 ⟨rfl, hb1⟩
  have HB1 := Lib.hid (HB.out.trans (hb1.mono HB.out.size))
  clear hb1
  go_wp2
  go_ret
  exact ⟨rfl, HB1.out⟩

set_option maxHeartbeats 2000000 in
theorem scovers_any (A : Option Addr) (n c : Nat) (l : List Sp) (w : World) (hv : Pl w w.heap.size (.slice A n c) l) :
    Calls Try.prog 79 #[.slice A n c] w fun e w' => e = .returned (.bool (cvD 0 l)) ∧ Below w.heap.size w w' := by
  obtain ⟨rfl, hm1, hm2⟩ := hv.len
  have hL : l.length ≤ 9223372036854775807 := by unfold maxLen at hm2; omega
  have HV := Lib.hid hv
  have HB := Lib.hid (Below.refl w.heap.size w)
  have HN0 := Lib.hid (nxD_zero l)
  clear hv hm1 hm2
  go_enter Try.func79, Try.ntmps79
  go_wp2
  go_loopw [3, 8] (fun nx i wr => ∃ k : Nat, k ≤ l.length ∧ i = .int .i64 k ∧ nx = .int .i64 (nxD l k) ∧ Below w.heap.size w wr ∧ ∀ j, j < k → spK l j) (fun _ i _ => l.length - (intOf i).toNat)
  case atStart => exact ⟨0, by omega, rfl, by rw [HN0.out], HB.out, fun j h => absurd h (by omega)⟩
  case round =>
    obtain ⟨k, hk, rfl, rfl, hb, hno⟩ := hrel
    have HN := Lib.hid hno
    have HVK := Lib.hid (HV.out.below hb)
    have HB := Lib.hid hb
    clear hno hb
    by_cases hlt : k < l.length
    · obtain ⟨b, o, rfl, hb, c0, c1, c2⟩ := HVK.out.atg hlt
      have HW := Lib.hid (fun w1 => rwithin_any (sg l k).hi (sg l k).lo 65535 w1)
      have HX := Lib.hid (nxD_succ l k)
      have HA := Lib.hid (HB.out.alloc HB.out.size (.cells #[.int .i64 (sg l k).lo, .int .i64 (sg l k).hi, .int .i64 (sg l k).sh] 94))
      by_cases hs : spK l k
      · have HNN := Lib.hid (show ∀ j, j < k + 1 → spK l j from fun j h => by
          by_cases e : j = k
          · rw [e]; exact hs
          · exact HN.out j (by omega))
        obtain ⟨h1, h2, h3⟩ := hs
        have hne : ((sg l k).lo != nxD l k) = false := by simpa using h1
        rw [wiR_true h2 h3] at HW
        have hh1 : -9223372036854775808 ≤ (sg l k).hi ∨ True := .inr trivial
        have HNX : nxD l k = (sg l k).lo := h1.symm
        have h0 : 0 ≤ (sg l k).lo := by
          rw [h1]
          cases k with
          | zero => rw [nxD_zero]; omega
          | succ k => rw [nxD_succ]; have := (HN.out k (by omega)).1; have := (HN.out k (by omega)).2.1; exact (by
              have hq : ∀ j, j < k + 1 → 0 ≤ (sg l j).hi + 1 := fun j => by
                induction j with
                | zero => intro hj; have a := (HN.out 0 hj).1; have b := (HN.out 0 hj).2.1; rw [nxD_zero] at a; omega
                | succ j ih => intro hj; have a := (HN.out (j + 1) hj).1; have b := (HN.out (j + 1) hj).2.1; have c := ih (by omega); rw [nxD_succ] at a; omega
              exact hq k (by omega))
        clear h1 hh1 HNX
        generalize nxD l k = nk at *
        generalize sg l k = M at *
        go_wp2_with fail
        refine (HW.out _).mono ?_
        rintro e w1 ⟨rfl, rfl⟩
        go_wp2
        go_roundw
        case rel => exact ⟨k + 1, by omega, by go_num, by rw [HX.out], HA.out, HNN.out⟩
        case measure => simp [intOf]; omega
      · have HR := Lib.hid (cvD_no hlt hs)
        by_cases h1 : (sg l k).lo = nxD l k
        · have hne : ((sg l k).lo != nxD l k) = false := by simpa using h1
          have hwf : wiR (sg l k).hi (sg l k).lo 65535 = false := decide_eq_false fun h => hs ⟨h1, h.1, h.2⟩
          rw [hwf] at HW
          clear h1 hs hwf
          generalize nxD l k = nk at *
          generalize sg l k = M at *
          go_wp2_with fail
          refine (HW.out _).mono ?_
          rintro e w1 ⟨rfl, rfl⟩
          go_wp2
          go_ret
          exact ⟨by rw [HR.out]; rfl, HA.out⟩
        · have hne : ((sg l k).lo != nxD l k) = true := bne_iff_ne.2 h1
          clear h1 hs
          generalize nxD l k = nk at *
          generalize sg l k = M at *
          go_wp2
          go_ret
          exact ⟨by rw [HR.out]; rfl, HA.out⟩
    · obtain rfl : k = l.length := by omega
      have HR := Lib.hid (show (nxD l l.length == 65536) = cvD 0 l by rw [cvD_end HN.out, Bool.eq_iff_iff]; simp)
      go_wp2
      go_ret
      exact ⟨by rw [← HR.out]; rfl, HB.out⟩
end Go.Proofs.Ytommkhjgockpfaa
namespace Go.Proofs.Ytommkhjgockpfaa
open Go.RowKit
set_option linter.unusedVariables false

theorem info_sp : (Try.prog.info? 94).map (fun i => (i.zero, i.size, i.bytes)) = some (some (Sp.v zSp), 3, 24) := by kernel_rfl
/-- A copy, that the call owns. -/
def SPClP (w : World) (l : List Sp) (e : Ending) (w' : World) : Prop := ∃ v, e = .returned v ∧ w'.ownsRow w.heap.size 94 3 v l.length (scs l) ∧ Below w.heap.size w w'
theorem spclone_end {w w1 : World} {l : List Sp} {v1 : Value} {o : Obj} (hown : w1.ownsRow w.heap.size 94 3 v1 (0 + l.length) ([] ++ scs l)) (hg : (w.alloc o).grownBy w1 (Value.ownBlock (.slice (some ⟨w.heap.size, 0, none⟩) 0 0))) : SPClP w l (.returned v1) w1 := by
  rw [Nat.zero_add, List.nil_append] at hown
  exact ⟨v1, rfl, hown, (((Below.refl _ _).alloc (Nat.le_refl _) o)).grown hg (by simp) (fun k hk => by simp [Value.ownBlock] at hk; omega)⟩

set_option maxHeartbeats 2000000 in
theorem spclone_any (A : Option Addr) (n c : Nat) (l : List Sp) (w : World) (hv : Pl w w.heap.size (.slice A n c) l) (h2 : n ≤ 1000) :
    Calls Try.prog 74 #[.slice A n c] w (SPClP w l) := by
  obtain ⟨rfl, hm1, hm2⟩ := hv.len
  obtain ⟨i0, hi0, hz0⟩ := Option.map_eq_some_iff.1 info_sp
  simp only [Prod.mk.injEq] at hz0
  have HI := Lib.hid hi0
  have HZ := Lib.hid hz0
  have HV := Lib.hid hv
  have heq : ∀ W, (binOp .eql 42 (.slice A l.length c) (.slice none 0 0)).run Try.prog W = .ok (.bool A.isNone) W := fun W => Lib.run_eql_slice_nil W _ _ _ _ _ _ _ Try.underlying42
  have HRD := Lib.hid hv.rd
  clear hv hi0 hz0
  cases A with
  | none =>
    have hl : l = [] := by
      cases l with
      | nil => rfl
      | cons d l => obtain ⟨b, o, e, _⟩ := HRD.out.2 (by simp); cases e
    subst hl
    have HP := Lib.hid (show SPClP w [] (.returned (.slice none 0 0)) w from ⟨_, rfl, World.ownsRow_nil w _ _ _, Below.refl _ _⟩)
    simp only [List.length_nil, Option.isNone_none] at heq ⊢
    go_enter Try.func74, Try.ntmps74
    go_wp2
    go_ret
    exact HP.out
  | some a =>
    simp only [Option.isNone_some] at heq
    go_enter Try.func74, Try.ntmps74
    go_wp2_with (at_builtin; refine wpList_append_rd _ rfl (.tmp 5) (.tmp 6) 42 rfl w.heap.size 94 i0 _ 3 24 Try.underlying42 HI.out HZ.out.1 HZ.out.2.1 HZ.out.2.2 rfl (by omega) (.slice (some ⟨w.heap.size, 0, none⟩) 0 0) 0 [] rfl (World.ownsRow_made w #[] 0 (Nat.le_refl _) (Nat.zero_le _) rfl) w.heap.size (some a) l.length c (scs l) rfl (HV.out.alloc (Nat.le_refl _) _).rd (scs_one l) (by unfold maxLen; omega) (by omega) (by simp) ?_; intro v1 w1 hown1 hg1 hat1)
    have HP := Lib.hid (spclone_end hown1 hg1)
    clear hown1 hg1 hat1
    go_wp2
    go_ret
    exact HP.out

theorem info_ni : (Try.prog.info? 3).map (fun i => (i.zero, i.size, i.bytes)) = some (some (.int .i64 0), 1, 8) := by kernel_rfl
/-- A copy, that the call owns. -/
def NIClP (w : World) (l : List Int) (e : Ending) (w' : World) : Prop := ∃ v, e = .returned v ∧ w'.ownsRow w.heap.size 3 1 v l.length (ics l) ∧ Below w.heap.size w w'
theorem niclone_end {w w1 : World} {l : List Int} {v1 : Value} {o : Obj} (hown : w1.ownsRow w.heap.size 3 1 v1 (0 + l.length) ([] ++ ics l)) (hg : (w.alloc o).grownBy w1 (Value.ownBlock (.slice (some ⟨w.heap.size, 0, none⟩) 0 0))) : NIClP w l (.returned v1) w1 := by
  rw [Nat.zero_add, List.nil_append] at hown
  exact ⟨v1, rfl, hown, (((Below.refl _ _).alloc (Nat.le_refl _) o)).grown hg (by simp) (fun k hk => by simp [Value.ownBlock] at hk; omega)⟩

set_option maxHeartbeats 2000000 in
theorem niclone_any (A : Option Addr) (n c : Nat) (l : List Int) (w : World) (hv : Fl w w.heap.size (.slice A n c) l) (h2 : n ≤ 1000) :
    Calls Try.prog 25 #[.slice A n c] w (NIClP w l) := by
  obtain ⟨rfl, hm1, hm2⟩ := hv.len
  obtain ⟨i0, hi0, hz0⟩ := Option.map_eq_some_iff.1 info_ni
  simp only [Prod.mk.injEq] at hz0
  have HI := Lib.hid hi0
  have HZ := Lib.hid hz0
  have HV := Lib.hid hv
  have heq : ∀ W, (binOp .eql 22 (.slice A l.length c) (.slice none 0 0)).run Try.prog W = .ok (.bool A.isNone) W := fun W => Lib.run_eql_slice_nil W _ _ _ _ _ _ _ Try.underlying22
  have HRD := Lib.hid hv.rd
  clear hv hi0 hz0
  cases A with
  | none =>
    have hl : l = [] := by
      cases l with
      | nil => rfl
      | cons d l => obtain ⟨b, o, e, _⟩ := HRD.out.2 (by simp); cases e
    subst hl
    have HP := Lib.hid (show NIClP w [] (.returned (.slice none 0 0)) w from ⟨_, rfl, World.ownsRow_nil w _ _ _, Below.refl _ _⟩)
    simp only [List.length_nil, Option.isNone_none] at heq ⊢
    go_enter Try.func25, Try.ntmps25
    go_wp2
    go_ret
    exact HP.out
  | some a =>
    simp only [Option.isNone_some] at heq
    go_enter Try.func25, Try.ntmps25
    go_wp2_with (at_builtin; refine wpList_append_rd _ rfl (.tmp 5) (.tmp 6) 22 rfl w.heap.size 3 i0 _ 1 8 Try.underlying22 HI.out HZ.out.1 HZ.out.2.1 HZ.out.2.2 rfl (by omega) (.slice (some ⟨w.heap.size, 0, none⟩) 0 0) 0 [] rfl (World.ownsRow_made w #[] 0 (Nat.le_refl _) (Nat.zero_le _) rfl) w.heap.size (some a) l.length c (ics l) rfl (HV.out.alloc (Nat.le_refl _) _).rd (ics_one l) (by unfold maxLen; omega) (by omega) (by simp) ?_; intro v1 w1 hown1 hg1 hat1)
    have HP := Lib.hid (niclone_end hown1 hg1)
    clear hown1 hg1 hat1
    go_wp2
    go_ret
    exact HP.out

end Go.Proofs.Ytommkhjgockpfaa
namespace Go.Proofs.Ytommkhjgockpfaa
open Go.RowKit
set_option linter.unusedVariables false

section
variable {P : Program}
theorem run_copy_sized (w : World) (dT sT ty elem : TypeId) (size g o dLen dCap : Nat) (a : Addr) (sLen sCap : Nat) (cur : List Value) (t : TypeId) (cs : List Value)
    (hu : P.underlying dT = some (.slice elem)) (hs : (P.info? elem).map (·.size) = some size)
    (hg : w.heap[g]? = some (.cells cur.toArray t (0, 0))) (hn : cs.length = Nat.min sLen dLen * size)
    (hsrc : ∀ j v, cs[j]? = some v → w.cell? (a.add j) = some v) (hfit : o + cs.length ≤ cur.length) (h1 : ∀ v ∈ cs, v.oneCell' = true) :
    (Builtin.copy_ #[dT, sT] ty #[.slice (some ⟨g, o, none⟩) dLen dCap, .slice (some a) sLen sCap]).run P w =
      .ok (goInt (Nat.min sLen dLen)) (w.setRow g (splice cur o cs).toArray) := by
  have hl := run_loadCells_list (P := P) w a cs hsrc
  have hst := run_storeCells_at P g o t cs 0 cur.toArray w hg (by simpa using hfit) h1
  cases hq : P.info? elem with
  | none => simp [hq] at hs
  | some i =>
    have hi : i.size = size := by simpa [hq] using hs
    have e : w.setRow g (cur.take o ++ cs ++ cur.drop (o + cs.length)).toArray = w.setRow g (splice cur o cs).toArray := by
      unfold splice; rw [List.append_assoc]
    simp [Builtin.copy_, run_underlying hu, Builtin.lenOf, Builtin.firstCells, sizeOf, typeInfo, hq, hi, ← hn, hl, hst]
    rw [← e]
    simp
end

/-- A row of leases that is known whole: block g has the cells cur. -/
abbrev Rw (W : World) (g : Nat) (t : TypeId) (cur : List Value) : Prop := W.heap[g]? = some (.cells cur.toArray t (0, 0))
section
variable {W : World} {g base n cap size : Nat} {t e : TypeId} {cur xs : List Value} {v : Value}
theorem Rw.set (h : Rw W g t cur) (o : Nat) (cs : List Value) : Rw (W.setRow g (splice cur o cs).toArray) g t (splice cur o cs) := setRow_heap W g _ _ t _ h
theorem Rw.cell (h : Rw W g t cur) {j : Nat} {u : Value} (hj : cur[j]? = some u) : W.cell? ⟨g, j, none⟩ = some u := by
  simp [World.cell?, h, hj]
theorem Rw.of_own (h : W.ownsRow base e size v n xs) (h0 : 0 < n) : ∃ g cap cur, v = .slice (some ⟨g, 0, none⟩) n cap ∧ base ≤ g ∧ Rw W g e cur ∧ n ≤ cap ∧ cap ≤ maxLen ∧ cur.length = cap * size ∧ cur.take (n * size) = xs := by
  rcases h.2 with ⟨_, h⟩ | ⟨g, cap, cur, hv, hb, hh, hl, hm, hs, ht⟩
  · omega
  · exact ⟨g, cap, cur.toList, hv, hb, by simpa using hh, hl, hm, by simpa using hs, ht⟩
theorem Rw.own (h : Rw W g e cur) (hb : base ≤ g) (hl : n ≤ cap) (hm : cap ≤ maxLen) (hs : cur.length = cap * size) (ht : cur.take (n * size) = xs) : W.ownsRow base e size (.slice (some ⟨g, 0, none⟩) n cap) n xs := by
  refine ⟨?_, .inr ⟨g, cap, cur.toArray, rfl, hb, h, hl, hm, by simpa using hs, by simpa using ht⟩⟩
  rw [← ht, List.length_take, hs]
  exact Nat.min_eq_left (Nat.mul_le_mul_right _ hl)
theorem Rw.lt (h : Rw W g t cur) : g < W.heap.size := (Array.getElem?_eq_some_iff.1 h).1
theorem splice_len (cur : List Value) (o : Nat) (cs : List Value) (h : o + cs.length ≤ cur.length) : (splice cur o cs).length = cur.length := length_splice cur o cs h
theorem grown_setRow (w : World) (g : Nat) (cs : Array Value) : w.grownBy (w.setRow g cs) (some g) :=
  ⟨rfl, rfl, rfl, by simp [World.setRow], fun k _ hne => setRow_other w g k cs (fun e => hne (by rw [e]))⟩
theorem Rw.grown {W W' : World} {g : Nat} {t : TypeId} {cur : List Value} {row : Option Nat} (h : Rw W g t cur) (hg : W.grownBy W' row) (hne : some g ≠ row) : Rw W' g t cur := (hg.block g h.lt hne).trans h
theorem Rw.below {W W' : World} {B g : Nat} {t : TypeId} {cur : List Value} (h : Rw W g t cur) (hb : Below B W W') (hl : g < B) : Rw W' g t cur := (hb.block g hl).trans h
theorem Rw.free {W : World} {g : Nat} {t : TypeId} {cur : List Value} (h : Rw W g t cur) (o : Nat) : W.frozen? ⟨g, o, none⟩ = false := by
  have h : W.heap[g]? = some (.cells cur.toArray t (0, 0)) := h
  simp [World.frozen?, h]
theorem Rw.fresh (w : World) (cs : Array Value) (t : TypeId) : Rw (w.alloc (.cells cs t)) w.heap.size t cs.toList := by
  show (w.heap.push (.cells cs t))[w.heap.size]? = some (.cells cs.toList.toArray t (0, 0))
  simp
section
variable {P : Program} {ops : Array Oper} {o : Oper} {a : Act} {w : World}
end
end
end Go.Proofs.Ytommkhjgockpfaa
