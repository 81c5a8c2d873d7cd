/- What is proved here: due.Validate and slices.Clone of deadlines by contracts; due.siftUp by a contract; due.siftDown by a contract. -/
import Derived.Test.YtdilgeabcacbdaaJ18
import Derived.WalkSpells
import Derived.BigRegion
import Derived.Deep.CutRange
import Derived.Deep.QuietTactic
import Derived.BigQuiet
import Derived.Deep.DeepCutAuto
namespace Go.Proofs.Ytdilgeabcacbdaa
open Go.RowKit
set_option linter.unusedVariables false

set_option maxHeartbeats 2000000 in
theorem dvalid_any (A : Option Addr) (n c : Nat) (l : List Du) (w : World) (hv : Dl w w.heap.size (.slice A n c) l) :
    Calls Try.prog 112 #[.slice A n c] w fun e w' => e = .returned (.int .i64 (vaF l)) ∧ Below w.heap.size w w' := by
  obtain ⟨rfl, hm1, hm2⟩ := hv.len
  have HV := Lib.hid hv
  have HB := Lib.hid (Below.refl w.heap.size w)
  have H1 := Lib.hid (fun w1 hv => dcontains_any A l.length c l w1 hv)
  have H2 := Lib.hid (fun w1 hv => dsame_any A l.length c l w1 hv)
  have H3 := Lib.hid (fun h w1 hv => dordered_any A l.length c l w1 hv h)
  clear hv hm1 hm2
  by_cases h12 : 12 < l.length
  · have HR := Lib.hid (vaF_2 h12)
    have h12' : (12 : Int) < (l.length : Int) := by omega
    go_enter Try.func112, Try.ntmps112
    go_wp2
    go_ret
    exact ⟨by rw [HR.out]; rfl, HB.out⟩
  · have h12' : ¬ (12 : Int) < (l.length : Int) := by omega
    have H3 := Lib.hid (H3.out (by omega))
    have HL := Lib.hid (show l.length ≤ 12 by omega)
    have HC := Lib.hid (fun a b d => And.intro (vaF_1 (h := l) HL.out) (And.intro (fun x => vaF_10 (h := l) HL.out x a) (And.intro (fun x y => vaF_11 (h := l) HL.out x y b) (fun x y => vaF_0 (h := l) HL.out x y d))))
    cases hs : snD l with
    | false =>
      have HR := Lib.hid (vaF_1 (h := l) HL.out hs)
      rw [hs] at H1
      go_enter Try.func112, Try.ntmps112
      go_wp2_with fail
      refine (H1.out _ HV.out).mono ?_
      rintro e w1 ⟨rfl, hb⟩
      have HB1 := Lib.hid hb
      clear hb
      go_wp2
      go_ret
      exact ⟨by rw [HR.out]; rfl, HB1.out⟩
    | true =>
      rw [hs] at H1
      cases hd : dpD l with
      | true =>
        have HR := Lib.hid (vaF_10 (h := l) HL.out hs hd)
        rw [hd] at H2
        go_enter Try.func112, Try.ntmps112
        go_wp2_with fail
        refine (H1.out _ HV.out).mono ?_
        rintro e w1 ⟨rfl, hb⟩
        have HB1 := Lib.hid hb
        clear hb
        go_wp2_with fail
        refine (H2.out _ (HV.out.up HB1.out)).mono ?_
        rintro e w2 ⟨rfl, hb⟩
        have HB2 := Lib.hid (HB1.out.trans (hb.mono HB1.out.size))
        clear hb
        go_wp2
        go_ret
        exact ⟨by rw [HR.out]; rfl, HB2.out⟩
      | false =>
        rw [hd] at H2
        cases ho : hpD l with
        | false =>
          have HR := Lib.hid (vaF_11 (h := l) HL.out hs hd ho)
          rw [ho] at H3
          go_enter Try.func112, Try.ntmps112
          go_wp2_with fail
          refine (H1.out _ HV.out).mono ?_
          rintro e w1 ⟨rfl, hb⟩
          have HB1 := Lib.hid hb
          clear hb
          go_wp2_with fail
          refine (H2.out _ (HV.out.up HB1.out)).mono ?_
          rintro e w2 ⟨rfl, hb⟩
          have HB2 := Lib.hid (HB1.out.trans (hb.mono HB1.out.size))
          clear hb
          go_wp2_with fail
          refine (H3.out _ (HV.out.up HB2.out)).mono ?_
          rintro e w3 ⟨rfl, hb⟩
          have HB3 := Lib.hid (HB2.out.trans (hb.mono HB2.out.size))
          clear hb
          go_wp2
          go_ret
          exact ⟨by rw [HR.out]; rfl, HB3.out⟩
        | true =>
          have HR := Lib.hid (vaF_0 (h := l) HL.out hs hd ho)
          rw [ho] at H3
          go_enter Try.func112, Try.ntmps112
          go_wp2_with fail
          refine (H1.out _ HV.out).mono ?_
          rintro e w1 ⟨rfl, hb⟩
          have HB1 := Lib.hid hb
          clear hb
          go_wp2_with fail
          refine (H2.out _ (HV.out.up HB1.out)).mono ?_
          rintro e w2 ⟨rfl, hb⟩
          have HB2 := Lib.hid (HB1.out.trans (hb.mono HB1.out.size))
          clear hb
          go_wp2_with fail
          refine (H3.out _ (HV.out.up HB2.out)).mono ?_
          rintro e w3 ⟨rfl, hb⟩
          have HB3 := Lib.hid (HB2.out.trans (hb.mono HB2.out.size))
          clear hb
          go_wp2
          go_ret
          exact ⟨by rw [HR.out]; rfl, HB3.out⟩

end Go.Proofs.Ytdilgeabcacbdaa
namespace Go.Proofs.Ytdilgeabcacbdaa
open Go.RowKit
set_option linter.unusedVariables false

/-- A row of elements in a block that may be written, behind a walk that turned nothing before the block. -/
structure RwAt (w : World) (q n : Nat) (h : List Du) (W : World) : Prop where
  row : DRow W q n (ge h)
  len : h.length = n
  bel : Below q w W
section
variable {w W W' : World} {q n : Nat} {h : List Du}
theorem RwAt.below (r : RwAt w q n h W) (hb : Below W.heap.size W W') : RwAt w q n h W' := ⟨r.row.below hb r.row.1, r.len, r.bel.trans (hb.mono (Nat.le_of_lt r.row.1))⟩
theorem RwAt.drew (r : RwAt w q n h W) : RwAt w q n h W.drew := ⟨r.row.drew, r.len, r.bel.drew⟩
theorem RwAt.drewN (r : RwAt w q n h W) (k : Nat) : RwAt w q n h (W.drewN k) := ⟨r.row, r.len, ⟨r.bel.os, r.bel.tape, r.bel.output, r.bel.size, r.bel.block⟩⟩
/-- Two elements are exchanged. -/
theorem RwAt.swap (r : RwAt w q n h W) {i k : Nat} (hi : i < n) (hk : k < n) : RwAt w q n (swp h i k) ((((W.setCell ⟨q, i * 2, none⟩ (.int .i64 (ge h k).dl)).setCell ⟨q, i * 2 + 1, none⟩ (.int .i64 (ge h k).id)).setCell ⟨q, k * 2, none⟩ (.int .i64 (ge h i).dl)).setCell ⟨q, k * 2 + 1, none⟩ (.int .i64 (ge h i).id)) := by
  refine ⟨((r.row.put hi (ge h k)).put hk (ge h i)).congr fun t ht => ?_, by rw [swp_len]; exact r.len, (((r.bel.setCell (p := ⟨q, i * 2, none⟩) (Nat.le_refl _) _).setCell (p := ⟨q, i * 2 + 1, none⟩) (Nat.le_refl _) _).setCell (p := ⟨q, k * 2, none⟩) (Nat.le_refl _) _).setCell (p := ⟨q, k * 2 + 1, none⟩) (Nat.le_refl _) _⟩
  rw [ge_swp (by rw [r.len]; exact hi) (by rw [r.len]; exact hk)]
end

end Go.Proofs.Ytdilgeabcacbdaa
namespace Go.Proofs.Ytdilgeabcacbdaa
open Go.RowKit
set_option linter.unusedVariables false

end Go.Proofs.Ytdilgeabcacbdaa
