/- What is proved here: shardqueueref03.Encode, by one contract for all arguments. -/
import Derived.Test.YtjiampelmiaflaaMed
import Derived.Test.YtjiampelmiaflaaRpv
import Derived.Test.YtjiampelmiaflaaRtx
namespace Go.Proofs.Ytjiampelmiaflaa
open Go.RowKit
set_option linter.unusedVariables false

theorem row6 (M : Msg) (w1 : World) : ∀ j, j < 6 → (w1.alloc (.cells #[.int .i64 M.id, .int .i64 M.rt, .int .i64 M.ep, .int .i64 M.ct, .int .i64 M.gn, .int .i64 M.st] 3)).cell? ⟨w1.heap.size, j, none⟩ = some (.int .i64 (M.nth j)) := by
  intro j hj
  match j, hj with
  | 0, _ => simp [go_sem, Msg.nth]
  | 1, _ => simp [go_sem, Msg.nth]
  | 2, _ => simp [go_sem, Msg.nth]
  | 3, _ => simp [go_sem, Msg.nth]
  | 4, _ => simp [go_sem, Msg.nth]
  | 5, _ => simp [go_sem, Msg.nth]

theorem rencode_bad (M : Msg) (k : Int) (w : World) (h : vf M = k) (hk : k ≠ 0) : Calls Try.prog 30 #[M.v] w fun e w' => e = .returned (.tuple #[.slice none 0 0, .int .i64 k]) ∧ Below w.heap.size w w' := by
  have HC := Lib.hid (fun w => rvalidate_any M w)
  rw [h] at HC
  have hne : (k != 0) = true := bne_iff_ne.2 hk
  have HB := Lib.hid ((Below.refl w.heap.size w).alloc (Nat.le_refl _) (.cells M.cs 23))
  clear h hk
  go_enter Try.func30, Try.ntmps30
  go_wp2_with fail
  refine (HC.out _).mono ?_
  rintro e w1 ⟨rfl, hb⟩
  have HB1 := Lib.hid (HB.out.trans (hb.mono HB.out.size))
  clear hb
  go_wp2
  go_ret2
  exact ⟨rfl, HB1.out⟩

/-- A call that returns a row of its own, and no error. -/
def Own2 (w : World) (bs : List UInt8) (e : Ending) (w' : World) : Prop := ∃ v, e = .returned (.tuple #[v, .int .i64 0]) ∧ w'.ownsRow w.heap.size 5 1 v bs.length (bs.map oct) ∧ Below w.heap.size w w'

set_option maxHeartbeats 4000000 in
theorem rencode_own (M : Msg) (w : World) (h : vf M = 0) : Calls Try.prog 30 #[M.v] w (Own2 w (encB M)) := by
  have HC := Lib.hid (fun w => rvalidate_any M w)
  have HP := Lib.hid (fun k => pv_eb h k)
  have HQ := Lib.hid (fun k => nth_ok h k)
  have HB6 := Lib.hid (vf_ok h).2.2.2.2.2.2
  rw [h] at HC
  have HB := Lib.hid ((Below.refl w.heap.size w).alloc (Nat.le_refl _) (.cells M.cs 23))
  clear h
  go_enter Try.func30, Try.ntmps30
  go_wp2_with fail
  refine (HC.out _).mono ?_
  rintro e w1 ⟨rfl, hb⟩
  obtain ⟨hc, hf⟩ := bcell hb
  have HB1 := Lib.hid (HB.out.trans (hb.mono HB.out.size))
  have hz := hb.size
  simp at hz
  have hz0 : w.heap.size < w1.heap.size := by omega
  clear hb
  have H6 := Lib.hid (show (w1.alloc (.cells #[.int .i64 M.id, .int .i64 M.rt, .int .i64 M.ep, .int .i64 M.ct, .int .i64 M.gn, .int .i64 M.st] 3)).cell? ⟨w.heap.size, 6, none⟩ = some (.string M.bd) by
    rw [World.cell?_alloc_lt _ _ _ hz0, hc _ _ (by simp)]; simp [go_sem])
  have HN := Lib.hid (row6 M w1)
  have HB2 := Lib.hid (HB1.out.alloc (o := .cells #[.int .i64 M.id, .int .i64 M.rt, .int .i64 M.ep, .int .i64 M.ct, .int .i64 M.gn, .int .i64 M.st] 3) HB1.out.size)
  have hz3 : w.heap.size < (w1.alloc (.cells #[.int .i64 M.id, .int .i64 M.rt, .int .i64 M.ep, .int .i64 M.ct, .int .i64 M.gn, .int .i64 M.st] 3)).heap.size := by simp; omega
  have HZ3 := Lib.hid hz3
  obtain ⟨g, hg⟩ : ∃ g, g = w1.heap.size := ⟨_, rfl⟩
  have hgs : g < (w1.alloc (.cells #[.int .i64 M.id, .int .i64 M.rt, .int .i64 M.ep, .int .i64 M.ct, .int .i64 M.gn, .int .i64 M.st] 3)).heap.size := by simp; omega
  have HGS := Lib.hid hgs
  have HG0 := Lib.hid hg
  clear hgs hz3 hg
  go_wp2
  clear hc hf
  rw [← HG0.out]
  rw [← HG0.out] at HN
  go_loopw [6, 7] (fun b i wr => ∃ (k : Nat) (A : Option Addr) (c : Nat), k ≤ 6 ∧ i = .int .i64 k ∧ b = .slice A (eb M k).length c ∧ Bs wr wr.heap.size (.slice A (eb M k).length c) (eb M k) ∧ Below w.heap.size w wr ∧ w.heap.size < wr.heap.size ∧ wr.cell? ⟨w.heap.size, 6, none⟩ = some (.string M.bd) ∧ g < wr.heap.size ∧ ∀ j, j < 6 → wr.cell? ⟨g, j, none⟩ = some (.int .i64 (M.nth j))) (fun _ i _ => 6 - (intOf i).toNat)
  case atStart => exact ⟨0, none, 0, by omega, rfl, rfl, Bs.nil, HB2.out, HZ3.out, H6.out, HGS.out, HN.out⟩
  case round =>
    obtain ⟨k, A, c, hk, rfl, rfl, hbs, hbel, hsz, hcell, hgs, hrow⟩ := hrel
    have HS := Lib.hid hbs
    have HW := Lib.hid hbel
    have HG := Lib.hid hcell
    have HR := Lib.hid hrow
    have HL := Lib.hid (eb_length M k)
    clear hbs hbel hcell hrow
    by_cases hlt : k < 6
    · have hi := HR.out k hlt
      have HPK := Lib.hid (HP.out k)
      have HQK := Lib.hid (HQ.out k)
      generalize hx : M.nth k = x at *
      have HV := Lib.hid (rputvar_all A _ c (eb M k) x wr HS.out (by have := HL.out; omega))
      have HE := Lib.hid (show pvE x = 0 from if_pos (by have := HQK.out; omega))
      rw [HPK.out, HE.out] at HV
      clear hx
      go_wp2_with fail
      refine HV.out.mono ?_
      rintro e w3 ⟨v3, rfl, hb3, hw3⟩
      obtain ⟨A3, c3, rfl, _, _, _⟩ := (show _ from hb3)
      have HB3 := Lib.hid hb3
      have HW3 := Lib.hid (HW.out.trans (hw3.mono HW.out.size))
      have hsz3 : w.heap.size < w3.heap.size := by have := hw3.size; omega
      have hgs3 : g < w3.heap.size := by have := hw3.size; omega
      have HC3 := Lib.hid ((hw3.cell (p := ⟨w.heap.size, 6, none⟩) hsz).trans HG.out)
      have HR3 := Lib.hid (fun j (hj : j < 6) => (hw3.cell (p := ⟨g, j, none⟩) hgs).trans (HR.out j hj))
      clear hb3 hw3
      go_wp2
      go_roundw
      case rel => exact ⟨k + 1, A3, c3, by omega, by go_num, rfl, HB3.out, HW3.out, hsz3, HC3.out, hgs3, HR3.out⟩
      case measure => simp [intOf]; omega
    · obtain rfl : k = 6 := by omega
      have HV := Lib.hid (rputtext_ok A _ c (eb M 6) M.bd 16 wr HS.out (by have := HL.out; omega) (by omega) (by omega) (by have := HB6.out; omega))
      have hcell := HG.out
      go_wp2_with fail
      refine HV.out.mono ?_
      rintro e w3 ⟨v3, rfl, hb3, hw3⟩
      have HB3 := Lib.hid (own_low hb3 HW.out.size)
      have HW3 := Lib.hid (HW.out.trans (hw3.mono HW.out.size))
      clear hb3 hw3
      go_wp2
      go_ret2
      exact ⟨v3, rfl, HB3.out, HW3.out⟩
theorem rencode_ok (M : Msg) (w : World) (h : vf M = 0) : Calls Try.prog 30 #[M.v] w (Put2 w (encB M) 0) :=
  (rencode_own M w h).mono fun e w' ⟨v, he, ho, hb⟩ => ⟨v, he, Bs.of_own ho, hb⟩

/-- Encode of any message. -/
theorem rencode_any (M : Msg) (w : World) : Calls Try.prog 30 #[M.v] w (Put2 w (encF M) (vf M)) := by
  by_cases h : vf M = 0
  · rw [show encF M = encB M from if_pos h, h]; exact rencode_ok M w h
  · refine (rencode_bad M _ w rfl h).mono fun e w' ⟨he, hb⟩ => ⟨_, he, ?_, hb⟩
    rw [show encF M = [] from if_neg h]; exact Bs.nil
end Go.Proofs.Ytjiampelmiaflaa
