/- What is proved here: '==' and '!=' of a message and itself; '==' and '!=' of a lease and itself; shardqueueref05.SameInts of two lists that read alike is true. -/
import Derived.Test.YtjclhlejbidpgaaGreatJ03
import Derived.Laws.StructEq
import Derived.KernelRfl
import Derived.Test.YtjclhlejbidpgaaGreatJ06
import Derived.Test.YtjclhlejbidpgaaGreatJ20
import Derived.Deep.QuietTactic
import Derived.BigQuiet
namespace Go.Proofs.YtjclhlejbidpgaaGreat
open Go.RowKit
set_option linter.unusedVariables false

theorem eqm_in (M : Msg) (W : World) : (Op.equalIn 10000 27 M.v M.v).run Tryz.prog W = .ok true W := by
  have u3 := Tryz.underlying3
  have u9 := Tryz.underlying9
  have hS : Tryz.prog.underlying 27 = some (.struct (Tryz.prog.fieldsOf 27)) := by kernel_rfl
  have hp : Tryz.prog.stoodInHeld 27 = false := by kernel_rfl
  rw [show (10000 : Nat) = 9999 + 1 from rfl, run_equalIn_agg W 9999 27 _ _ hS hp]
  simp only [Program.fieldsOf, Tryz.underlying27]
  go_simp
theorem eqm (M : Msg) : ∀ W, (binOp .eql 27 M.v M.v).run Tryz.prog W = .ok (.bool true) W := fun W => by
  rw [run_eql_struct, eqm_in]; rfl
theorem neqm (M : Msg) : ∀ W, (binOp .neq 27 M.v M.v).run Tryz.prog W = .ok (.bool false) W := fun W => by
  rw [run_neq_struct, eqm_in]; rfl
theorem eqm_guard : Tryz.prog.eqGuardType Tryz.prog.depth 27 = false := by kernel_rfl
end Go.Proofs.YtjclhlejbidpgaaGreat
namespace Go.Proofs.YtjclhlejbidpgaaGreat
open Go.RowKit
set_option linter.unusedVariables false

theorem eqm_fuel (M : Msg) (f : Nat) (W : World) : (Op.equalIn (f + 2) 27 M.v M.v).run Tryz.prog W = .ok true W := by
  have u3 := Tryz.underlying3
  have u9 := Tryz.underlying9
  have hS : Tryz.prog.underlying 27 = some (.struct (Tryz.prog.fieldsOf 27)) := by kernel_rfl
  have hp : Tryz.prog.stoodInHeld 27 = false := by kernel_rfl
  rw [show f + 2 = (f + 1) + 1 from rfl, run_equalIn_agg W (f + 1) 27 _ _ hS hp]
  simp only [Program.fieldsOf, Tryz.underlying27]
  go_simp
theorem eql_in (x : Le) (W : World) : (Op.equalIn 10000 39 x.v x.v).run Tryz.prog W = .ok true W := by
  have u3 := Tryz.underlying3
  have hS : Tryz.prog.underlying 39 = some (.struct (Tryz.prog.fieldsOf 39)) := by kernel_rfl
  have hp : Tryz.prog.stoodInHeld 39 = false := by kernel_rfl
  have hM := fun W => eqm_fuel x.m 9997 W
  rw [show (10000 : Nat) = 9999 + 1 from rfl, run_equalIn_agg W 9999 39 _ _ hS hp]
  simp only [Program.fieldsOf, Tryz.underlying39]
  go_simp
theorem eql (x : Le) : ∀ W, (binOp .eql 39 x.v x.v).run Tryz.prog W = .ok (.bool true) W := fun W => by
  rw [run_eql_struct, eql_in]; rfl
theorem neql (x : Le) : ∀ W, (binOp .neq 39 x.v x.v).run Tryz.prog W = .ok (.bool false) W := fun W => by
  rw [run_neq_struct, eql_in]; rfl
end Go.Proofs.YtjclhlejbidpgaaGreat
namespace Go.Proofs.YtjclhlejbidpgaaGreat
open Go.RowKit
set_option linter.unusedVariables false

theorem bel_drewN {B : Nat} {a w : World} (h : Below B a w) (n : Nat) : Below B a (w.drewN n) := ⟨h.os, h.tape, h.output, h.size, h.block⟩
set_option maxHeartbeats 2000000 in
theorem rsamei_yes (A A' : Option Addr) (n n' c c' : Nat) (l : List Int) (w : World) (B B' : Nat) (hv : Nr w B (.slice A n c) l) (hv' : Nr w B' (.slice A' n' c') l) :
    Calls Tryz.prog 16 #[.slice A n c, .slice A' n' c'] w fun e w' => e = .returned (.bool true) ∧ Below w.heap.size w w' := by
  obtain ⟨rfl, hm1, hm2⟩ := hv.len
  obtain ⟨rfl, hm1', hm2'⟩ := hv'.len
  have hL : l.length ≤ 9223372036854775807 := by unfold maxLen at hm2; omega
  have HV := Lib.hid hv
  have HV' := Lib.hid hv'
  have HB := Lib.hid (Below.refl w.heap.size w)
  clear hv hm1 hm2 hv' hm1' hm2'
  go_enter Tryz.func16, Tryz.ntmps16
  go_wp2
  go_loopw [5] (fun i wr => ∃ k : Nat, k ≤ l.length ∧ i = .int .i64 k ∧ Nr wr B (.slice A l.length c) l ∧ Nr wr B' (.slice A' l.length c') l ∧ Below w.heap.size w wr) (fun i _ => l.length - (intOf i).toNat)
  case atStart => exact ⟨0, by omega, rfl, HV.out, HV'.out, HB.out⟩
  case round =>
    obtain ⟨k, hk, rfl, hv, hv', hb⟩ := hrel
    have HV := Lib.hid hv
    have HV' := Lib.hid hv'
    have HB := Lib.hid hb
    clear hv hv' hb
    by_cases hlt : k < l.length
    · obtain ⟨b, o, rfl, hb, c0⟩ := HV.out.at_ hlt
      obtain ⟨b', o', rfl, hb', d0⟩ := HV'.out.at_ hlt
      generalize l[k] = M at *
      have hne : (M != M) = false := by simp
      go_wp2
      go_quiet (fail)
      go_wp2
      go_roundw
      case rel => exact ⟨k + 1, by omega, by go_num, HV.out.drewN _, HV'.out.drewN _, bel_drewN HB.out _⟩
      case measure => simp [intOf]; omega
    · go_wp2
      go_ret
      exact ⟨rfl, HB.out⟩
end Go.Proofs.YtjclhlejbidpgaaGreat
