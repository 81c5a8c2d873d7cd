/- What is proved here: shardqueueref03.Index by one contract; '==' and '!=' of a message and itself; shardqueueref03.Same of two lists that read alike is true. -/
import Derived.Test.YtbeafcjbldnkhaaJ04
import Derived.Test.YtbeafcjbldnkhaaJ01
import Derived.IntWalk
import Derived.Laws.StructEq
import Derived.KernelRfl
import Derived.Test.YtbeafcjbldnkhaaJ03
import Derived.Deep.QuietTactic
import Derived.BigQuiet
namespace Go.Proofs.Ytbeafcjbldnkhaa
open Go.RowKit
set_option linter.unusedVariables false

theorem rindex_any (A : Option Addr) (n c : Nat) (l : List Msg) (id : Int) (w : World) (B : Nat) (hv : Ls w B (.slice A n c) l) :
    Calls Try.prog 51 #[.slice A n c, .int .i64 id] w fun e w' => e = .returned (.int .i64 (ixF l id)) ∧ w = w' := by
  obtain ⟨rfl, hm1, hm2⟩ := hv.len
  have hL : l.length ≤ 9223372036854775807 := by unfold maxLen at hm2; omega
  have HV := Lib.hid hv
  clear hv hm1 hm2
  go_enter Try.func51, Try.ntmps51
  go_wp2
  go_loop [5] (fun i => ∃ k : Nat, k ≤ l.length ∧ i = .int .i64 k ∧ ∀ j (hj : j < l.length), j < k → l[j].id ≠ id) (fun i => l.length - (intOf i).toNat)
  case atStart => exact ⟨0, by omega, rfl, fun j _ h => absurd h (by omega)⟩
  case round =>
    obtain ⟨k, hk, rfl, hno⟩ := hrel
    have HN := Lib.hid hno
    clear hno
    by_cases hlt : k < l.length
    · obtain ⟨b, o, rfl, hb, c0, -⟩ := HV.out.at_ hlt
      by_cases he : l[k].id = id
      · have HR := Lib.hid (ixF_hit hlt he HN.out)
        have hd : (l[k].id == id) = true := by simpa using he
        clear he
        go_wp2
        go_ret
        exact ⟨by rw [HR.out]; rfl, rfl⟩
      · have hd : (l[k].id == id) = false := by simpa using he
        have HE := Lib.hid he
        clear he
        go_wp2
        go_round
        case rel => exact ⟨k + 1, by omega, by go_num, fun j hj h => by
          by_cases e : j = k
          · subst e; exact HE.out
          · exact HN.out j hj (by omega)⟩
        case measure => simp [intOf]; omega
    · have HR := Lib.hid (ixF_none (id := id) (fun j hj => HN.out j hj (by omega)))
      go_wp2
      go_ret
      exact ⟨by rw [HR.out]; rfl, rfl⟩
end Go.Proofs.Ytbeafcjbldnkhaa
namespace Go.Proofs.Ytbeafcjbldnkhaa
open Go.RowKit
set_option linter.unusedVariables false

theorem eqm_in (M : Msg) (W : World) : (Op.equalIn 10000 37 M.v M.v).run Try.prog W = .ok true W := by
  have u3 := Try.underlying3
  have u9 := Try.underlying9
  have hS : Try.prog.underlying 37 = some (.struct (Try.prog.fieldsOf 37)) := by kernel_rfl
  have hp : Try.prog.stoodInHeld 37 = false := by kernel_rfl
  rw [show (10000 : Nat) = 9999 + 1 from rfl, run_equalIn_agg W 9999 37 _ _ hS hp]
  simp only [Program.fieldsOf, Try.underlying37]
  go_simp
theorem eqm (M : Msg) : ∀ W, (binOp .eql 37 M.v M.v).run Try.prog W = .ok (.bool true) W := fun W => by
  rw [run_eql_struct, eqm_in]; rfl
theorem neqm (M : Msg) : ∀ W, (binOp .neq 37 M.v M.v).run Try.prog W = .ok (.bool false) W := fun W => by
  rw [run_neq_struct, eqm_in]; rfl
theorem eqm_guard : Try.prog.eqGuardType Try.prog.depth 37 = false := by kernel_rfl
end Go.Proofs.Ytbeafcjbldnkhaa
namespace Go.Proofs.Ytbeafcjbldnkhaa
open Go.RowKit
set_option linter.unusedVariables false

set_option maxHeartbeats 1000000 in
theorem rsame_yes (A A' : Option Addr) (n n' c c' : Nat) (l : List Msg) (w : World) (B B' : Nat) (hv : Ls w B (.slice A n c) l) (hv' : Ls w B' (.slice A' n' c') l) :
    Calls Try.prog 21 #[.slice A n c, .slice A' n' c'] w fun e w' => e = .returned (.bool true) ∧ Below w.heap.size w w' := by
  obtain ⟨rfl, hm1, hm2⟩ := hv.len
  obtain ⟨rfl, hm1', hm2'⟩ := hv'.len
  have hL : l.length ≤ 9223372036854775807 := by unfold maxLen at hm2; omega
  have HV := Lib.hid hv
  have HV' := Lib.hid hv'
  have HB := Lib.hid (Below.refl w.heap.size w)
  clear hv hm1 hm2 hv' hm1' hm2'
  go_enter Try.func21, Try.ntmps21
  go_wp2
  go_loopw [5] (fun i wr => ∃ k : Nat, k ≤ l.length ∧ i = .int .i64 k ∧ Ls wr B (.slice A l.length c) l ∧ Ls wr B' (.slice A' l.length c') l ∧ Below w.heap.size w wr) (fun i _ => l.length - (intOf i).toNat)
  case atStart => exact ⟨0, by omega, rfl, HV.out, HV'.out, HB.out⟩
  case round =>
    obtain ⟨k, hk, rfl, hv, hv', hb⟩ := hrel
    have HV := Lib.hid hv
    have HV' := Lib.hid hv'
    have HB := Lib.hid hb
    clear hv hv' hb
    by_cases hlt : k < l.length
    · obtain ⟨b, o, rfl, hb, hc⟩ := HV.out.at_ hlt
      obtain ⟨b', o', rfl, hb', hc'⟩ := HV'.out.at_ hlt
      generalize l[k] = M at *
      have hne := neqm M
      obtain ⟨c0, c1, c2, c3, c4, c5, c6⟩ := hc
      obtain ⟨d0, d1, d2, d3, d4, d5, d6⟩ := hc'
      go_wp2
      go_quiet (fail)
      go_wp2
      go_roundw
      case rel => exact ⟨k + 1, by omega, by go_num, HV.out.drewN _, HV'.out.drewN _, below_drewN HB.out _⟩
      case measure => simp [intOf]; omega
    · go_wp2
      go_ret
      exact ⟨rfl, HB.out⟩
end Go.Proofs.Ytbeafcjbldnkhaa
