/- What is proved here: ref12.TryLock, Unlock by contracts. -/
import Derived.Test.YtommkhjgockpfaaJ36
import Derived.Deep.DeepCutAuto
import Derived.Deep.RegionHeld3
namespace Go.Proofs.Ytommkhjgockpfaa
open Go.RowKit
set_option linter.unusedVariables false

theorem setown_self (a : Ar) (n : Nat) (hn : n ≤ a.sl.length) : a.setOwn n (a.own n) = a := by
  unfold Ar.setOwn Ar.own
  by_cases h : n = a.sl.length
  · rw [if_pos h, if_pos h]
  · have hlt : n < a.sl.length := by omega
    rw [if_neg h, if_neg h, og_get hlt]
    have e : a.sl.set n ⟨a.sl[n].ow, a.sl[n].sh⟩ = a.sl := List.set_getElem_self hlt
    rw [e]
theorem lk_yes {n m : Nat} {t : Int} (hn : m ≤ n) (h : wi t 1 200 = true) : lkE n (m : Int) t = 0 := by
  unfold lkE rgE
  rw [if_pos (wi_true (by omega) (by omega)), if_pos h]
end Go.Proofs.Ytommkhjgockpfaa
