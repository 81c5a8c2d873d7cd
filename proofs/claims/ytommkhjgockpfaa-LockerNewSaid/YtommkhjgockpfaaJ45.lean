/- What is proved here: ref12.TryLock, Unlock by contracts. -/
import Derived.Test.YtommkhjgockpfaaJ43
import Derived.Test.YtommkhjgockpfaaJ02
import Derived.Deep.AppendLies
import Derived.Test.YtommkhjgockpfaaJ38
import Derived.Deep.DeepCutAuto
import Derived.Deep.RegionHeld3
import Derived.Test.YtommkhjgockpfaaJ44
namespace Go.Proofs.Ytommkhjgockpfaa
open Go.RowKit
set_option linter.unusedVariables false

theorem lk_yes {n m : Nat} {t : Int} (hn : m ≤ n) (h : wi t 1 200 = true) : lkE n (m : Int) t = 0 := by
  unfold lkE rgE
  rw [if_pos (wi_true (by omega) (by omega)), if_pos h]
end Go.Proofs.Ytommkhjgockpfaa
