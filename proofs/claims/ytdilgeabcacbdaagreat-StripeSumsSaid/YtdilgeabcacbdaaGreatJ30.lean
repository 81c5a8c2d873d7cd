/- What is proved here: shard.handleError by a contract; shard.giveBack by contracts; shard.Ack by a contract; shard.Nack by a contract. -/
import Derived.Test.YtdilgeabcacbdaaGreatJ24
import Derived.Test.YtdilgeabcacbdaaGreatJ27
import Derived.ArgAppend
import Derived.Test.YtdilgeabcacbdaaGreatJ25
import Derived.Test.YtdilgeabcacbdaaGreatJ08
import Derived.Test.YtdilgeabcacbdaaGreatJ23
namespace Go.Proofs.YtdilgeabcacbdaaGreat
open Go.RowKit
set_option linter.unusedVariables false

end Go.Proofs.YtdilgeabcacbdaaGreat
namespace Go.Proofs.YtdilgeabcacbdaaGreat
open Go.RowKit
set_option linter.unusedVariables false

end Go.Proofs.YtdilgeabcacbdaaGreat
namespace Go.Proofs.YtdilgeabcacbdaaGreat
open Go.RowKit
set_option linter.unusedVariables false

end Go.Proofs.YtdilgeabcacbdaaGreat
namespace Go.Proofs.YtdilgeabcacbdaaGreat
open Go.RowKit
set_option linter.unusedVariables false

/-- What region 1 of Nack reads. -/
abbrev NkK (p q b : Nat) (S : Sh) (D : Sx) (H : Hn) (lim : Int) (W : World) : Prop := K8 p S D W ∧ W.cell? ⟨q, 0, none⟩ = some (.int .i64 H.id) ∧ W.cell? ⟨q, 1, none⟩ = some (.int .i64 H.gn) ∧ W.cell? ⟨q, 2, none⟩ = some (.int .i64 H.rt) ∧ W.cell? ⟨q, 3, none⟩ = some (.int .i64 H.ht) ∧ W.cell? ⟨b, 0, none⟩ = some (.int .i64 lim)
theorem NkK.mk {p q b : Nat} {S : Sh} {D : Sx} {H : Hn} {lim : Int} {W : World} (h : K8 p S D W) (k : H4 W q H) (c : W.cell? ⟨b, 0, none⟩ = some (.int .i64 lim)) : NkK p q b S D H lim W := ⟨h, k.1, k.2.1, k.2.2.1, k.2.2.2.1, c⟩
end Go.Proofs.YtdilgeabcacbdaaGreat
