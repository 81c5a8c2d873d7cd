/- What is proved here: (plain functions) a text with its length; the bytes of a string in memory. -/
import Derived.Test.YtjiampelmiaflaaMem
import Derived.Lib.ConvBytes
import Derived.Lib.AppendStr
namespace Go.Proofs.Ytjiampelmiaflaa
open Go.RowKit
set_option linter.unusedVariables false

theorem bytesWorld_below (W : World) (e : TypeId) (s : ByteArray) : Below W.heap.size W (Lib.bytesWorld W e s) :=
  ⟨rfl, rfl, rfl, by rw [Lib.bytesWorld_size]; omega, fun k hk => Lib.bytesWorld_at_old W e s k hk⟩

theorem bytesWorld_bs (W : World) (e : TypeId) (s : ByteArray) (hs : s.size ≤ maxLen) :
    Bs (Lib.bytesWorld W e s) (Lib.bytesWorld W e s).heap.size (.slice (some ⟨W.heap.size, 0, none⟩) s.size (grownCap W s.size 0 e)) s.data.toList := by
  have hl : s.data.toList.length = s.size := by simp
  refine ⟨_, grownCap W s.size 0 e, by rw [hl], by rw [hl]; exact grownCap_ge _ _ _ _, grownCap_le_maxLen _ _ _ _ hs, by simp, fun _ => ⟨_, _, rfl, by rw [Lib.bytesWorld_size]; omega, fun j u hu => ?_⟩⟩
  rw [Nat.zero_add]
  simp only [List.getElem?_map, Option.map_eq_some_iff] at hu
  obtain ⟨x, hx, rfl⟩ := hu
  obtain ⟨hj, rfl⟩ := List.getElem?_eq_some_iff.1 hx
  rw [Lib.bytesWorld_cell W e s j (by omega)]
  simp [oct, List.getD, hx]

/-- What PutText returns. -/
def pxE (s : ByteArray) (m : Int) : Int := if m < 0 ∨ 255 < m then 1 else if m < (s.size : Int) then 2 else 0

def pxB (bs : List UInt8) (s : ByteArray) (m : Int) : List UInt8 := if m < 0 ∨ 255 < m then [] else if m < (s.size : Int) then [] else bs ++ [UInt8.ofNat s.size] ++ s.data.toList

/-- What GetText returns: the text, the position after it, the error. -/
def gxS (at_ m : Int) (bs : List UInt8) : ByteArray × Int × Int :=
  if m < 0 ∨ 255 < m ∨ at_ < 0 then (ByteArray.empty, 0, 1)
  else if (bs.length : Int) ≤ at_ then (ByteArray.empty, 0, 8)
  else if m < ((bs.getD at_.toNat 0).toNat : Int) then (ByteArray.empty, 0, 2)
  else if (bs.length : Int) < at_ + 1 + (bs.getD at_.toNat 0).toNat then (ByteArray.empty, 0, 8)
  else (⟨((bs.drop (at_.toNat + 1)).take (bs.getD at_.toNat 0).toNat).toArray⟩, at_ + 1 + (bs.getD at_.toNat 0).toNat, 0)

/-- How a call ends behind its first byte. -/
def GxEnd (at_ g : Nat) (m : Int) (bs : List UInt8) (e : Ending) : Prop :=
  e = .returned (if m < (g : Int) then .tuple #[.string ByteArray.empty, .int .i64 0, .int .i64 2]
    else if (bs.length : Int) < at_ + 1 + g then .tuple #[.string ByteArray.empty, .int .i64 0, .int .i64 8]
    else .tuple #[.string ⟨((bs.drop (at_ + 1)).take g).toArray⟩, .int .i64 (at_ + 1 + g), .int .i64 0])

theorem gx_end (at_ : Nat) (m : Int) (bs : List UInt8) (e : Ending) (h1 : 0 ≤ m) (h2 : m ≤ 255) (hat : at_ < bs.length) (h : GxEnd at_ (bs.getD at_ 0).toNat m bs e) :
    e = .returned (.tuple #[.string (gxS at_ m bs).1, .int .i64 (gxS at_ m bs).2.1, .int .i64 (gxS at_ m bs).2.2]) := by
  unfold GxEnd at h
  unfold gxS
  rw [if_neg (by omega), if_neg (by omega), Int.toNat_natCast, h]
  split
  · rfl
  · split <;> rfl
end Go.Proofs.Ytjiampelmiaflaa
