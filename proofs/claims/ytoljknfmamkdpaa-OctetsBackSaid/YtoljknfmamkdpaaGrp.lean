/- What is proved here: PutVar and GetVar and their references, each by one contract for all arguments, both of a pair by the same plain function. -/
import Derived.Test.YtoljknfmamkdpaaGvm
namespace Go.Proofs.Ytoljknfmamkdpaa
open Go.RowKit
set_option linter.unusedVariables false

/-- What PutVar returns. -/
def pvE (n : Int) : Int := if 0 ≤ n ∧ n ≤ 1099511627776 then 0 else 1
def pvB (bs : List UInt8) (n : Int) : List UInt8 := if 0 ≤ n ∧ n ≤ 1099511627776 then bs ++ groups 5 n.toNat else []

/-- What GetVar returns. -/
def gvR (at_ : Int) (bs : List UInt8) : Int × Int × Int :=
  if at_ < 0 then (0, 0, 1) else match gv 6 0 0 (bs.drop at_.toNat) with
    | some (n, k) => (n, at_ + k, 0)
    | none => (0, 0, 8)

theorem gvR_end (at_ : Nat) (bs : List UInt8) (e : Ending) (h : GvEnd at_ (gv 6 0 0 (bs.drop at_)) e) :
    e = .returned (.tuple #[.int .i64 (gvR at_ bs).1, .int .i64 (gvR at_ bs).2.1, .int .i64 (gvR at_ bs).2.2]) := by
  unfold GvEnd at h
  unfold gvR
  rw [if_neg (by omega), Int.toNat_natCast, h]
  cases gv 6 0 0 (bs.drop at_) with
  | none => rfl
  | some p => rfl

theorem getvar_all (A : Option Addr) (l c : Nat) (bs : List UInt8) (at_ : Int) (w : World) (hv : Bs w w.heap.size (.slice A l c) bs) (hl : l ≤ 1099511627776) (h63 : at_ ≤ 9223372036854775807) :
    Calls Try.prog 17 #[.slice A l c, .int .i64 at_] w fun e w' =>
      e = .returned (.tuple #[.int .i64 (gvR at_ bs).1, .int .i64 (gvR at_ bs).2.1, .int .i64 (gvR at_ bs).2.2]) ∧ w = w' := by
  by_cases h : at_ < 0
  · refine (getvar_bad A l c at_ w h).mono fun e w' ⟨he, hw⟩ => ⟨?_, hw⟩
    rw [he]; unfold gvR; rw [if_pos h]
  · obtain ⟨n, rfl⟩ := Int.eq_ofNat_of_zero_le (show 0 ≤ at_ by omega)
    exact (getvar_any A l c bs n w hv hl (by omega)).mono fun e w' ⟨he, hw⟩ => ⟨gvR_end n bs e he, hw⟩

theorem rgetvar_all (A : Option Addr) (l c : Nat) (bs : List UInt8) (at_ : Int) (w : World) (hv : Bs w w.heap.size (.slice A l c) bs) (hl : l ≤ 1099511627776) (h63 : at_ ≤ 9223372036854775807) :
    Calls Try.prog 18 #[.slice A l c, .int .i64 at_] w fun e w' =>
      e = .returned (.tuple #[.int .i64 (gvR at_ bs).1, .int .i64 (gvR at_ bs).2.1, .int .i64 (gvR at_ bs).2.2]) ∧ w = w' := by
  by_cases h : at_ < 0
  · refine (rgetvar_bad A l c at_ w h).mono fun e w' ⟨he, hw⟩ => ⟨?_, hw⟩
    rw [he]; unfold gvR; rw [if_pos h]
  · obtain ⟨n, rfl⟩ := Int.eq_ofNat_of_zero_le (show 0 ≤ at_ by omega)
    exact (rgetvar_any A l c bs n w hv hl (by omega)).mono fun e w' ⟨he, hw⟩ => ⟨gvR_end n bs e he, hw⟩

/-- A result that is a slice of its own and an error beside it. -/
def Put2 (w : World) (bs : List UInt8) (x : Int) (e : Ending) (w' : World) : Prop := ∃ v, e = .returned (.tuple #[v, .int .i64 x]) ∧ Bs w' w'.heap.size v bs ∧ Below w.heap.size w w'

theorem putvar_all (A : Option Addr) (l c : Nat) (bs : List UInt8) (n : Int) (w : World) (hv : Bs w w.heap.size (.slice A l c) bs) (hl : bs.length ≤ 1099511627000) :
    Calls Try.prog 15 #[.slice A l c, .int .i64 n] w (Put2 w (pvB bs n) (pvE n)) := by
  by_cases h : 0 ≤ n ∧ n ≤ 1099511627776
  · obtain ⟨m, rfl⟩ := Int.eq_ofNat_of_zero_le h.1
    refine (putvar_ok A l c bs m w hv hl (by omega)).mono fun e w' ⟨v, he, ho, hb⟩ => ⟨v, ?_, ?_, hb⟩
    · unfold pvE; rw [if_pos h]; exact he
    · unfold pvB; rw [if_pos h, Int.toNat_natCast]; exact Bs.of_own ho
  · refine (putvar_bad (.slice A l c) n w (by omega)).mono fun e w' ⟨he, hw⟩ => ⟨.slice none 0 0, ?_, ?_, ?_⟩
    · unfold pvE; rw [if_neg h]; exact he
    · unfold pvB; rw [if_neg h]; exact Bs.nil
    · subst hw; exact Below.refl _ _

theorem rputvar_all (A : Option Addr) (l c : Nat) (bs : List UInt8) (n : Int) (w : World) (hv : Bs w w.heap.size (.slice A l c) bs) (hl : bs.length ≤ 1099511627000) :
    Calls Try.prog 16 #[.slice A l c, .int .i64 n] w (Put2 w (pvB bs n) (pvE n)) := by
  by_cases h : 0 ≤ n ∧ n ≤ 1099511627776
  · obtain ⟨m, rfl⟩ := Int.eq_ofNat_of_zero_le h.1
    refine (rputvar_ok A l c bs m w hv hl (by omega)).mono fun e w' ⟨v, he, ho, hb⟩ => ⟨v, ?_, ?_, hb⟩
    · unfold pvE; rw [if_pos h]; exact he
    · unfold pvB; rw [if_pos h, Int.toNat_natCast]; exact Bs.of_own ho
  · refine (rputvar_bad (.slice A l c) n w (by omega)).mono fun e w' ⟨he, hw⟩ => ⟨.slice none 0 0, ?_, ?_, ?_⟩
    · unfold pvE; rw [if_neg h]; exact he
    · unfold pvB; rw [if_neg h]; exact Bs.nil
    · subst hw; exact Below.refl _ _
end Go.Proofs.Ytoljknfmamkdpaa
