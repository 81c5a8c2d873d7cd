/- What is proved here: (plain functions) the zero message, what checked returns, what a valid message's numbers are; what is kept below; the bitwise operations of int at numbers that are not negative, as sums and remainders; (plain functions) the groups of seven bits of a number, and how they are read back. -/
import Derived.Test.YtbeafcjbldnkhaaJ01
import Derived.Below
import Derived.Laws.BitsAllLaws
import Derived.Laws.BitsLemmas
import Derived.Laws.Bits128
import Derived.IntWalk
namespace Go.Proofs.Ytbeafcjbldnkhaa
open Go.RowKit
set_option linter.unusedVariables false

theorem bcell {W w1 : World} (hb : Below W.heap.size W w1) : (∀ b o, b < W.heap.size → w1.cell? ⟨b, o, none⟩ = W.cell? ⟨b, o, none⟩) ∧ (∀ b o, b < W.heap.size → w1.frozen? ⟨b, o, none⟩ = W.frozen? ⟨b, o, none⟩) :=
  ⟨fun b o h => hb.cell (p := ⟨b, o, none⟩) h, fun b o h => hb.frozen (p := ⟨b, o, none⟩) h⟩

theorem below7 {B : Nat} {w w' : World} (h : Below B w w') {b : Nat} (hb : B ≤ b) (v0 v1 v2 v3 v4 v5 v6 : Value) :
    Below B w (((((((w'.setCell ⟨b, 0, none⟩ v0).setCell ⟨b, 1, none⟩ v1).setCell ⟨b, 2, none⟩ v2).setCell ⟨b, 3, none⟩ v3).setCell ⟨b, 4, none⟩ v4).setCell ⟨b, 5, none⟩ v5).setCell ⟨b, 6, none⟩ v6) :=
  ((((((h.setCell hb _).setCell hb _).setCell hb _).setCell hb _).setCell hb _).setCell hb _).setCell hb _

def zM : Msg := ⟨0, 0, 0, 0, 0, 0, ByteArray.empty⟩
/-- What checked returns. -/
def ckM (M : Msg) : Msg := if vf M = 0 then M else zM

theorem vf_ok {M : Msg} (h : vf M = 0) : (1 ≤ M.id ∧ M.id ≤ 1073741824) ∧ (0 ≤ M.rt ∧ M.rt ≤ 65535) ∧ (0 ≤ M.ep ∧ M.ep ≤ 65536) ∧ (0 ≤ M.ct ∧ M.ct ≤ 8) ∧ (M.ct ≤ M.gn ∧ M.gn ≤ 65536) ∧ (0 ≤ M.st ∧ M.st ≤ 1073741824) ∧ M.bd.size ≤ 16 := by
  unfold vf at h
  by_cases hh : hv M = true
  · rw [if_pos hh] at h
    by_cases h6 : (16 : Int) < (M.bd.size : Int)
    · rw [if_pos h6] at h; omega
    · unfold hv at hh
      simp only [Bool.and_eq_true] at hh
      obtain ⟨h0, h1, h2, h3, h4, h5⟩ := hh
      exact ⟨wi_of h0, wi_of h1, wi_of h2, wi_of h3, wi_of h4, wi_of h5, by omega⟩
  · rw [if_neg hh] at h; omega
theorem ok_vf {M : Msg} (h : (1 ≤ M.id ∧ M.id ≤ 1073741824) ∧ (0 ≤ M.rt ∧ M.rt ≤ 65535) ∧ (0 ≤ M.ep ∧ M.ep ≤ 65536) ∧ (0 ≤ M.ct ∧ M.ct ≤ 8) ∧ (M.ct ≤ M.gn ∧ M.gn ≤ 65536) ∧ (0 ≤ M.st ∧ M.st ≤ 1073741824) ∧ M.bd.size ≤ 16) : vf M = 0 := by
  obtain ⟨⟨a0, a1⟩, ⟨b0, b1⟩, ⟨c0, c1⟩, ⟨d0, d1⟩, ⟨e0, e1⟩, ⟨f0, f1⟩, g⟩ := h
  unfold vf hv
  rw [wi_true a0 a1, wi_true b0 b1, wi_true c0 c1, wi_true d0 d1, wi_true e0 e1, wi_true f0 f1]
  simp
  omega
theorem vf_012 (M : Msg) : vf M = 0 ∨ vf M = 1 ∨ vf M = 2 := by
  unfold vf
  split
  · split
    · exact .inr (.inr rfl)
    · exact .inl rfl
  · exact .inr (.inl rfl)

end Go.Proofs.Ytbeafcjbldnkhaa
namespace Go.Proofs.Ytbeafcjbldnkhaa

theorem wraps_i64 (n : Int) (h₀ : 0 ≤ n) (h₁ : n < 2 ^ 63) : IntKind.i64.wrap n = n := by rw [IntKind.wrap_i64]; omega

/-- x or y, x a multiple of 2^i and y below 2^i. -/
theorem or_join (i : Nat) (x y : Int) (hx₀ : 0 ≤ x) (hx : x % 2 ^ i = 0) (hx₁ : x < 2 ^ 63) (hy₀ : 0 ≤ y) (hy : y < 2 ^ i) (hy₁ : y < 2 ^ 63) : bits .or .i64 x y = x + y :=
  bits_join .i64 63 (by decide) wraps_i64 i x y hx₀ hx hx₁ hy₀ hy hy₁
theorem or_joined (i : Nat) (x y : Int) (hx₀ : 0 ≤ x) (hx : x % 2 ^ i = 0) (hx₁ : x < 2 ^ 63) (hy₀ : 0 ≤ y) (hy : y < 2 ^ i) (hy₁ : y < 2 ^ 63) : bits .or .i64 y x = y + x := by
  have hc : bits .or .i64 y x = bits .or .i64 x y := by simp only [bits, BitVec.or_comm]
  rw [hc, or_join i x y hx₀ hx hx₁ hy₀ hy hy₁, Int.add_comm]
theorem or_128 (y : Int) (h0 : 0 ≤ y) (h1 : y < 128) : bits .or .i64 y 128 = y + 128 := or_joined 7 128 y (by decide) (by decide) (by decide) h0 h1 (by omega)
end Go.Proofs.Ytbeafcjbldnkhaa
namespace Go.Proofs.Ytbeafcjbldnkhaa
open Go.RowKit
set_option linter.unusedVariables false

/-- The groups of seven bits of n, the lowest first, at most f + 1 of them. -/
def groups : Nat → Nat → List UInt8
  | 0, n => [UInt8.ofNat n]
  | f + 1, n => if n < 128 then [UInt8.ofNat n] else UInt8.ofNat (n % 128 + 128) :: groups f (n / 128)

theorem oct_of (x : Nat) (h : x < 256) : oct (UInt8.ofNat x) = .int .u8 (x : Int) := by
  unfold oct
  rw [show (UInt8.ofNat x).toNat = x from by simp; omega]

/-- What GetVar makes of the bytes from the i-th group on, n being the number so far and at most f groups being left: the number and how many groups it takes. -/
def gv : Nat → Nat → Nat → List UInt8 → Option (Nat × Nat)
  | 0, _, _, _ => none
  | _ + 1, _, _, [] => none
  | f + 1, i, n, g :: r =>
    if 128 ≤ g.toNat then gv f (i + 1) (n + g.toNat % 128 * 2 ^ (7 * i)) r
    else if (0 < i ∧ g.toNat = 0) ∨ 1099511627776 < n + g.toNat % 128 * 2 ^ (7 * i) then none
    else some (n + g.toNat % 128 * 2 ^ (7 * i), i + 1)

/-- How a call of GetVar ends. -/
def GvEnd (at_ : Nat) (r : Option (Nat × Nat)) (e : Ending) : Prop :=
  e = .returned (match r with | some (n, k) => .tuple #[.int .i64 n, .int .i64 (at_ + k), .int .i64 0] | none => .tuple #[.int .i64 0, .int .i64 0, .int .i64 8])

theorem gv_step (xs : List UInt8) (k N : Nat) (hk : k < 6) (hx : k < xs.length) : gv (6 - k) k N (xs.drop k) =
    if 128 ≤ xs[k].toNat then gv (6 - (k + 1)) (k + 1) (N + xs[k].toNat % 128 * 2 ^ (7 * k)) (xs.drop (k + 1))
    else if (0 < k ∧ xs[k].toNat = 0) ∨ 1099511627776 < N + xs[k].toNat % 128 * 2 ^ (7 * k) then none
    else some (N + xs[k].toNat % 128 * 2 ^ (7 * k), k + 1) := by
  rw [show 6 - k = (6 - (k + 1)) + 1 by omega, List.drop_eq_getElem_cons hx, gv]

theorem gv_end (xs : List UInt8) (k N : Nat) (h : 6 ≤ k ∨ xs.length ≤ k) : gv (6 - k) k N (xs.drop k) = none := by
  rcases h with h | h
  · rw [show 6 - k = 0 by omega, gv]
  · rw [List.drop_of_length_le h]
    cases 6 - k <;> simp [gv]

theorem pow7 (k : Nat) (hk : k < 6) : 1 ≤ 2 ^ (7 * k) ∧ 2 ^ (7 * k) ≤ 34359738368 ∧ 2 ^ (7 * (k + 1)) = 128 * 2 ^ (7 * k) := by
  refine ⟨Nat.one_le_two_pow, ?_, by rw [show 7 * (k + 1) = 7 * k + 7 by omega, Nat.pow_add]; omega⟩
  exact Nat.le_trans (Nat.pow_le_pow_right (by omega) (show 7 * k ≤ 35 by omega)) (by decide)

/-- The numbers of one round. -/
theorem gv_num (g P N k : Nat) (hg : g < 256) (hP : P = 2 ^ (7 * k)) (hk : k < 6) (hN : N < 2 ^ (7 * k)) :
    ∃ T : Nat, g % 128 * P = T ∧ (g : Int) % 128 * (P : Int) = (T : Int) ∧ N + T < 2 ^ (7 * (k + 1)) ∧ (N : Int) + T ≤ 4398046511104 ∧ wrap64 (T : Int) = T ∧ wrap64 ((N : Int) + T) = (N : Int) + T ∧ (P : Int) ≤ 34359738368 := by
  obtain ⟨p1, p2, p3⟩ := pow7 k hk
  rw [← hP] at p1 p2 p3 hN
  have hb : g % 128 * P + P ≤ 128 * P := by
    have := Nat.mul_le_mul_right P (show g % 128 + 1 ≤ 128 by omega)
    rwa [Nat.add_mul, Nat.one_mul] at this
  have hs : N + g % 128 * P < 128 * P := by omega
  rw [p3]
  clear p3 hP
  refine ⟨g % 128 * P, rfl, by simp, hs, ?_⟩
  generalize g % 128 * P = T at *
  clear hg
  exact ⟨by omega, IntWalk.wrap64_in _ (by omega), IntWalk.wrap64_in _ (by omega), by omega⟩

theorem gv_or (g P N k T : Nat) (hP : P = 2 ^ (7 * k)) (hT : g % 128 * P = T) (hN : N < 2 ^ (7 * k)) (hb : (N : Int) + T ≤ 4398046511104) : bits .or .i64 (N : Int) (T : Int) = (N : Int) + T := by
  have h3 : (T : Int) < 2 ^ 63 := by clear hT hN hP; omega
  have h4 : (N : Int) < 2 ^ 63 := by clear hT hN hP h3; omega
  subst hP
  have h0 : T % 2 ^ (7 * k) = 0 := by rw [← hT]; exact Nat.mul_mod_left _ _
  have h1 : (T : Int) % 2 ^ (7 * k) = 0 := by exact_mod_cast h0
  have h2 : (N : Int) < 2 ^ (7 * k) := by exact_mod_cast hN
  exact or_joined (7 * k) T N (Int.natCast_nonneg _) h1 h3 (Int.natCast_nonneg _) h2 h4

theorem gv_groups : ∀ (f i N : Nat) (xs : List UInt8) (n k : Nat), gv f i N xs = some (n, k) →
    ∃ v j, k = i + j ∧ 1 ≤ j ∧ j ≤ xs.length ∧ n = N + v * 2 ^ (7 * i) ∧ n ≤ 1099511627776 ∧ xs.take j = groups (f - 1) v ∧ (0 < i → v ≠ 0)
  | 0, i, N, xs, n, k, h => by simp [gv] at h
  | f + 1, i, N, [], n, k, h => by simp [gv] at h
  | f + 1, i, N, g :: r, n, k, h => by
    rw [gv] at h
    by_cases hg : 128 ≤ g.toNat
    · rw [if_pos hg] at h
      obtain ⟨v, j, hk, h1, h2, hn, hm, ht, hv⟩ := gv_groups f (i + 1) _ r n k h
      have hv0 : v ≠ 0 := hv (by omega)
      obtain ⟨f', rfl⟩ : ∃ f', f = f' + 1 := by
        cases f with
        | zero => simp [gv] at h
        | succ f => exact ⟨f, rfl⟩
      refine ⟨g.toNat % 128 + v * 128, j + 1, by omega, by omega, by simpa using h2, ?_, hm, ?_, fun _ => by omega⟩
      · rw [hn, show 7 * (i + 1) = 7 * i + 7 by omega, Nat.pow_add, Nat.add_mul, Nat.add_assoc, Nat.mul_assoc v 128, Nat.mul_comm 128]
      · have hlt := g.toNat_lt
        simp only [List.take_succ_cons, Nat.add_sub_cancel]
        rw [groups, if_neg (by omega), ht]
        have e1 : (g.toNat % 128 + v * 128) % 128 + 128 = g.toNat := by omega
        have e2 : (g.toNat % 128 + v * 128) / 128 = v := by omega
        rw [e1, e2]
        simp
    · rw [if_neg hg] at h
      split at h
      · simp at h
      · rename_i hc
        simp only [Option.some.injEq, Prod.mk.injEq] at h
        obtain ⟨hn, hk⟩ := h
        have hm : g.toNat % 128 = g.toNat := by omega
        rw [hm] at hn hc
        refine ⟨g.toNat, 1, by omega, by omega, by simp, hn.symm, by omega, ?_, fun hi h0 => hc (Or.inl ⟨hi, h0⟩)⟩
        cases f with
        | zero => simp [groups]
        | succ f => simp [groups]; omega

/-- What is read from the beginning is what is written. -/
theorem gv_start (xs : List UInt8) (n k : Nat) (h : gv 6 0 0 xs = some (n, k)) : 1 ≤ k ∧ k ≤ xs.length ∧ n ≤ 1099511627776 ∧ xs.take k = groups 5 n := by
  obtain ⟨v, j, hk, h1, h2, hn, hm, ht, _⟩ := gv_groups 6 0 0 xs n k h
  have e : n = v := by simpa using hn
  have e2 : k = j := by omega
  subst e; subst e2
  exact ⟨h1, h2, hm, ht⟩

/-- What is written is read back, whatever follows. -/
theorem groups_gv : ∀ (f i N v : Nat) (tail : List UInt8), v < 128 ^ (f + 1) → N + v * 2 ^ (7 * i) ≤ 1099511627776 → (0 < i → v ≠ 0) →
    gv (f + 1) i N (groups f v ++ tail) = some (N + v * 2 ^ (7 * i), i + (groups f v).length)
  | 0, i, N, v, tail, hv, hm, h0 => by
    have hv' : v < 128 := by simpa using hv
    have e : (UInt8.ofNat v).toNat = v := by simp; omega
    have e2 : v % 128 = v := by omega
    simp only [groups, List.cons_append, List.nil_append, gv, e, e2, List.length_cons, List.length_nil]
    rw [if_neg (by omega), if_neg]
    rintro (⟨hi, hz⟩ | hz)
    · exact h0 hi hz
    · omega
  | f + 1, i, N, v, tail, hv, hm, h0 => by
    by_cases hlt : v < 128
    · have e : (UInt8.ofNat v).toNat = v := by simp; omega
      have e2 : v % 128 = v := by omega
      rw [groups, if_pos hlt]
      simp only [List.cons_append, List.nil_append, gv, e, e2, List.length_cons, List.length_nil]
      rw [if_neg (by omega), if_neg]
      rintro (⟨hi, hz⟩ | hz)
      · exact h0 hi hz
      · omega
    · have e : (UInt8.ofNat (v % 128 + 128)).toNat = v % 128 + 128 := by simp; omega
      have e2 : (v % 128 + 128) % 128 = v % 128 := by omega
      have hp : v / 128 * 2 ^ (7 * (i + 1)) + v % 128 * 2 ^ (7 * i) = v * 2 ^ (7 * i) := by
        rw [show 7 * (i + 1) = 7 * i + 7 by omega, Nat.pow_add, Nat.mul_comm (2 ^ (7 * i)) (2 ^ 7), ← Nat.mul_assoc, ← Nat.add_mul]
        congr 1
        omega
      rw [groups, if_neg hlt]
      simp only [List.cons_append, gv, e, e2, List.length_cons]
      rw [if_pos (by omega)]
      have hd : v / 128 < 128 ^ (f + 1) := by
        rw [Nat.pow_succ] at hv
        exact Nat.div_lt_of_lt_mul (by rwa [Nat.mul_comm])
      have ih := groups_gv f (i + 1) (N + v % 128 * 2 ^ (7 * i)) (v / 128) tail hd (by omega) (fun _ => by omega)
      rw [ih]
      congr 2
      · omega
      · omega

theorem groups_read (n : Nat) (tail : List UInt8) (hn : n ≤ 1099511627776) : gv 6 0 0 (groups 5 n ++ tail) = some (n, (groups 5 n).length) := by
  have h := groups_gv 5 0 0 n tail (by omega) (by simpa using hn) (by simp)
  simpa using h

theorem groups_length : ∀ (f n : Nat), 1 ≤ (groups f n).length ∧ (groups f n).length ≤ f + 1
  | 0, n => by simp [groups]
  | f + 1, n => by
    rw [groups]
    split
    · simp
    · have := groups_length f (n / 128)
      simp; omega

/-- What PutVar returns. -/
def pvE (n : Int) : Int := if 0 ≤ n ∧ n ≤ 1099511627776 then 0 else 1

def pvB (bs : List UInt8) (n : Int) : List UInt8 := if 0 ≤ n ∧ n ≤ 1099511627776 then bs ++ groups 5 n.toNat else []

/-- What GetVar returns. -/
def gvR (at_ : Int) (bs : List UInt8) : Int × Int × Int :=
  if at_ < 0 then (0, 0, 1) else match gv 6 0 0 (bs.drop at_.toNat) with
    | some (n, k) => (n, at_ + k, 0)
    | none => (0, 0, 8)

theorem gvR_end (at_ : Nat) (bs : List UInt8) (e : Ending) (h : GvEnd at_ (gv 6 0 0 (bs.drop at_)) e) :
    e = .returned (.tuple #[.int .i64 (gvR at_ bs).1, .int .i64 (gvR at_ bs).2.1, .int .i64 (gvR at_ bs).2.2]) := by
  unfold GvEnd at h
  unfold gvR
  rw [if_neg (by omega), Int.toNat_natCast, h]
  cases gv 6 0 0 (bs.drop at_) with
  | none => rfl
  | some p => rfl
end Go.Proofs.Ytbeafcjbldnkhaa
