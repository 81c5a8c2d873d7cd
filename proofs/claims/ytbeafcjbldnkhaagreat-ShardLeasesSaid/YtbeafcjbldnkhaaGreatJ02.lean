/- What is proved here: the bitwise operations of int at numbers that are not negative, as sums and remainders; (plain functions) the groups of seven bits of a number, and how they are read back; (plain functions) a text with its length; the bytes of a string in memory; (plain functions) what Decode reads; a message that lies in a block. -/
import Derived.Laws.BitsAllLaws
import Derived.Laws.BitsLemmas
import Derived.Laws.Bits128
import Derived.Test.YtbeafcjbldnkhaaGreatJ01
import Derived.IntWalk
import Derived.Lib.ConvBytes
import Derived.Lib.AppendStr
import Derived.Deep.AppendLies
namespace Go.Proofs.YtbeafcjbldnkhaaGreat

theorem wraps_i64 (n : Int) (h₀ : 0 ≤ n) (h₁ : n < 2 ^ 63) : IntKind.i64.wrap n = n := by rw [IntKind.wrap_i64]; omega

/-- x or y, x a multiple of 2^i and y below 2^i. -/
theorem or_join (i : Nat) (x y : Int) (hx₀ : 0 ≤ x) (hx : x % 2 ^ i = 0) (hx₁ : x < 2 ^ 63) (hy₀ : 0 ≤ y) (hy : y < 2 ^ i) (hy₁ : y < 2 ^ 63) : bits .or .i64 x y = x + y :=
  bits_join .i64 63 (by decide) wraps_i64 i x y hx₀ hx hx₁ hy₀ hy hy₁
theorem or_joined (i : Nat) (x y : Int) (hx₀ : 0 ≤ x) (hx : x % 2 ^ i = 0) (hx₁ : x < 2 ^ 63) (hy₀ : 0 ≤ y) (hy : y < 2 ^ i) (hy₁ : y < 2 ^ 63) : bits .or .i64 y x = y + x := by
  have hc : bits .or .i64 y x = bits .or .i64 x y := by simp only [bits, BitVec.or_comm]
  rw [hc, or_join i x y hx₀ hx hx₁ hy₀ hy hy₁, Int.add_comm]
theorem or_128 (y : Int) (h0 : 0 ≤ y) (h1 : y < 128) : bits .or .i64 y 128 = y + 128 := or_joined 7 128 y (by decide) (by decide) (by decide) h0 h1 (by omega)
end Go.Proofs.YtbeafcjbldnkhaaGreat
namespace Go.Proofs.YtbeafcjbldnkhaaGreat
open Go.RowKit
set_option linter.unusedVariables false

/-- The groups of seven bits of n, the lowest first, at most f + 1 of them. -/
def groups : Nat → Nat → List UInt8
  | 0, n => [UInt8.ofNat n]
  | f + 1, n => if n < 128 then [UInt8.ofNat n] else UInt8.ofNat (n % 128 + 128) :: groups f (n / 128)

theorem oct_of (x : Nat) (h : x < 256) : oct (UInt8.ofNat x) = .int .u8 (x : Int) := by
  unfold oct
  rw [show (UInt8.ofNat x).toNat = x from by simp; omega]

/-- What GetVar makes of the bytes from the i-th group on, n being the number so far and at most f groups being left: the number and how many groups it takes. -/
def gv : Nat → Nat → Nat → List UInt8 → Option (Nat × Nat)
  | 0, _, _, _ => none
  | _ + 1, _, _, [] => none
  | f + 1, i, n, g :: r =>
    if 128 ≤ g.toNat then gv f (i + 1) (n + g.toNat % 128 * 2 ^ (7 * i)) r
    else if (0 < i ∧ g.toNat = 0) ∨ 1099511627776 < n + g.toNat % 128 * 2 ^ (7 * i) then none
    else some (n + g.toNat % 128 * 2 ^ (7 * i), i + 1)

/-- How a call of GetVar ends. -/
def GvEnd (at_ : Nat) (r : Option (Nat × Nat)) (e : Ending) : Prop :=
  e = .returned (match r with | some (n, k) => .tuple #[.int .i64 n, .int .i64 (at_ + k), .int .i64 0] | none => .tuple #[.int .i64 0, .int .i64 0, .int .i64 8])

theorem gv_step (xs : List UInt8) (k N : Nat) (hk : k < 6) (hx : k < xs.length) : gv (6 - k) k N (xs.drop k) =
    if 128 ≤ xs[k].toNat then gv (6 - (k + 1)) (k + 1) (N + xs[k].toNat % 128 * 2 ^ (7 * k)) (xs.drop (k + 1))
    else if (0 < k ∧ xs[k].toNat = 0) ∨ 1099511627776 < N + xs[k].toNat % 128 * 2 ^ (7 * k) then none
    else some (N + xs[k].toNat % 128 * 2 ^ (7 * k), k + 1) := by
  rw [show 6 - k = (6 - (k + 1)) + 1 by omega, List.drop_eq_getElem_cons hx, gv]

theorem gv_end (xs : List UInt8) (k N : Nat) (h : 6 ≤ k ∨ xs.length ≤ k) : gv (6 - k) k N (xs.drop k) = none := by
  rcases h with h | h
  · rw [show 6 - k = 0 by omega, gv]
  · rw [List.drop_of_length_le h]
    cases 6 - k <;> simp [gv]

theorem pow7 (k : Nat) (hk : k < 6) : 1 ≤ 2 ^ (7 * k) ∧ 2 ^ (7 * k) ≤ 34359738368 ∧ 2 ^ (7 * (k + 1)) = 128 * 2 ^ (7 * k) := by
  refine ⟨Nat.one_le_two_pow, ?_, by rw [show 7 * (k + 1) = 7 * k + 7 by omega, Nat.pow_add]; omega⟩
  exact Nat.le_trans (Nat.pow_le_pow_right (by omega) (show 7 * k ≤ 35 by omega)) (by decide)

/-- The numbers of one round. -/
theorem gv_num (g P N k : Nat) (hg : g < 256) (hP : P = 2 ^ (7 * k)) (hk : k < 6) (hN : N < 2 ^ (7 * k)) :
    ∃ T : Nat, g % 128 * P = T ∧ (g : Int) % 128 * (P : Int) = (T : Int) ∧ N + T < 2 ^ (7 * (k + 1)) ∧ (N : Int) + T ≤ 4398046511104 ∧ wrap64 (T : Int) = T ∧ wrap64 ((N : Int) + T) = (N : Int) + T ∧ (P : Int) ≤ 34359738368 := by
  obtain ⟨p1, p2, p3⟩ := pow7 k hk
  rw [← hP] at p1 p2 p3 hN
  have hb : g % 128 * P + P ≤ 128 * P := by
    have := Nat.mul_le_mul_right P (show g % 128 + 1 ≤ 128 by omega)
    rwa [Nat.add_mul, Nat.one_mul] at this
  have hs : N + g % 128 * P < 128 * P := by omega
  rw [p3]
  clear p3 hP
  refine ⟨g % 128 * P, rfl, by simp, hs, ?_⟩
  generalize g % 128 * P = T at *
  clear hg
  exact ⟨by omega, IntWalk.wrap64_in _ (by omega), IntWalk.wrap64_in _ (by omega), by omega⟩

theorem gv_or (g P N k T : Nat) (hP : P = 2 ^ (7 * k)) (hT : g % 128 * P = T) (hN : N < 2 ^ (7 * k)) (hb : (N : Int) + T ≤ 4398046511104) : bits .or .i64 (N : Int) (T : Int) = (N : Int) + T := by
  have h3 : (T : Int) < 2 ^ 63 := by clear hT hN hP; omega
  have h4 : (N : Int) < 2 ^ 63 := by clear hT hN hP h3; omega
  subst hP
  have h0 : T % 2 ^ (7 * k) = 0 := by rw [← hT]; exact Nat.mul_mod_left _ _
  have h1 : (T : Int) % 2 ^ (7 * k) = 0 := by exact_mod_cast h0
  have h2 : (N : Int) < 2 ^ (7 * k) := by exact_mod_cast hN
  exact or_joined (7 * k) T N (Int.natCast_nonneg _) h1 h3 (Int.natCast_nonneg _) h2 h4

theorem gv_groups : ∀ (f i N : Nat) (xs : List UInt8) (n k : Nat), gv f i N xs = some (n, k) →
    ∃ v j, k = i + j ∧ 1 ≤ j ∧ j ≤ xs.length ∧ n = N + v * 2 ^ (7 * i) ∧ n ≤ 1099511627776 ∧ xs.take j = groups (f - 1) v ∧ (0 < i → v ≠ 0)
  | 0, i, N, xs, n, k, h => by simp [gv] at h
  | f + 1, i, N, [], n, k, h => by simp [gv] at h
  | f + 1, i, N, g :: r, n, k, h => by
    rw [gv] at h
    by_cases hg : 128 ≤ g.toNat
    · rw [if_pos hg] at h
      obtain ⟨v, j, hk, h1, h2, hn, hm, ht, hv⟩ := gv_groups f (i + 1) _ r n k h
      have hv0 : v ≠ 0 := hv (by omega)
      obtain ⟨f', rfl⟩ : ∃ f', f = f' + 1 := by
        cases f with
        | zero => simp [gv] at h
        | succ f => exact ⟨f, rfl⟩
      refine ⟨g.toNat % 128 + v * 128, j + 1, by omega, by omega, by simpa using h2, ?_, hm, ?_, fun _ => by omega⟩
      · rw [hn, show 7 * (i + 1) = 7 * i + 7 by omega, Nat.pow_add, Nat.add_mul, Nat.add_assoc, Nat.mul_assoc v 128, Nat.mul_comm 128]
      · have hlt := g.toNat_lt
        simp only [List.take_succ_cons, Nat.add_sub_cancel]
        rw [groups, if_neg (by omega), ht]
        have e1 : (g.toNat % 128 + v * 128) % 128 + 128 = g.toNat := by omega
        have e2 : (g.toNat % 128 + v * 128) / 128 = v := by omega
        rw [e1, e2]
        simp
    · rw [if_neg hg] at h
      split at h
      · simp at h
      · rename_i hc
        simp only [Option.some.injEq, Prod.mk.injEq] at h
        obtain ⟨hn, hk⟩ := h
        have hm : g.toNat % 128 = g.toNat := by omega
        rw [hm] at hn hc
        refine ⟨g.toNat, 1, by omega, by omega, by simp, hn.symm, by omega, ?_, fun hi h0 => hc (Or.inl ⟨hi, h0⟩)⟩
        cases f with
        | zero => simp [groups]
        | succ f => simp [groups]; omega

/-- What is read from the beginning is what is written. -/
theorem gv_start (xs : List UInt8) (n k : Nat) (h : gv 6 0 0 xs = some (n, k)) : 1 ≤ k ∧ k ≤ xs.length ∧ n ≤ 1099511627776 ∧ xs.take k = groups 5 n := by
  obtain ⟨v, j, hk, h1, h2, hn, hm, ht, _⟩ := gv_groups 6 0 0 xs n k h
  have e : n = v := by simpa using hn
  have e2 : k = j := by omega
  subst e; subst e2
  exact ⟨h1, h2, hm, ht⟩

/-- What is written is read back, whatever follows. -/
theorem groups_gv : ∀ (f i N v : Nat) (tail : List UInt8), v < 128 ^ (f + 1) → N + v * 2 ^ (7 * i) ≤ 1099511627776 → (0 < i → v ≠ 0) →
    gv (f + 1) i N (groups f v ++ tail) = some (N + v * 2 ^ (7 * i), i + (groups f v).length)
  | 0, i, N, v, tail, hv, hm, h0 => by
    have hv' : v < 128 := by simpa using hv
    have e : (UInt8.ofNat v).toNat = v := by simp; omega
    have e2 : v % 128 = v := by omega
    simp only [groups, List.cons_append, List.nil_append, gv, e, e2, List.length_cons, List.length_nil]
    rw [if_neg (by omega), if_neg]
    rintro (⟨hi, hz⟩ | hz)
    · exact h0 hi hz
    · omega
  | f + 1, i, N, v, tail, hv, hm, h0 => by
    by_cases hlt : v < 128
    · have e : (UInt8.ofNat v).toNat = v := by simp; omega
      have e2 : v % 128 = v := by omega
      rw [groups, if_pos hlt]
      simp only [List.cons_append, List.nil_append, gv, e, e2, List.length_cons, List.length_nil]
      rw [if_neg (by omega), if_neg]
      rintro (⟨hi, hz⟩ | hz)
      · exact h0 hi hz
      · omega
    · have e : (UInt8.ofNat (v % 128 + 128)).toNat = v % 128 + 128 := by simp; omega
      have e2 : (v % 128 + 128) % 128 = v % 128 := by omega
      have hp : v / 128 * 2 ^ (7 * (i + 1)) + v % 128 * 2 ^ (7 * i) = v * 2 ^ (7 * i) := by
        rw [show 7 * (i + 1) = 7 * i + 7 by omega, Nat.pow_add, Nat.mul_comm (2 ^ (7 * i)) (2 ^ 7), ← Nat.mul_assoc, ← Nat.add_mul]
        congr 1
        omega
      rw [groups, if_neg hlt]
      simp only [List.cons_append, gv, e, e2, List.length_cons]
      rw [if_pos (by omega)]
      have hd : v / 128 < 128 ^ (f + 1) := by
        rw [Nat.pow_succ] at hv
        exact Nat.div_lt_of_lt_mul (by rwa [Nat.mul_comm])
      have ih := groups_gv f (i + 1) (N + v % 128 * 2 ^ (7 * i)) (v / 128) tail hd (by omega) (fun _ => by omega)
      rw [ih]
      congr 2
      · omega
      · omega

theorem groups_read (n : Nat) (tail : List UInt8) (hn : n ≤ 1099511627776) : gv 6 0 0 (groups 5 n ++ tail) = some (n, (groups 5 n).length) := by
  have h := groups_gv 5 0 0 n tail (by omega) (by simpa using hn) (by simp)
  simpa using h

theorem groups_length : ∀ (f n : Nat), 1 ≤ (groups f n).length ∧ (groups f n).length ≤ f + 1
  | 0, n => by simp [groups]
  | f + 1, n => by
    rw [groups]
    split
    · simp
    · have := groups_length f (n / 128)
      simp; omega

/-- What PutVar returns. -/
def pvE (n : Int) : Int := if 0 ≤ n ∧ n ≤ 1099511627776 then 0 else 1

def pvB (bs : List UInt8) (n : Int) : List UInt8 := if 0 ≤ n ∧ n ≤ 1099511627776 then bs ++ groups 5 n.toNat else []

/-- What GetVar returns. -/
def gvR (at_ : Int) (bs : List UInt8) : Int × Int × Int :=
  if at_ < 0 then (0, 0, 1) else match gv 6 0 0 (bs.drop at_.toNat) with
    | some (n, k) => (n, at_ + k, 0)
    | none => (0, 0, 8)

theorem gvR_end (at_ : Nat) (bs : List UInt8) (e : Ending) (h : GvEnd at_ (gv 6 0 0 (bs.drop at_)) e) :
    e = .returned (.tuple #[.int .i64 (gvR at_ bs).1, .int .i64 (gvR at_ bs).2.1, .int .i64 (gvR at_ bs).2.2]) := by
  unfold GvEnd at h
  unfold gvR
  rw [if_neg (by omega), Int.toNat_natCast, h]
  cases gv 6 0 0 (bs.drop at_) with
  | none => rfl
  | some p => rfl
end Go.Proofs.YtbeafcjbldnkhaaGreat
namespace Go.Proofs.YtbeafcjbldnkhaaGreat
open Go.RowKit
set_option linter.unusedVariables false

theorem bytesWorld_below (W : World) (e : TypeId) (s : ByteArray) : Below W.heap.size W (Lib.bytesWorld W e s) :=
  ⟨rfl, rfl, rfl, by rw [Lib.bytesWorld_size]; omega, fun k hk => Lib.bytesWorld_at_old W e s k hk⟩

theorem bytesWorld_bs (W : World) (e : TypeId) (s : ByteArray) (hs : s.size ≤ maxLen) :
    Bs (Lib.bytesWorld W e s) (Lib.bytesWorld W e s).heap.size (.slice (some ⟨W.heap.size, 0, none⟩) s.size (grownCap W s.size 0 e)) s.data.toList := by
  have hl : s.data.toList.length = s.size := by simp
  refine ⟨_, grownCap W s.size 0 e, by rw [hl], by rw [hl]; exact grownCap_ge _ _ _ _, grownCap_le_maxLen _ _ _ _ hs, by simp, fun _ => ⟨_, _, rfl, by rw [Lib.bytesWorld_size]; omega, fun j u hu => ?_⟩⟩
  rw [Nat.zero_add]
  simp only [List.getElem?_map, Option.map_eq_some_iff] at hu
  obtain ⟨x, hx, rfl⟩ := hu
  obtain ⟨hj, rfl⟩ := List.getElem?_eq_some_iff.1 hx
  rw [Lib.bytesWorld_cell W e s j (by omega)]
  simp [oct, List.getD, hx]

/-- What PutText returns. -/
def pxE (s : ByteArray) (m : Int) : Int := if m < 0 ∨ 255 < m then 1 else if m < (s.size : Int) then 2 else 0

def pxB (bs : List UInt8) (s : ByteArray) (m : Int) : List UInt8 := if m < 0 ∨ 255 < m then [] else if m < (s.size : Int) then [] else bs ++ [UInt8.ofNat s.size] ++ s.data.toList

/-- What GetText returns: the text, the position after it, the error. -/
def gxS (at_ m : Int) (bs : List UInt8) : ByteArray × Int × Int :=
  if m < 0 ∨ 255 < m ∨ at_ < 0 then (ByteArray.empty, 0, 1)
  else if (bs.length : Int) ≤ at_ then (ByteArray.empty, 0, 8)
  else if m < ((bs.getD at_.toNat 0).toNat : Int) then (ByteArray.empty, 0, 2)
  else if (bs.length : Int) < at_ + 1 + (bs.getD at_.toNat 0).toNat then (ByteArray.empty, 0, 8)
  else (⟨((bs.drop (at_.toNat + 1)).take (bs.getD at_.toNat 0).toNat).toArray⟩, at_ + 1 + (bs.getD at_.toNat 0).toNat, 0)

/-- How a call ends behind its first byte. -/
def GxEnd (at_ g : Nat) (m : Int) (bs : List UInt8) (e : Ending) : Prop :=
  e = .returned (if m < (g : Int) then .tuple #[.string ByteArray.empty, .int .i64 0, .int .i64 2]
    else if (bs.length : Int) < at_ + 1 + g then .tuple #[.string ByteArray.empty, .int .i64 0, .int .i64 8]
    else .tuple #[.string ⟨((bs.drop (at_ + 1)).take g).toArray⟩, .int .i64 (at_ + 1 + g), .int .i64 0])

theorem gx_end (at_ : Nat) (m : Int) (bs : List UInt8) (e : Ending) (h1 : 0 ≤ m) (h2 : m ≤ 255) (hat : at_ < bs.length) (h : GxEnd at_ (bs.getD at_ 0).toNat m bs e) :
    e = .returned (.tuple #[.string (gxS at_ m bs).1, .int .i64 (gxS at_ m bs).2.1, .int .i64 (gxS at_ m bs).2.2]) := by
  unfold GxEnd at h
  unfold gxS
  rw [if_neg (by omega), if_neg (by omega), Int.toNat_natCast, h]
  split
  · rfl
  · split <;> rfl
end Go.Proofs.YtbeafcjbldnkhaaGreat
namespace Go.Proofs.YtbeafcjbldnkhaaGreat
open Go.RowKit
set_option linter.unusedVariables false

/-- The first k numbers of the bytes, and the position after them. -/
def rdN (bs : List UInt8) : Nat → Option ((Nat → Int) × Int)
  | 0 => some (fun _ => 0, 0)
  | k + 1 => (rdN bs k).bind fun p => if (gvR p.2 bs).2.2 = 0 then some (fun j => if j = k then (gvR p.2 bs).1 else p.1 j, (gvR p.2 bs).2.1) else none

/-- What Decode returns. -/
def decF (bs : List UInt8) : Msg × Int :=
  match rdN bs 6 with
  | none => (zM, 8)
  | some (f, a) => if (gxS a 16 bs).2.2 = 0 ∧ (gxS a 16 bs).2.1 = bs.length then (ckM ⟨f 0, f 1, f 2, f 3, f 4, f 5, (gxS a 16 bs).1⟩, vf ⟨f 0, f 1, f 2, f 3, f 4, f 5, (gxS a 16 bs).1⟩) else (zM, 8)

theorem gvR_pos {a : Int} {bs : List UInt8} (h : (gvR a bs).2.2 = 0) : 0 ≤ a ∧ a < (gvR a bs).2.1 ∧ (gvR a bs).2.1 ≤ bs.length := by
  unfold gvR at h ⊢
  by_cases ha : a < 0
  · rw [if_pos ha] at h; exact absurd h (by decide)
  · rw [if_neg ha] at h ⊢
    cases hg : gv 6 0 0 (bs.drop a.toNat) with
    | none => rw [hg] at h; exact absurd (show (8 : Int) = 0 from h) (by decide)
    | some p =>
      obtain ⟨n, k⟩ := p
      obtain ⟨h1, h2, _, _⟩ := gv_start _ n k hg
      rw [List.length_drop] at h2
      show 0 ≤ a ∧ a < a + (k : Int) ∧ a + (k : Int) ≤ bs.length
      omega
theorem rd_succ (bs : List UInt8) (k : Nat) (f : Nat → Int) (a : Int) (h : rdN bs k = some (f, a)) (h0 : (gvR a bs).2.2 = 0) : rdN bs (k + 1) = some (fun j => if j = k then (gvR a bs).1 else f j, (gvR a bs).2.1) := by
  rw [rdN, h, Option.bind_some, if_pos h0]
theorem rd_stop (bs : List UInt8) (k : Nat) (f : Nat → Int) (a : Int) (h : rdN bs k = some (f, a)) (h0 : (gvR a bs).2.2 ≠ 0) : rdN bs (k + 1) = none := by
  rw [rdN, h, Option.bind_some, if_neg h0]
theorem rd_none (bs : List UInt8) (k : Nat) (h : rdN bs k = none) : ∀ m, rdN bs (k + m) = none
  | 0 => h
  | m + 1 => by rw [← Nat.add_assoc, rdN, rd_none bs k h m]; rfl
theorem rd_pos (bs : List UInt8) : ∀ (k : Nat) (f : Nat → Int) (a : Int), rdN bs k = some (f, a) → 0 ≤ a ∧ a ≤ bs.length
  | 0, f, a, h => by
    simp only [rdN, Option.some.injEq, Prod.mk.injEq] at h
    omega
  | k + 1, f, a, h => by
    rw [rdN] at h
    cases hr : rdN bs k with
    | none => rw [hr] at h; exact absurd h (by simp)
    | some p =>
      obtain ⟨g, b⟩ := p
      rw [hr, Option.bind_some] at h
      by_cases h0 : (gvR b bs).2.2 = 0
      · rw [if_pos h0] at h
        simp only [Option.some.injEq, Prod.mk.injEq] at h
        have := gvR_pos h0
        omega
      · rw [if_neg h0] at h; exact absurd h (by simp)
theorem dec_none (bs : List UInt8) (k : Nat) (hk : k < 6) (h : rdN bs (k + 1) = none) : decF bs = (zM, 8) := by
  have := rd_none bs (k + 1) h (5 - k)
  rw [show k + 1 + (5 - k) = 6 by omega] at this
  unfold decF; rw [this]
theorem dec_text (bs : List UInt8) (f : Nat → Int) (a : Int) (h : rdN bs 6 = some (f, a)) (h0 : ¬ ((gxS a 16 bs).2.2 = 0 ∧ (gxS a 16 bs).2.1 = bs.length)) : decF bs = (zM, 8) := by
  unfold decF; rw [h]; exact if_neg h0
theorem dec_all (bs : List UInt8) (f : Nat → Int) (a : Int) (h : rdN bs 6 = some (f, a)) (h0 : (gxS a 16 bs).2.2 = 0 ∧ (gxS a 16 bs).2.1 = bs.length) :
    decF bs = (ckM ⟨f 0, f 1, f 2, f 3, f 4, f 5, (gxS a 16 bs).1⟩, vf ⟨f 0, f 1, f 2, f 3, f 4, f 5, (gxS a 16 bs).1⟩) := by
  unfold decF; rw [h]; exact if_pos h0

/-- Block g holds a message. -/
def MAt (w : World) (g : Nat) (f : Nat → Int) (b : ByteArray) : Prop :=
  g < w.heap.size ∧ (∀ j, j < 6 → w.cell? ⟨g, j, none⟩ = some (.int .i64 (f j))) ∧ w.cell? ⟨g, 6, none⟩ = some (.string b) ∧ ∀ o, o < 7 → w.frozen? ⟨g, o, none⟩ = false

section
variable {w w' : World} {g B : Nat} {f : Nat → Int} {b : ByteArray}
theorem MAt.fresh (w : World) (x0 x1 x2 x3 x4 x5 : Int) (b : ByteArray) (t : TypeId) (h0 : f 0 = x0) (h1 : f 1 = x1) (h2 : f 2 = x2) (h3 : f 3 = x3) (h4 : f 4 = x4) (h5 : f 5 = x5) : MAt (w.alloc (.cells #[.int .i64 x0, .int .i64 x1, .int .i64 x2, .int .i64 x3, .int .i64 x4, .int .i64 x5, .string b] t)) w.heap.size f b := by
  subst h0; subst h1; subst h2; subst h3; subst h4; subst h5
  refine ⟨by simp, fun j hj => ?_, by simp [go_sem], fun o ho => by simp [go_sem]⟩
  match j, hj with
  | 0, _ => simp [go_sem]
  | 1, _ => simp [go_sem]
  | 2, _ => simp [go_sem]
  | 3, _ => simp [go_sem]
  | 4, _ => simp [go_sem]
  | 5, _ => simp [go_sem]
theorem MAt.below (h : MAt w g f b) (hb : Below B w w') (hg : g < B) : MAt w' g f b :=
  ⟨Nat.lt_of_lt_of_le h.1 hb.size, fun j hj => (hb.cell (p := ⟨g, j, none⟩) hg).trans (h.2.1 j hj), (hb.cell (p := ⟨g, 6, none⟩) hg).trans h.2.2.1, fun o ho => (hb.frozen (p := ⟨g, o, none⟩) hg).trans (h.2.2.2 o ho)⟩
theorem MAt.grown (h : MAt w g f b) {r : Nat} (hg : w.grownBy w' (some r)) (hne : g ≠ r) : MAt w' g f b :=
  ⟨Nat.lt_of_lt_of_le h.1 hg.size, fun j hj => (hg.cell_far ⟨g, j, none⟩ h.1 (fun e => hne (by injection e))).trans (h.2.1 j hj), (hg.cell_far ⟨g, 6, none⟩ h.1 (fun e => hne (by injection e))).trans h.2.2.1, fun o ho => (hg.frozen_far ⟨g, o, none⟩ h.1 (fun e => hne (by injection e))).trans (h.2.2.2 o ho)⟩
theorem MAt.alloc (h : MAt w g f b) (o : Obj) : MAt (w.alloc o) g f b := h.below (w' := w.alloc o) ((Below.refl w.heap.size w).alloc (Nat.le_refl _) o) h.1
theorem MAt.other (h : MAt w g f b) {p : Addr} (hp : p.block ≠ g) (v : Value) : MAt (w.setCell p v) g f b :=
  ⟨by simpa using h.1, fun j hj => (World.cell?_setCell_other w p ⟨g, j, none⟩ v (fun e => hp (by rw [e]))).trans (h.2.1 j hj), (World.cell?_setCell_other w p ⟨g, 6, none⟩ v (fun e => hp (by rw [e]))).trans h.2.2.1, fun o ho => by rw [World.frozen?_setCell]; exact h.2.2.2 o ho⟩
theorem MAt.put (h : MAt w g f b) (k : Nat) (hk : k < 6) (n : Int) : MAt (w.setCell ⟨g, k, none⟩ (.int .i64 n)) g (fun j => if j = k then n else f j) b := by
  refine ⟨by simpa using h.1, fun j hj => ?_, ?_, fun o ho => by rw [World.frozen?_setCell]; exact h.2.2.2 o ho⟩
  · by_cases e : j = k
    · subst e
      have := h.2.1 j hj
      simp [go_sem, this]
    · show _ = some (Value.int .i64 (if j = k then n else f j))
      rw [if_neg e]
      exact (World.cell?_setCell_other w _ _ _ (fun he => by injection he; omega)).trans (h.2.1 j hj)
  · exact (World.cell?_setCell_other w _ _ _ (fun he => by injection he; omega)).trans h.2.2.1
theorem MAt.body (h : MAt w g f b) (s : ByteArray) : MAt (w.setCell ⟨g, 6, none⟩ (.string s)) g f s := by
  refine ⟨by simpa using h.1, fun j hj => (World.cell?_setCell_other w _ _ _ (fun he => by injection he; omega)).trans (h.2.1 j hj), ?_, fun o ho => by rw [World.frozen?_setCell]; exact h.2.2.2 o ho⟩
  have := h.2.2.1
  simp [go_sem, this]
/-- All that the walk asks of it. -/
theorem MAt.facts (h : MAt w g f b) : (w.cell? ⟨g, 0, none⟩ = some (.int .i64 (f 0)) ∧ w.cell? ⟨g, 1, none⟩ = some (.int .i64 (f 1)) ∧ w.cell? ⟨g, 2, none⟩ = some (.int .i64 (f 2)) ∧ w.cell? ⟨g, 3, none⟩ = some (.int .i64 (f 3)) ∧ w.cell? ⟨g, 4, none⟩ = some (.int .i64 (f 4)) ∧ w.cell? ⟨g, 5, none⟩ = some (.int .i64 (f 5)) ∧ w.cell? ⟨g, 6, none⟩ = some (.string b)) ∧
    (w.frozen? ⟨g, 0, none⟩ = false ∧ w.frozen? ⟨g, 1, none⟩ = false ∧ w.frozen? ⟨g, 2, none⟩ = false ∧ w.frozen? ⟨g, 3, none⟩ = false ∧ w.frozen? ⟨g, 4, none⟩ = false ∧ w.frozen? ⟨g, 5, none⟩ = false ∧ w.frozen? ⟨g, 6, none⟩ = false) :=
  ⟨⟨h.2.1 0 (by omega), h.2.1 1 (by omega), h.2.1 2 (by omega), h.2.1 3 (by omega), h.2.1 4 (by omega), h.2.1 5 (by omega), h.2.2.1⟩, h.2.2.2 0 (by omega), h.2.2.2 1 (by omega), h.2.2.2 2 (by omega), h.2.2.2 3 (by omega), h.2.2.2 4 (by omega), h.2.2.2 5 (by omega), h.2.2.2 6 (by omega)⟩
/-- Block g holds six numbers. -/
def NAt (w : World) (g : Nat) (f : Nat → Int) : Prop :=
  g < w.heap.size ∧ (∀ j, j < 6 → w.cell? ⟨g, j, none⟩ = some (.int .i64 (f j))) ∧ ∀ o, o < 6 → w.frozen? ⟨g, o, none⟩ = false
theorem NAt.fresh (w : World) (t : TypeId) : NAt (w.alloc (.cells #[.int .i64 0, .int .i64 0, .int .i64 0, .int .i64 0, .int .i64 0, .int .i64 0] t)) w.heap.size (fun _ => 0) := by
  refine ⟨by simp, fun j hj => ?_, fun o ho => by simp [go_sem]⟩
  match j, hj with
  | 0, _ => simp [go_sem]
  | 1, _ => simp [go_sem]
  | 2, _ => simp [go_sem]
  | 3, _ => simp [go_sem]
  | 4, _ => simp [go_sem]
  | 5, _ => simp [go_sem]
theorem NAt.below (h : NAt w g f) (hb : Below B w w') (hg : g < B) : NAt w' g f :=
  ⟨Nat.lt_of_lt_of_le h.1 hb.size, fun j hj => (hb.cell (p := ⟨g, j, none⟩) hg).trans (h.2.1 j hj), fun o ho => (hb.frozen (p := ⟨g, o, none⟩) hg).trans (h.2.2 o ho)⟩
theorem NAt.alloc (h : NAt w g f) (o : Obj) : NAt (w.alloc o) g f := h.below (w' := w.alloc o) ((Below.refl w.heap.size w).alloc (Nat.le_refl _) o) h.1
theorem NAt.put (h : NAt w g f) (k : Nat) (hk : k < 6) (n : Int) : NAt (w.setCell ⟨g, k, none⟩ (.int .i64 n)) g (fun j => if j = k then n else f j) := by
  refine ⟨by simpa using h.1, fun j hj => ?_, fun o ho => by rw [World.frozen?_setCell]; exact h.2.2 o ho⟩
  by_cases e : j = k
  · subst e
    have := h.2.1 j hj
    simp [go_sem, this]
  · show _ = some (Value.int .i64 (if j = k then n else f j))
    rw [if_neg e]
    exact (World.cell?_setCell_other w _ _ _ (fun he => by injection he; omega)).trans (h.2.1 j hj)
theorem NAt.facts (h : NAt w g f) : w.cell? ⟨g, 0, none⟩ = some (.int .i64 (f 0)) ∧ w.cell? ⟨g, 1, none⟩ = some (.int .i64 (f 1)) ∧ w.cell? ⟨g, 2, none⟩ = some (.int .i64 (f 2)) ∧ w.cell? ⟨g, 3, none⟩ = some (.int .i64 (f 3)) ∧ w.cell? ⟨g, 4, none⟩ = some (.int .i64 (f 4)) ∧ w.cell? ⟨g, 5, none⟩ = some (.int .i64 (f 5)) :=
  ⟨h.2.1 0 (by omega), h.2.1 1 (by omega), h.2.1 2 (by omega), h.2.1 3 (by omega), h.2.1 4 (by omega), h.2.1 5 (by omega)⟩
end

/-- What a call of Decode returns. -/
def DcEnd (w : World) (bs : List UInt8) (e : Ending) (w' : World) : Prop := e = .returned (.tuple #[(decF bs).1.v, .int .i64 (decF bs).2]) ∧ Below w.heap.size w w'
theorem dc_bad {w : World} {bs : List UInt8} {w' : World} (h : decF bs = (zM, 8)) (hb : Below w.heap.size w w') : DcEnd w bs (.returned (.tuple #[.agg #[.int .i64 0, .int .i64 0, .int .i64 0, .int .i64 0, .int .i64 0, .int .i64 0, .string ByteArray.empty], .int .i64 8])) w' := by
  refine ⟨?_, hb⟩
  rw [h]; rfl
theorem dc_ok {w : World} {bs : List UInt8} {w' : World} (M : Msg) (k : Int) (h : decF bs = (M, k)) (hb : Below w.heap.size w w') : DcEnd w bs (.returned (.tuple #[M.v, .int .i64 k])) w' := by
  refine ⟨?_, hb⟩
  rw [h]
end Go.Proofs.YtbeafcjbldnkhaaGreat
