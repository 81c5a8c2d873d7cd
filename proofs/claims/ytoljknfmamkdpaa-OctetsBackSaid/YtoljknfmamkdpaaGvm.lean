/- What is proved here, of the plain functions alone: what gv reads is what groups writes, and what groups writes is read back whatever follows. -/
import Derived.Test.YtoljknfmamkdpaaRgv
namespace Go.Proofs.Ytoljknfmamkdpaa

theorem gv_groups : ∀ (f i N : Nat) (xs : List UInt8) (n k : Nat), gv f i N xs = some (n, k) →
    ∃ v j, k = i + j ∧ 1 ≤ j ∧ j ≤ xs.length ∧ n = N + v * 2 ^ (7 * i) ∧ n ≤ 1099511627776 ∧ xs.take j = groups (f - 1) v ∧ (0 < i → v ≠ 0)
  | 0, i, N, xs, n, k, h => by simp [gv] at h
  | f + 1, i, N, [], n, k, h => by simp [gv] at h
  | f + 1, i, N, g :: r, n, k, h => by
    rw [gv] at h
    by_cases hg : 128 ≤ g.toNat
    · rw [if_pos hg] at h
      obtain ⟨v, j, hk, h1, h2, hn, hm, ht, hv⟩ := gv_groups f (i + 1) _ r n k h
      have hv0 : v ≠ 0 := hv (by omega)
      obtain ⟨f', rfl⟩ : ∃ f', f = f' + 1 := by
        cases f with
        | zero => simp [gv] at h
        | succ f => exact ⟨f, rfl⟩
      refine ⟨g.toNat % 128 + v * 128, j + 1, by omega, by omega, by simpa using h2, ?_, hm, ?_, fun _ => by omega⟩
      · rw [hn, show 7 * (i + 1) = 7 * i + 7 by omega, Nat.pow_add, Nat.add_mul, Nat.add_assoc, Nat.mul_assoc v 128, Nat.mul_comm 128]
      · have hlt := g.toNat_lt
        simp only [List.take_succ_cons, Nat.add_sub_cancel]
        rw [groups, if_neg (by omega), ht]
        have e1 : (g.toNat % 128 + v * 128) % 128 + 128 = g.toNat := by omega
        have e2 : (g.toNat % 128 + v * 128) / 128 = v := by omega
        rw [e1, e2]
        simp
    · rw [if_neg hg] at h
      split at h
      · simp at h
      · rename_i hc
        simp only [Option.some.injEq, Prod.mk.injEq] at h
        obtain ⟨hn, hk⟩ := h
        have hm : g.toNat % 128 = g.toNat := by omega
        rw [hm] at hn hc
        refine ⟨g.toNat, 1, by omega, by omega, by simp, hn.symm, by omega, ?_, fun hi h0 => hc (Or.inl ⟨hi, h0⟩)⟩
        cases f with
        | zero => simp [groups]
        | succ f => simp [groups]; omega

/-- What is read from the beginning is what is written. -/
theorem gv_start (xs : List UInt8) (n k : Nat) (h : gv 6 0 0 xs = some (n, k)) : 1 ≤ k ∧ k ≤ xs.length ∧ n ≤ 1099511627776 ∧ xs.take k = groups 5 n := by
  obtain ⟨v, j, hk, h1, h2, hn, hm, ht, _⟩ := gv_groups 6 0 0 xs n k h
  have e : n = v := by simpa using hn
  have e2 : k = j := by omega
  subst e; subst e2
  exact ⟨h1, h2, hm, ht⟩

/-- What is written is read back, whatever follows. -/
theorem groups_gv : ∀ (f i N v : Nat) (tail : List UInt8), v < 128 ^ (f + 1) → N + v * 2 ^ (7 * i) ≤ 1099511627776 → (0 < i → v ≠ 0) →
    gv (f + 1) i N (groups f v ++ tail) = some (N + v * 2 ^ (7 * i), i + (groups f v).length)
  | 0, i, N, v, tail, hv, hm, h0 => by
    have hv' : v < 128 := by simpa using hv
    have e : (UInt8.ofNat v).toNat = v := by simp; omega
    have e2 : v % 128 = v := by omega
    simp only [groups, List.cons_append, List.nil_append, gv, e, e2, List.length_cons, List.length_nil]
    rw [if_neg (by omega), if_neg]
    rintro (⟨hi, hz⟩ | hz)
    · exact h0 hi hz
    · omega
  | f + 1, i, N, v, tail, hv, hm, h0 => by
    by_cases hlt : v < 128
    · have e : (UInt8.ofNat v).toNat = v := by simp; omega
      have e2 : v % 128 = v := by omega
      rw [groups, if_pos hlt]
      simp only [List.cons_append, List.nil_append, gv, e, e2, List.length_cons, List.length_nil]
      rw [if_neg (by omega), if_neg]
      rintro (⟨hi, hz⟩ | hz)
      · exact h0 hi hz
      · omega
    · have e : (UInt8.ofNat (v % 128 + 128)).toNat = v % 128 + 128 := by simp; omega
      have e2 : (v % 128 + 128) % 128 = v % 128 := by omega
      have hp : v / 128 * 2 ^ (7 * (i + 1)) + v % 128 * 2 ^ (7 * i) = v * 2 ^ (7 * i) := by
        rw [show 7 * (i + 1) = 7 * i + 7 by omega, Nat.pow_add, Nat.mul_comm (2 ^ (7 * i)) (2 ^ 7), ← Nat.mul_assoc, ← Nat.add_mul]
        congr 1
        omega
      rw [groups, if_neg hlt]
      simp only [List.cons_append, gv, e, e2, List.length_cons]
      rw [if_pos (by omega)]
      have hd : v / 128 < 128 ^ (f + 1) := by
        rw [Nat.pow_succ] at hv
        exact Nat.div_lt_of_lt_mul (by rwa [Nat.mul_comm])
      have ih := groups_gv f (i + 1) (N + v % 128 * 2 ^ (7 * i)) (v / 128) tail hd (by omega) (fun _ => by omega)
      rw [ih]
      congr 2
      · omega
      · omega

theorem groups_read (n : Nat) (tail : List UInt8) (hn : n ≤ 1099511627776) : gv 6 0 0 (groups 5 n ++ tail) = some (n, (groups 5 n).length) := by
  have h := groups_gv 5 0 0 n tail (by omega) (by simpa using hn) (by simp)
  simpa using h

theorem groups_length : ∀ (f n : Nat), 1 ≤ (groups f n).length ∧ (groups f n).length ≤ f + 1
  | 0, n => by simp [groups]
  | f + 1, n => by
    rw [groups]
    split
    · simp
    · have := groups_length f (n / 128)
      simp; omega
end Go.Proofs.Ytoljknfmamkdpaa
