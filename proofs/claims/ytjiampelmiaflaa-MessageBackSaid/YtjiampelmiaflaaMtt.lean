/- What is proved here, of the plain functions alone: what is decoded of the bytes of a message, and that bytes that are decoded are those of the message. -/
import Derived.Test.YtjiampelmiaflaaMed
import Derived.Test.YtjiampelmiaflaaMdd
import Derived.Test.YtjiampelmiaflaaRtd
namespace Go.Proofs.Ytjiampelmiaflaa
open Go.RowKit
set_option linter.unusedVariables false

theorem gvR_read (pre tail : List UInt8) (n : Nat) (hn : n ≤ 1099511627776) : gvR (pre.length : Int) (pre ++ (groups 5 n ++ tail)) = ((n : Int), (pre.length : Int) + (groups 5 n).length, 0) := by
  unfold gvR
  rw [if_neg (by omega), Int.toNat_natCast, List.drop_left, groups_read n tail hn]
theorem eb_split (M : Msg) (k : Nat) : ∀ m, ∃ rest, eb M (k + m) = eb M k ++ rest
  | 0 => ⟨[], by simp⟩
  | m + 1 => by
    obtain ⟨r, hr⟩ := eb_split M k m
    exact ⟨r ++ groups 5 (M.nth (k + m)).toNat, by rw [← Nat.add_assoc, eb, hr, List.append_assoc]⟩
theorem rd_enc {M : Msg} (h : vf M = 0) (tail : List UInt8) : ∀ k, k ≤ 6 → ∃ f, rdN (eb M 6 ++ tail) k = some (f, ((eb M k).length : Int)) ∧ ∀ j, j < k → f j = M.nth j
  | 0, _ => ⟨fun _ => 0, rfl, by omega⟩
  | k + 1, hk => by
    obtain ⟨f, hf, hj⟩ := rd_enc h tail k (by omega)
    obtain ⟨rest, hr⟩ := eb_split M (k + 1) (5 - k)
    rw [show k + 1 + (5 - k) = 6 by omega] at hr
    have hb : eb M 6 ++ tail = eb M k ++ (groups 5 (M.nth k).toNat ++ (rest ++ tail)) := by rw [hr]; simp [eb]
    have hn := nth_ok h k
    have hg := gvR_read (eb M k) (rest ++ tail) (M.nth k).toNat (by omega)
    rw [← hb] at hg
    have e := rd_succ _ k f _ hf (by rw [hg])
    rw [hg] at e
    have hni : ((M.nth k).toNat : Int) = M.nth k := by omega
    refine ⟨fun j => if j = k then M.nth k else f j, by rw [e]; simp [hni, eb], fun j hjk => ?_⟩
    by_cases e : j = k
    · subst e; simp
    · simp only [if_neg e]; exact hj j (by omega)

theorem gx_enc {M : Msg} (h : vf M = 0) (tail : List UInt8) : gxS ((eb M 6).length : Int) 16 (encB M ++ tail) = (M.bd, ((encB M).length : Int), 0) := by
  obtain ⟨_, _, _, _, _, _, h6⟩ := vf_ok h
  have hs : M.bd.data.toList.length = M.bd.size := by simp
  have hl : (encB M).length = (eb M 6).length + 1 + M.bd.size := by unfold encB; simp; omega
  have hg : ((encB M ++ tail).getD (eb M 6).length 0).toNat = M.bd.size := by
    unfold encB; simp [List.getD]; omega
  unfold gxS
  rw [if_neg (by omega), if_neg (by simp only [List.length_append]; omega), Int.toNat_natCast, hg, if_neg (by omega), if_neg (by simp only [List.length_append]; omega)]
  have hd : ((encB M ++ tail).drop ((eb M 6).length + 1)).take M.bd.size = M.bd.data.toList := by
    unfold encB; rw [← hs]; simp [List.append_assoc]
  rw [hd, hl]
  simp

/-- A message is read back from its bytes. -/
theorem dec_enc {M : Msg} (h : vf M = 0) : decF (encB M) = (M, 0) := by
  obtain ⟨f, hf, hj⟩ := rd_enc h ([UInt8.ofNat M.bd.size] ++ M.bd.data.toList) 6 (Nat.le_refl _)
  have hb : eb M 6 ++ ([UInt8.ofNat M.bd.size] ++ M.bd.data.toList) = encB M := by unfold encB; simp
  rw [hb] at hf
  have hx := gx_enc h []
  rw [List.append_nil] at hx
  rw [dec_all _ f _ hf (by rw [hx]; exact ⟨rfl, rfl⟩), hx]
  have hM : (⟨f 0, f 1, f 2, f 3, f 4, f 5, M.bd⟩ : Msg) = M := by
    rw [hj 0 (by omega), hj 1 (by omega), hj 2 (by omega), hj 3 (by omega), hj 4 (by omega), hj 5 (by omega)]; rfl
  rw [hM, h, show ckM M = M from if_pos h]

theorem rd_take (bs : List UInt8) : ∀ (k : Nat) (f : Nat → Int) (a : Int), rdN bs k = some (f, a) → ∀ M : Msg, (∀ j, j < k → M.nth j = f j) → bs.take a.toNat = eb M k
  | 0, f, a, h, M, hM => by
    simp only [rdN, Option.some.injEq, Prod.mk.injEq] at h
    rw [← h.2]; rfl
  | k + 1, f', a', h, M, hM => by
    rw [rdN] at h
    cases hr : rdN bs k with
    | none => rw [hr] at h; exact absurd h (by simp)
    | some p =>
      obtain ⟨f, a⟩ := p
      rw [hr, Option.bind_some] at h
      by_cases h0 : (gvR a bs).2.2 = 0
      · rw [if_pos h0] at h
        simp only [Option.some.injEq, Prod.mk.injEq] at h
        obtain ⟨e1, e2⟩ := h
        have hk := hM k (by omega)
        rw [← e1] at hk
        simp only [if_true] at hk
        have ih := rd_take bs k f a hr M (fun j hj => by
          have := hM j (by omega)
          rw [← e1] at this
          simpa [show j ≠ k by omega] using this)
        unfold gvR at h0 hk e2
        by_cases ha : a < 0
        · rw [if_pos ha] at h0; exact absurd (show (1 : Int) = 0 from h0) (by decide)
        · rw [if_neg ha] at h0 hk e2
          cases hg : gv 6 0 0 (bs.drop a.toNat) with
          | none => rw [hg] at h0; exact absurd (show (8 : Int) = 0 from h0) (by decide)
          | some q =>
            obtain ⟨n, m⟩ := q
            rw [hg] at hk e2
            obtain ⟨g1, g2, g3, g4⟩ := gv_start _ n m hg
            have e3 : a' = a + m := e2.symm
            have e4 : M.nth k = n := hk
            rw [eb, e4, Int.toNat_natCast, ← ih, ← g4, e3, show (a + (m : Int)).toNat = a.toNat + m by omega, List.take_add]
      · rw [if_neg h0] at h; exact absurd h (by simp)

/-- Bytes that are read are those of the message. -/
theorem enc_dec {bs : List UInt8} (h : (decF bs).2 = 0) : vf (decF bs).1 = 0 ∧ encB (decF bs).1 = bs := by
  cases hr : rdN bs 6 with
  | none =>
    have : decF bs = (zM, 8) := by unfold decF; rw [hr]
    rw [this] at h; exact absurd (show (8 : Int) = 0 from h) (by decide)
  | some p =>
    obtain ⟨f, a⟩ := p
    by_cases h0 : (gxS a 16 bs).2.2 = 0 ∧ (gxS a 16 bs).2.1 = bs.length
    · have hd := dec_all bs f a hr h0
      rw [hd] at h ⊢
      generalize hM : (⟨f 0, f 1, f 2, f 3, f 4, f 5, (gxS a 16 bs).1⟩ : Msg) = M at *
      have hv : vf M = 0 := h
      have hc : ckM M = M := if_pos hv
      show vf (ckM M) = 0 ∧ encB (ckM M) = bs
      rw [hc]
      refine ⟨hv, ?_⟩
      have ht := rd_take bs 6 f a hr M (fun j hj => by
        rw [← hM]
        match j, hj with
        | 0, _ => rfl
        | 1, _ => rfl
        | 2, _ => rfl
        | 3, _ => rfl
        | 4, _ => rfl
        | 5, _ => rfl)
      obtain ⟨p0, p1⟩ := rd_pos bs 6 f a hr
      have hbd : M.bd = (gxS a 16 bs).1 := by rw [← hM]
      obtain ⟨x1, x2⟩ := h0
      unfold gxS at x1 x2 hbd
      rw [if_neg (by omega)] at x1 x2 hbd
      by_cases c1 : (bs.length : Int) ≤ a
      · rw [if_pos c1] at x1; exact absurd (show (8 : Int) = 0 from x1) (by decide)
      rw [if_neg c1] at x1 x2 hbd
      by_cases c2 : (16 : Int) < ((bs.getD a.toNat 0).toNat : Int)
      · rw [if_pos c2] at x1; exact absurd (show (2 : Int) = 0 from x1) (by decide)
      rw [if_neg c2] at x1 x2 hbd
      by_cases c3 : (bs.length : Int) < a + 1 + (bs.getD a.toNat 0).toNat
      · rw [if_pos c3] at x1; exact absurd (show (8 : Int) = 0 from x1) (by decide)
      rw [if_neg c3] at x2 hbd
      have x3 : a + 1 + ((bs.getD a.toNat 0).toNat : Int) = bs.length := x2
      have hlt : a.toNat < bs.length := by omega
      have hgd : bs.getD a.toNat 0 = bs[a.toNat] := by simp [List.getD, hlt]
      have hdl : (bs.drop (a.toNat + 1)).take (bs.getD a.toNat 0).toNat = bs.drop (a.toNat + 1) := List.take_of_length_le (by rw [List.length_drop]; omega)
      rw [hdl] at hbd
      have hsz : M.bd.size = (bs.getD a.toNat 0).toNat := by
        rw [hbd]
        show (bs.drop (a.toNat + 1)).toArray.size = _
        rw [List.size_toArray, List.length_drop]; omega
      unfold encB
      rw [hsz, ← ht, hbd, hgd]
      simp
    · rw [dec_text bs f a hr h0] at h; exact absurd (show (8 : Int) = 0 from h) (by decide)

theorem intoF_span (r l h : Int) (r0 : 0 ≤ r) (r1 : r ≤ 65535) (l0 : 0 ≤ l) (h1 : h ≤ 65535) (hlh : l ≤ h) : l ≤ intoF r l h ∧ intoF r l h ≤ h := by
  have hA : areB r l h = true := decide_eq_true ⟨⟨r0, r1⟩, ⟨l0, by omega⟩, ⟨by omega, h1⟩⟩
  have hm0 : 0 ≤ r % (h - l + 1) := Int.emod_nonneg _ (by omega)
  have hm1 : r % (h - l + 1) < h - l + 1 := Int.emod_lt_of_pos _ (by omega)
  unfold intoF
  rw [if_pos ⟨hA, hlh⟩]
  split <;> omega

theorem enc_len {M : Msg} (h : vf M = 0) : (encB M).length ≤ 53 := by
  obtain ⟨_, _, _, _, _, _, h6⟩ := vf_ok h
  have := eb_length M 6
  unfold encB
  simp
  omega

/-- No proper beginning is read. -/
theorem dec_cut {M : Msg} (h : vf M = 0) (i : Nat) (hi : i < (encB M).length) : (decF ((encB M).take i)).2 ≠ 0 := by
  intro h0
  obtain ⟨hv, hb⟩ := enc_dec h0
  generalize (decF ((encB M).take i)).1 = M' at *
  have hsp : encB M' ++ (encB M).drop i = encB M := by rw [hb, List.take_append_drop]
  obtain ⟨f, hf, _⟩ := rd_enc h ([UInt8.ofNat M.bd.size] ++ M.bd.data.toList) 6 (Nat.le_refl _)
  obtain ⟨f', hf', _⟩ := rd_enc hv ([UInt8.ofNat M'.bd.size] ++ M'.bd.data.toList ++ (encB M).drop i) 6 (Nat.le_refl _)
  have e1 : eb M 6 ++ ([UInt8.ofNat M.bd.size] ++ M.bd.data.toList) = encB M := by unfold encB; simp
  have e2 : ∀ t, eb M' 6 ++ ([UInt8.ofNat M'.bd.size] ++ M'.bd.data.toList ++ t) = encB M' ++ t := fun t => by simp [encB]
  rw [e1] at hf
  rw [e2, hsp] at hf'
  rw [hf] at hf'
  simp only [Option.some.injEq, Prod.mk.injEq] at hf'
  have x1 := gx_enc h []
  rw [List.append_nil] at x1
  have x2 := gx_enc hv ((encB M).drop i)
  rw [hsp, ← hf'.2, x1] at x2
  simp only [Prod.mk.injEq] at x2
  have hl : (encB M').length = i := by rw [hb]; simp; omega
  omega
end Go.Proofs.Ytjiampelmiaflaa
