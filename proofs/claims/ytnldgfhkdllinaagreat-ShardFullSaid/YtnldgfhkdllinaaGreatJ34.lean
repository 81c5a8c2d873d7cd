/- What is proved here: Deliver of message and its reference, each by one contract for all arguments; Shq; shard.pull of what Take wants, by a contract. -/
import Derived.Test.YtnldgfhkdllinaaGreatJ02
import Derived.Test.YtnldgfhkdllinaaGreatJ09
import Derived.Test.YtnldgfhkdllinaaGreatJ33
import Derived.Test.YtnldgfhkdllinaaGreatJ31
import Derived.Test.YtnldgfhkdllinaaGreatJ12
namespace Go.Proofs.YtnldgfhkdllinaaGreat
open Go.RowKit
set_option linter.unusedVariables false

/-- What Deliver returns. -/
def dlE (M : Msg) : Int := if vf M = 0 then (if M.gn = 65536 then 6 else if M.ct = 8 then 7 else 0) else vf M
def dlM (M : Msg) : Msg := if dlE M = 0 then ⟨M.id, M.rt, M.ep, M.ct + 1, M.gn + 1, M.st, M.bd⟩ else zM

theorem dl_not (M : Msg) (e : Int) (h : dlE M = e) (h0 : e ≠ 0) : dlM M = zM := by unfold dlM; rw [if_neg (by omega)]


set_option maxHeartbeats 2000000 in
theorem deliver_any (M : Msg) (w : World) : Calls Tryz.prog 65 #[M.v] w fun e w' => e = .returned (.tuple #[(dlM M).v, .int .i64 (dlE M)]) ∧ Below w.heap.size w w' := by
  have HC := Lib.hid (fun w => validate_any M w)
  by_cases h : vf M = 0
  · rw [h] at HC
    by_cases hg : M.gn = 65536
    · have he : dlE M = 6 := by unfold dlE; rw [if_pos h, if_pos hg]
      have HF := Lib.hid (dl_not M 6 he (by omega))
      have HE := Lib.hid he
      have hg' : (M.gn == 65536) = true := beq_iff_eq.2 hg
      clear h he hg
      go_enter Tryz.func65, Tryz.ntmps65
      go_wp2_with fail
      refine (HC.out _).mono ?_
      rintro e w1 ⟨rfl, hb⟩
      obtain ⟨hc, hf⟩ := bcell hb
      have hz := hb.size
      simp at hz
      have hlt : w.heap.size < w.heap.size + 1 + 1 := by omega
      have hz0 : w.heap.size < w1.heap.size := by omega
      have HB1 := Lib.hid ((((Below.refl w.heap.size w).alloc (Nat.le_refl _) _).alloc (by simp) _).trans (hb.mono (by simp <;> omega)))
      clear hb
      go_wp2
      exact bodyPost_ret (v := .tuple #[.agg #[.int .i64 0, .int .i64 0, .int .i64 0, .int .i64 0, .int .i64 0, .int .i64 0, .string ByteArray.empty], .int .i64 6]) (by simp only [results, Tryz.results65]; go_simp <;> rfl) rfl ⟨by rw [HF.out, HE.out] <;> rfl, below7 HB1.out (by simp) _ _ _ _ _ _ _⟩
    · have hg' : (M.gn == 65536) = false := beq_eq_false_iff_ne.2 hg
      by_cases hq : M.ct = 8
      · have he : dlE M = 7 := by unfold dlE; rw [if_pos h, if_neg hg, if_pos hq]
        have HF := Lib.hid (dl_not M 7 he (by omega))
        have HE := Lib.hid he
        have hq' : (M.ct == 8) = true := beq_iff_eq.2 hq
        clear h he hg hq
        go_enter Tryz.func65, Tryz.ntmps65
        go_wp2_with fail
        refine (HC.out _).mono ?_
        rintro e w1 ⟨rfl, hb⟩
        obtain ⟨hc, hf⟩ := bcell hb
        have hz := hb.size
        simp at hz
        have hlt : w.heap.size < w.heap.size + 1 + 1 := by omega
        have hz0 : w.heap.size < w1.heap.size := by omega
        have HB1 := Lib.hid ((((Below.refl w.heap.size w).alloc (Nat.le_refl _) _).alloc (by simp) _).trans (hb.mono (by simp <;> omega)))
        clear hb
        go_wp2
        exact bodyPost_ret (v := .tuple #[.agg #[.int .i64 0, .int .i64 0, .int .i64 0, .int .i64 0, .int .i64 0, .int .i64 0, .string ByteArray.empty], .int .i64 7]) (by simp only [results, Tryz.results65]; go_simp <;> rfl) rfl ⟨by rw [HF.out, HE.out] <;> rfl, below7 HB1.out (by simp) _ _ _ _ _ _ _⟩
      · have he : dlE M = 0 := by unfold dlE; rw [if_pos h, if_neg hg, if_neg hq]
        have HF := Lib.hid (show dlM M = ⟨M.id, M.rt, M.ep, M.ct + 1, M.gn + 1, M.st, M.bd⟩ from if_pos he)
        have HE := Lib.hid he
        have hq' : (M.ct == 8) = false := beq_eq_false_iff_ne.2 hq
        obtain ⟨_, _, _, ⟨q0, q1⟩, ⟨g0, g1⟩, _, _⟩ := vf_ok h
        clear h he hg hq
        go_enter Tryz.func65, Tryz.ntmps65
        go_wp2_with fail
        refine (HC.out _).mono ?_
        rintro e w1 ⟨rfl, hb⟩
        obtain ⟨hc, hf⟩ := bcell hb
        have hz := hb.size
        simp at hz
        have hlt : w.heap.size < w.heap.size + 1 + 1 := by omega
        have hz0 : w.heap.size < w1.heap.size := by omega
        have HB1 := Lib.hid ((((Below.refl w.heap.size w).alloc (Nat.le_refl _) _).alloc (by simp) _).trans (hb.mono (by simp <;> omega)))
        clear hb
        go_wp2
        exact bodyPost_ret (v := .tuple #[Msg.v ⟨M.id, M.rt, M.ep, M.ct + 1, M.gn + 1, M.st, M.bd⟩, .int .i64 0]) (by simp only [results, Tryz.results65]; go_simp <;> rfl) rfl ⟨by rw [HF.out, HE.out] <;> rfl, below7 ((HB1.out.setCell (by simp) _).setCell (by simp) _) (by simp) _ _ _ _ _ _ _⟩
  · have he : dlE M = vf M := if_neg h
    have HF := Lib.hid (dl_not M _ he h)
    have HE := Lib.hid he
    have hne : (vf M != 0) = true := bne_iff_ne.2 h
    generalize vf M = k at *
    clear h he
    go_enter Tryz.func65, Tryz.ntmps65
    go_wp2_with fail
    refine (HC.out _).mono ?_
    rintro e w1 ⟨rfl, hb⟩
    obtain ⟨hc, hf⟩ := bcell hb
    have hz := hb.size
    simp at hz
    have hlt : w.heap.size < w.heap.size + 1 + 1 := by omega
    have hz0 : w.heap.size < w1.heap.size := by omega
    have HB1 := Lib.hid ((((Below.refl w.heap.size w).alloc (Nat.le_refl _) _).alloc (by simp) _).trans (hb.mono (by simp <;> omega)))
    clear hb
    go_wp2
    exact bodyPost_ret (v := .tuple #[.agg #[.int .i64 0, .int .i64 0, .int .i64 0, .int .i64 0, .int .i64 0, .int .i64 0, .string ByteArray.empty], .int .i64 k]) (by simp only [results, Tryz.results65]; go_simp <;> rfl) rfl ⟨by rw [HF.out, HE.out] <;> rfl, below7 HB1.out (by simp) _ _ _ _ _ _ _⟩

set_option maxHeartbeats 2000000 in
theorem rdeliver_any (M : Msg) (w : World) : Calls Tryz.prog 109 #[M.v] w fun e w' => e = .returned (.tuple #[(dlM M).v, .int .i64 (dlE M)]) ∧ Below w.heap.size w w' := by
  have HC := Lib.hid (fun w => rvalidate_any M w)
  by_cases h : vf M = 0
  · rw [h] at HC
    by_cases hg : M.gn = 65536
    · have he : dlE M = 6 := by unfold dlE; rw [if_pos h, if_pos hg]
      have HF := Lib.hid (dl_not M 6 he (by omega))
      have HE := Lib.hid he
      have hg' : (M.gn == 65536) = true := beq_iff_eq.2 hg
      clear h he hg
      go_enter Tryz.func109, Tryz.ntmps109
      go_wp2_with fail
      refine (HC.out _).mono ?_
      rintro e w1 ⟨rfl, hb⟩
      obtain ⟨hc, hf⟩ := bcell hb
      have hz := hb.size
      simp at hz
      have hlt : w.heap.size < w.heap.size + 1 + 1 := by omega
      have hz0 : w.heap.size < w1.heap.size := by omega
      have HB1 := Lib.hid ((((Below.refl w.heap.size w).alloc (Nat.le_refl _) _).alloc (by simp) _).trans (hb.mono (by simp <;> omega)))
      clear hb
      go_wp2
      exact bodyPost_ret (v := .tuple #[.agg #[.int .i64 0, .int .i64 0, .int .i64 0, .int .i64 0, .int .i64 0, .int .i64 0, .string ByteArray.empty], .int .i64 6]) (by simp only [results, Tryz.results109]; go_simp <;> rfl) rfl ⟨by rw [HF.out, HE.out] <;> rfl, below7 HB1.out (by simp) _ _ _ _ _ _ _⟩
    · have hg' : (M.gn == 65536) = false := beq_eq_false_iff_ne.2 hg
      by_cases hq : M.ct = 8
      · have he : dlE M = 7 := by unfold dlE; rw [if_pos h, if_neg hg, if_pos hq]
        have HF := Lib.hid (dl_not M 7 he (by omega))
        have HE := Lib.hid he
        have hq' : (M.ct == 8) = true := beq_iff_eq.2 hq
        clear h he hg hq
        go_enter Tryz.func109, Tryz.ntmps109
        go_wp2_with fail
        refine (HC.out _).mono ?_
        rintro e w1 ⟨rfl, hb⟩
        obtain ⟨hc, hf⟩ := bcell hb
        have hz := hb.size
        simp at hz
        have hlt : w.heap.size < w.heap.size + 1 + 1 := by omega
        have hz0 : w.heap.size < w1.heap.size := by omega
        have HB1 := Lib.hid ((((Below.refl w.heap.size w).alloc (Nat.le_refl _) _).alloc (by simp) _).trans (hb.mono (by simp <;> omega)))
        clear hb
        go_wp2
        exact bodyPost_ret (v := .tuple #[.agg #[.int .i64 0, .int .i64 0, .int .i64 0, .int .i64 0, .int .i64 0, .int .i64 0, .string ByteArray.empty], .int .i64 7]) (by simp only [results, Tryz.results109]; go_simp <;> rfl) rfl ⟨by rw [HF.out, HE.out] <;> rfl, below7 HB1.out (by simp) _ _ _ _ _ _ _⟩
      · have he : dlE M = 0 := by unfold dlE; rw [if_pos h, if_neg hg, if_neg hq]
        have HF := Lib.hid (show dlM M = ⟨M.id, M.rt, M.ep, M.ct + 1, M.gn + 1, M.st, M.bd⟩ from if_pos he)
        have HE := Lib.hid he
        have hq' : (M.ct == 8) = false := beq_eq_false_iff_ne.2 hq
        obtain ⟨_, _, _, ⟨q0, q1⟩, ⟨g0, g1⟩, _, _⟩ := vf_ok h
        clear h he hg hq
        go_enter Tryz.func109, Tryz.ntmps109
        go_wp2_with fail
        refine (HC.out _).mono ?_
        rintro e w1 ⟨rfl, hb⟩
        obtain ⟨hc, hf⟩ := bcell hb
        have hz := hb.size
        simp at hz
        have hlt : w.heap.size < w.heap.size + 1 + 1 := by omega
        have hz0 : w.heap.size < w1.heap.size := by omega
        have HB1 := Lib.hid ((((Below.refl w.heap.size w).alloc (Nat.le_refl _) _).alloc (by simp) _).trans (hb.mono (by simp <;> omega)))
        clear hb
        go_wp2
        exact bodyPost_ret (v := .tuple #[Msg.v ⟨M.id, M.rt, M.ep, M.ct + 1, M.gn + 1, M.st, M.bd⟩, .int .i64 0]) (by simp only [results, Tryz.results109]; go_simp <;> rfl) rfl ⟨by rw [HF.out, HE.out] <;> rfl, below7 ((HB1.out.setCell (by simp) _).setCell (by simp) _) (by simp) _ _ _ _ _ _ _⟩
  · have he : dlE M = vf M := if_neg h
    have HF := Lib.hid (dl_not M _ he h)
    have HE := Lib.hid he
    have hne : (vf M != 0) = true := bne_iff_ne.2 h
    generalize vf M = k at *
    clear h he
    go_enter Tryz.func109, Tryz.ntmps109
    go_wp2_with fail
    refine (HC.out _).mono ?_
    rintro e w1 ⟨rfl, hb⟩
    obtain ⟨hc, hf⟩ := bcell hb
    have hz := hb.size
    simp at hz
    have hlt : w.heap.size < w.heap.size + 1 + 1 := by omega
    have hz0 : w.heap.size < w1.heap.size := by omega
    have HB1 := Lib.hid ((((Below.refl w.heap.size w).alloc (Nat.le_refl _) _).alloc (by simp) _).trans (hb.mono (by simp <;> omega)))
    clear hb
    go_wp2
    exact bodyPost_ret (v := .tuple #[.agg #[.int .i64 0, .int .i64 0, .int .i64 0, .int .i64 0, .int .i64 0, .int .i64 0, .string ByteArray.empty], .int .i64 k]) (by simp only [results, Tryz.results109]; go_simp <;> rfl) rfl ⟨by rw [HF.out, HE.out] <;> rfl, below7 HB1.out (by simp) _ _ _ _ _ _ _⟩

end Go.Proofs.YtnldgfhkdllinaaGreat
/- Plain: picking the first messages that are wanted; granting them. -/
namespace Go.Proofs.YtnldgfhkdllinaaGreat
open Go.RowKit
set_option linter.unusedVariables false

/-- One step of picking: what was picked, what stays. -/
def pkS (mx : Nat) (p : Msg → Bool) (s : List Msg × List Msg) (M : Msg) : List Msg × List Msg := if s.1.length < mx ∧ p M = true then (s.1 ++ [M], s.2) else (s.1, s.2 ++ [M])
def pk (mx : Nat) (p : Msg → Bool) (L : List Msg) : List Msg × List Msg := L.foldl (pkS mx p) ([], [])
section
variable {mx : Nat} {p : Msg → Bool} {L : List Msg} {M : Msg} {i : Nat}
theorem pk_snoc : pk mx p (L ++ [M]) = pkS mx p (pk mx p L) M := by unfold pk; rw [List.foldl_append]; rfl
theorem pk_next (hi : i < L.length) : pk mx p (L.take (i + 1)) = pkS mx p (pk mx p (L.take i)) L[i] := by rw [← List.take_append_getElem hi, pk_snoc]
theorem pk_yes (hi : i < L.length) (h1 : (pk mx p (L.take i)).1.length < mx) (h2 : p L[i] = true) : pk mx p (L.take (i + 1)) = ((pk mx p (L.take i)).1 ++ [L[i]], (pk mx p (L.take i)).2) := by rw [pk_next hi]; exact if_pos ⟨h1, h2⟩
theorem pk_no (hi : i < L.length) (h : ¬ ((pk mx p (L.take i)).1.length < mx ∧ p L[i] = true)) : pk mx p (L.take (i + 1)) = ((pk mx p (L.take i)).1, (pk mx p (L.take i)).2 ++ [L[i]]) := by rw [pk_next hi]; exact if_neg h
theorem pk_perm (mx : Nat) (p : Msg → Bool) : ∀ (r L : List Msg), L = r.reverse → ((pk mx p L).1 ++ (pk mx p L).2).Perm L
  | [], L, e => by subst e; exact List.Perm.refl _
  | M :: r, L, e => by
    subst e
    rw [List.reverse_cons, pk_snoc]
    have ih := pk_perm mx p r r.reverse rfl
    unfold pkS
    split
    · rw [List.append_assoc]
      refine (List.perm_middle (a := M) (l₁ := (pk mx p r.reverse).1) (l₂ := (pk mx p r.reverse).2)).trans ?_
      exact (ih.cons M).trans (List.perm_append_singleton _ _).symm
    · rw [← List.append_assoc]
      exact ih.append_right [M]
theorem pk_permL (mx : Nat) (p : Msg → Bool) (L : List Msg) : ((pk mx p L).1 ++ (pk mx p L).2).Perm L := pk_perm mx p L.reverse L (by simp)
theorem pk_subR (mx : Nat) (p : Msg → Bool) : ∀ (r L : List Msg), L = r.reverse → List.Sublist (pk mx p L).2 L ∧ List.Sublist (pk mx p L).1 L ∧ ∀ M ∈ (pk mx p L).1, p M = true
  | [], L, e => by subst e; exact ⟨List.Sublist.refl _, List.Sublist.refl _, fun M h => by cases h⟩
  | M :: r, L, e => by
    subst e
    rw [List.reverse_cons, pk_snoc]
    obtain ⟨h1, h2, h3⟩ := pk_subR mx p r r.reverse rfl
    unfold pkS
    split
    · rename_i hc
      refine ⟨h1.trans (List.sublist_append_left _ _), h2.append (List.Sublist.refl _), fun N hN => ?_⟩
      rcases List.mem_append.1 hN with h | h
      · exact h3 N h
      · rw [List.mem_singleton.1 h]; exact hc.2
    · exact ⟨h1.append (List.Sublist.refl _), h2.trans (List.sublist_append_left _ _), h3⟩
theorem pk_sub (mx : Nat) (p : Msg → Bool) (L : List Msg) : List.Sublist (pk mx p L).2 L ∧ List.Sublist (pk mx p L).1 L ∧ ∀ M ∈ (pk mx p L).1, p M = true := pk_subR mx p L.reverse L (by simp)
/-- Nothing more is picked once there is enough. -/
theorem pk_fullR (h : mx ≤ (pk mx p L).1.length) : ∀ (r m : List Msg), m = r.reverse → pk mx p (L ++ m) = ((pk mx p L).1, (pk mx p L).2 ++ m)
  | [], m, e => by subst e; simp
  | M :: r, m, e => by
    subst e
    rw [List.reverse_cons, ← List.append_assoc, pk_snoc, pk_fullR h r r.reverse rfl]
    unfold pkS
    rw [if_neg (by simp only; omega), List.append_assoc]
theorem pk_full (h : mx ≤ (pk mx p L).1.length) (m : List Msg) : pk mx p (L ++ m) = ((pk mx p L).1, (pk mx p L).2 ++ m) := pk_fullR h m.reverse m (by simp)
/-- What is in the ring while messages are picked. -/
def pkL (mx : Nat) (p : Msg → Bool) (L : List Msg) (i : Nat) : List Msg := (pk mx p (L.take i)).2 ++ L.drop i
theorem pkL_zero : pkL mx p L 0 = L := by simp [pkL, pk]
theorem pkL_end : pkL mx p L L.length = (pk mx p L).2 := by simp [pkL]
theorem pkL_sub (i : Nat) : List.Sublist (pkL mx p L i) L := by
  unfold pkL
  conv => rhs; rw [← List.take_append_drop i L]
  exact (pk_sub mx p (L.take i)).1.append (List.Sublist.refl _)
theorem pkL_at (hi : i < L.length) : ∃ h : (pk mx p (L.take i)).2.length < (pkL mx p L i).length, (pkL mx p L i)[(pk mx p (L.take i)).2.length] = L[i] := by
  have hl : (pkL mx p L i).length = (pk mx p (L.take i)).2.length + (L.length - i) := by simp [pkL]
  refine ⟨by omega, ?_⟩
  simp [pkL]
theorem pkL_yes (hi : i < L.length) (h1 : (pk mx p (L.take i)).1.length < mx) (h2 : p L[i] = true) : pkL mx p L (i + 1) = (pkL mx p L i).eraseIdx (pk mx p (L.take i)).2.length := by
  unfold pkL
  rw [pk_yes hi h1 h2, List.drop_eq_getElem_cons hi, List.eraseIdx_append_of_length_le (Nat.le_refl _), Nat.sub_self]
  rfl
theorem pkL_no (hi : i < L.length) (h : ¬ ((pk mx p (L.take i)).1.length < mx ∧ p L[i] = true)) : pkL mx p L (i + 1) = pkL mx p L i := by
  unfold pkL
  rw [pk_no hi h, List.drop_eq_getElem_cons hi, List.append_assoc]
  rfl
end
/-- A shard with other messages in its ring. -/
def Vs.ring (V : Vs) (L : List Msg) : Vs := ⟨V.lo, V.hi, V.n, V.hd, L, V.l, V.h⟩
/-- Grants to what was picked. -/
noncomputable def Vs.grs (dl : Int) (V : Vs) (T : List Msg) : Vs := T.foldl (fun V M => V.gr ⟨dlM M, dl⟩) V
/-- What Take makes of a shard. -/
noncomputable def Vs.take (V : Vs) (mx : Nat) (p : Msg → Bool) (dl : Int) : Vs := (V.ring (pk mx p V.L).2).grs dl (pk mx p V.L).1
section
variable {V : Vs} {dl : Int}
theorem grs_snoc (V : Vs) (dl : Int) (T : List Msg) (M : Msg) : V.grs dl (T ++ [M]) = (V.grs dl T).gr ⟨dlM M, dl⟩ := by unfold Vs.grs; rw [List.foldl_append]; rfl
theorem grs_cons (V : Vs) (dl : Int) (T : List Msg) (M : Msg) : V.grs dl (M :: T) = (V.gr ⟨dlM M, dl⟩).grs dl T := rfl
theorem grs_keep (dl : Int) (T : List Msg) : ∀ V : Vs, (V.grs dl T).lo = V.lo ∧ (V.grs dl T).hi = V.hi ∧ (V.grs dl T).n = V.n ∧ (V.grs dl T).hd = V.hd ∧ (V.grs dl T).L = V.L := by
  induction T with
  | nil => intro V; exact ⟨rfl, rfl, rfl, rfl, rfl⟩
  | cons M T ih => intro V; rw [grs_cons]; exact ih (V.gr ⟨dlM M, dl⟩)
theorem ring_ok (k : V.Ok) {L : List Msg} (hs : List.Sublist L V.L) : (V.ring L).Ok := by
  have hsub : List.Sublist (V.ring L).al V.al := hs.append (List.Sublist.refl _)
  exact ⟨k.n1, k.n2, k.hh, k.tb, k.sp, by have := k.room; have := hs.length_le; show L.length + V.l.length ≤ V.n; omega, gd_sub hsub k.gd, fun M hM => k.own M (hsub.subset hM)⟩
/-- Grants to messages that fit. -/
theorem grs_ok : ∀ (T : List Msg) (V : Vs), V.Ok → Gd (T.map dlM ++ V.al) → (∀ M ∈ T, V.lo ≤ (dlM M).rt ∧ (dlM M).rt ≤ V.hi) → V.L.length + V.l.length + T.length ≤ V.n → (∀ M ∈ T, leOk ⟨dlM M, dl⟩) →
    (V.grs dl T).Ok ∧ (V.grs dl T).al.Perm (T.map dlM ++ V.al) ∧ (∀ x, x ∈ (V.grs dl T).l ↔ x ∈ V.l ∨ ∃ M ∈ T, x = ⟨dlM M, dl⟩)
  | [], V, k, _, _, _, _ => ⟨k, List.Perm.refl _, fun x => ⟨.inl, fun h => h.elim id (fun ⟨M, hM, _⟩ => by cases hM)⟩⟩
  | M :: T, V, k, hg, ho, hr, hl => by
    have hg2 := gd_cons.1 (show Gd (dlM M :: (T.map dlM ++ V.al)) from hg)
    simp only [List.length_cons] at hr
    have f : Fits V (⟨dlM M, dl⟩ : Le).m := ⟨hg2.1, ho M (List.mem_cons_self ..), by omega, fun N hN => hg2.2.2 N (List.mem_append_right _ hN)⟩
    obtain ⟨-, k2, p2, e2⟩ := k.gr (x := ⟨dlM M, dl⟩) f (hl M (List.mem_cons_self ..))
    have hlen : (V.gr ⟨dlM M, dl⟩).l.length = V.l.length + 1 := by rw [e2, kIns_len]
    have hp : (T.map dlM ++ (V.gr ⟨dlM M, dl⟩).al).Perm ((M :: T).map dlM ++ V.al) := (p2.append_left _).trans List.perm_middle
    obtain ⟨k3, p3, m3⟩ := grs_ok T (V.gr ⟨dlM M, dl⟩) k2 (gd_perm hp.symm hg) (fun N hN => ho N (List.mem_cons_of_mem _ hN)) (by rw [hlen]; show V.L.length + (V.l.length + 1) + T.length ≤ V.n; omega) (fun N hN => hl N (List.mem_cons_of_mem _ hN))
    rw [grs_cons]
    refine ⟨k3, p3.trans hp, fun x => (m3 x).trans ?_⟩
    rw [e2, (kIns_perm V.l ⟨dlM M, dl⟩).mem_iff, List.mem_cons]
    constructor
    · rintro ((h | h) | ⟨N, hN, h⟩)
      · exact .inr ⟨M, List.mem_cons_self .., h⟩
      · exact .inl h
      · exact .inr ⟨N, List.mem_cons_of_mem _ hN, h⟩
    · rintro (h | ⟨N, hN, h⟩)
      · exact .inl (.inr h)
      · rcases List.mem_cons.1 hN with e | e
        · subst e; exact .inl (.inl h)
        · exact .inr ⟨N, e, h⟩
end
theorem rvF_iff {M : Msg} {ep lim : Int} : rvF M ep lim = true ↔ ep ≤ M.ep ∧ M.ct < lim ∧ M.gn < 65536 := by
  unfold rvF puF spF
  simp only [Bool.and_eq_true, Bool.not_eq_true', decide_eq_false_iff_not, decide_eq_true_eq]
  omega
/-- A receivable message is delivered. -/
theorem dl_rv {M : Msg} {ep lim : Int} (hM : vf M = 0) (h : rvF M ep lim = true) (hl : lim ≤ 8) : dlM M = ⟨M.id, M.rt, M.ep, M.ct + 1, M.gn + 1, M.st, M.bd⟩ := by
  obtain ⟨h1, h2, h3⟩ := rvF_iff.1 h
  have e : dlE M = 0 := by unfold dlE; rw [if_pos hM, if_neg (by omega), if_neg (by omega)]
  unfold dlM
  rw [if_pos e]
end Go.Proofs.YtnldgfhkdllinaaGreat
namespace Go.Proofs.YtnldgfhkdllinaaGreat
open Go.RowKit
set_option linter.unusedVariables false

/-- The boxes of the epoch and of the limit that Take's function value holds. -/
def CapAt (b1 b2 : Nat) (ep lim : Int) (W : World) : Prop := W.cell? ⟨b1, 0, none⟩ = some (.int .i64 ep) ∧ W.cell? ⟨b2, 0, none⟩ = some (.int .i64 lim) ∧ b1 < W.heap.size ∧ b2 < W.heap.size
theorem CapAt.below {b1 b2 : Nat} {ep lim : Int} {w W : World} (h : CapAt b1 b2 ep lim w) (hb : Below w.heap.size w W) : CapAt b1 b2 ep lim W :=
  ⟨(hb.cell (p := ⟨b1, 0, none⟩) h.2.2.1).trans h.1, (hb.cell (p := ⟨b2, 0, none⟩) h.2.2.2).trans h.2.1, Nat.lt_of_lt_of_le h.2.2.1 hb.size, Nat.lt_of_lt_of_le h.2.2.2 hb.size⟩
set_option maxHeartbeats 1000000 in
theorem take1_any (b1 b2 : Nat) (ep lim : Int) (M : Msg) (w : World) (h : CapAt b1 b2 ep lim w) :
    Calls Tryz.prog 63 #[M.v, .pointer (some ⟨b1, 0, none⟩), .pointer (some ⟨b2, 0, none⟩)] w fun e w' => e = .returned (.bool (rvF M ep lim)) ∧ Below w.heap.size w w' := by
  have HB := Lib.hid ((Below.refl w.heap.size w).alloc (Nat.le_refl _) (.cells M.cs 44))
  have HR := Lib.hid (fun W => receivable_any M ep lim W)
  obtain ⟨h1, h2, h3, h4⟩ := h
  generalize rvF M ep lim = b at *
  go_enter Tryz.func63, Tryz.ntmps63
  go_wp2_with fail
  refine (HR.out _).mono ?_
  rintro e w1 ⟨rfl, hb⟩
  have HB1 := Lib.hid (HB.out.trans (hb.mono HB.out.size))
  clear hb
  go_wp2
  go_ret
  exact ⟨rfl, HB1.out⟩
section
variable {V : Vs} {mx : Nat} {f : Msg → Bool} {i : Nat}
/-- What a removal from a shard's ring gives while messages are pulled. -/
theorem pull_rm (k : V.Ok) (hi : i < V.L.length) (h1 : (pk mx f (V.L.take i)).1.length < mx) (h2 : f V.L[i] = true) {S S' : Sh} (hS : S = (V.ring (pkL mx f V.L i)).sh) (hS' : S' = (V.ring (pkL mx f V.L (i + 1))).sh) :
    S' = ⟨S.lv, S.lo, S.hi, rmC S.cs S.hd S.sz V.L[i].id, ifE (rmE S.cs S.hd S.sz V.L[i].id) S.hd, ifE (rmE S.cs S.hd S.sz V.L[i].id) (S.sz - 1), S.l, S.h⟩ := by
  subst hS hS'
  obtain ⟨hj, ej⟩ := pkL_at (mx := mx) (p := f) hi
  have hs := pkL_sub (mx := mx) (p := f) (L := V.L) i
  have hg := gd_sub hs k.gL
  have hl : (pkL mx f V.L i).length ≤ V.n := by have := hs.length_le; have := k.lenL; omega
  obtain ⟨e1, e2, -⟩ := rm_fil k.n1 k.n2 k.hh hl hg hj
  rw [ej] at e1 e2
  rw [← pkL_yes hi h1 h2] at e2
  have el : ((pkL mx f V.L (i + 1)).length : Int) = ((pkL mx f V.L i).length : Int) - 1 := by
    rw [pkL_yes hi h1 h2, List.length_eraseIdx_of_lt hj]; omega
  show Sh.mk true V.lo V.hi (fil V.n V.hd (pkL mx f V.L (i + 1))) V.hd (pkL mx f V.L (i + 1)).length V.l V.h = Sh.mk true V.lo V.hi (rmC (fil V.n V.hd (pkL mx f V.L i)) V.hd (pkL mx f V.L i).length V.L[i].id) (ifE (rmE (fil V.n V.hd (pkL mx f V.L i)) V.hd (pkL mx f V.L i).length V.L[i].id) V.hd) (ifE (rmE (fil V.n V.hd (pkL mx f V.L i)) V.hd (pkL mx f V.L i).length V.L[i].id) ((pkL mx f V.L i).length - 1)) V.l V.h
  rw [e1, e2, el]
  rfl
end
/-- A shard and a list of messages as a result. -/
def SLs (w : World) (S : Sh) (l : List Msg) (e : Ending) (w' : World) : Prop := ∃ D A c, e = .returned (.tuple #[sv S D, .slice A l.length c]) ∧ D.nw w.heap.size ∧ SR w' w'.heap.size S D ∧ Nw w.heap.size A ∧ Ls w' w'.heap.size (.slice A l.length c) l ∧ Below w.heap.size w w'
theorem Ls.grownR {W W' : World} {B n c : Nat} {A : Option Addr} {l : List Msg} (h : Ls W B (.slice A n c) l) (hB : B ≤ W.heap.size) {row : Option Nat} (hg : W.grownBy W' row) (ho : ∀ q, row = some q → OffB q n A) : Ls W' B (.slice A n c) l := by
  obtain ⟨h1, h2, h3⟩ := h.len
  subst h1
  refine ⟨A, c, rfl, h2, h3, h.rd.1, fun hn => ?_⟩
  obtain ⟨b, o, e, hb, hc⟩ := h.rd.2 hn
  exact ⟨b, o, e, hb, fun j u hu => (hg.cell_far ⟨b, o + j, none⟩ (Nat.lt_of_lt_of_le hb hB) (fun e' => ho b e'.symm hn _ e rfl)).trans (hc j u hu)⟩
theorem El.grownR {W W' : World} {B n c : Nat} {A : Option Addr} {l : List Le} (h : El W B (.slice A n c) l) (hB : B ≤ W.heap.size) {row : Option Nat} (hg : W.grownBy W' row) (ho : ∀ q, row = some q → OffB q n A) : El W' B (.slice A n c) l := by
  obtain ⟨h1, h2, h3⟩ := h.len
  subst h1
  refine ⟨A, c, rfl, h2, h3, h.rd.1, fun hn => ?_⟩
  obtain ⟨b, o, e, hb, hc⟩ := h.rd.2 hn
  exact ⟨b, o, e, hb, fun j u hu => (hg.cell_far ⟨b, o + j, none⟩ (Nat.lt_of_lt_of_le hb hB) (fun e' => ho b e'.symm hn _ e rfl)).trans (hc j u hu)⟩
theorem Dl.grownR {W W' : World} {B n c : Nat} {A : Option Addr} {l : List Du} (h : Dl W B (.slice A n c) l) (hB : B ≤ W.heap.size) {row : Option Nat} (hg : W.grownBy W' row) (ho : ∀ q, row = some q → OffB q n A) : Dl W' B (.slice A n c) l := by
  obtain ⟨h1, h2, h3⟩ := h.len
  subst h1
  refine ⟨A, c, rfl, h2, h3, h.rd.1, fun hn => ?_⟩
  obtain ⟨b, o, e, hb, hc⟩ := h.rd.2 hn
  exact ⟨b, o, e, hb, fun j u hu => (hg.cell_far ⟨b, o + j, none⟩ (Nat.lt_of_lt_of_le hb hB) (fun e' => ho b e'.symm hn _ e rfl)).trans (hc j u hu)⟩
theorem SAt.grown {w W W' : World} {p : Nat} {S : Sh} {D : Sx} (h : SAt w p S D W) {row : Option Nat} (hg : W.grownBy W' row) (ho : ∀ q, row = some q → SOff S D q ∧ p < q) : SAt w p S D W' :=
  ⟨h.s8.grown hg (fun x e => by have := (ho x e).2; omega), ⟨(h.sr.ls.grownR (Nat.le_refl _) hg (fun q e => (ho q e).1.o1)).more hg.size, (h.sr.el.grownR (Nat.le_refl _) hg (fun q e => (ho q e).1.o2)).more hg.size, (h.sr.dl.grownR (Nat.le_refl _) hg (fun q e => (ho q e).1.o3)).more hg.size⟩, h.off,
   h.bel.grown hg h.bel.size (fun x e => by have := (ho x e).2; have := h.old; omega), h.old⟩
/-- The work of pull: the shard, the result box, the list that is gone through, the list that is made. -/
structure PullAt (w : World) (p r B : Nat) (S : Sh) (D : Sx) (A0 : Option Addr) (c0 : Nat) (L : List Msg) (lv : Value) (T : List Msg) (W : World) : Prop where
  sa : SAt w p S D W
  rs : SB8 W r zS zX
  l0 : Ls W B (.slice A0 L.length c0) L
  o0 : OffB p L.length A0
  own : W.ownsRow B 44 7 lv T.length (lcs T)
  dj : ∀ q, lv.ownBlock = some q → SOff S D q
  dr : D.nw (r + 1)
  ne : p < r ∧ r < B ∧ B ≤ W.heap.size
section
variable {w W W' : World} {p r B c0 : Nat} {S : Sh} {D : Sx} {A0 : Option Addr} {L T : List Msg} {lv : Value}
theorem own_below {base e size n : Nat} {v : Value} {xs : List Value} (h : W.ownsRow base e size v n xs) (hb : Below W.heap.size W W') : W'.ownsRow base e size v n xs := by
  refine ⟨h.1, h.2.imp_right fun ⟨g, cap, cur, hv, hg, hh, r⟩ => ⟨g, cap, cur, hv, hg, ?_, r⟩⟩
  rw [← hh]
  exact hb.block g (Array.getElem?_eq_some_iff.1 hh).1
theorem own_set {base e size n : Nat} {v : Value} {xs : List Value} (h : W.ownsRow base e size v n xs) {q : Addr} (hq : q.block < base) (u : Value) : (W.setCell q u).ownsRow base e size v n xs := by
  refine ⟨h.1, h.2.imp_right fun ⟨g, cap, cur, hv, hg, hh, r⟩ => ⟨g, cap, cur, hv, hg, ?_, r⟩⟩
  rw [← hh]
  exact Below.heap_setCell W q u g (by omega)
theorem own_sets {base e size n : Nat} {v : Value} {xs : List Value} {r : Nat} (hr : r < base) : ∀ (vs : List Value) (m : Nat) (W : World), W.ownsRow base e size v n xs → (W.setCells r m vs).ownsRow base e size v n xs
  | [], _, _, h => h
  | u :: vs, m, W, h => own_sets hr vs (m + 1) _ (own_set h (q := ⟨r, m, none⟩) hr u)
theorem PullAt.below (h : PullAt w p r B S D A0 c0 L lv T W) (hb : Below W.heap.size W W') : PullAt w p r B S D A0 c0 L lv T W' :=
  ⟨h.sa.below hb, h.rs.up hb, h.l0.below (hb.mono h.ne.2.2), h.o0, own_below h.own hb, h.dj, h.dr, h.ne.1, h.ne.2.1, Nat.le_trans h.ne.2.2 hb.size⟩
/-- Another ring. -/
theorem PullAt.setRing {A : Option Addr} {c : Nat} {cs : List Msg} (h : PullAt w p r B S D A0 c0 L lv T W) (hd sz : Int) (hl : Ls W W.heap.size (.slice A cs.length c) cs) {lo : Nat} (hn : Nw lo A) (hlo : B ≤ lo) (hrow : ∀ q, lv.ownBlock = some q → q < lo) :
    PullAt w p r B ⟨S.lv, S.lo, S.hi, cs, hd, sz, S.l, S.h⟩ ⟨A, c, D.A2, D.c2, D.A3, D.c3⟩ A0 c0 L lv T (((W.setCell ⟨p, 3, none⟩ (.slice A cs.length c)).setCell ⟨p, 4, none⟩ (.int .i64 hd)).setCell ⟨p, 5, none⟩ (.int .i64 sz)) := by
  have hne := h.ne
  exact ⟨h.sa.setRing hd sz hl (offb_nw hn (by omega)), ((h.rs.other (q := ⟨p, 3, none⟩) (show p ≠ r by omega) _).other (q := ⟨p, 4, none⟩) (show p ≠ r by omega) _).other (q := ⟨p, 5, none⟩) (show p ≠ r by omega) _,
    ((h.l0.offp (p := ⟨p, 3, none⟩) h.o0 _).offp (p := ⟨p, 4, none⟩) h.o0 _).offp (p := ⟨p, 5, none⟩) h.o0 _, h.o0,
    own_set (own_set (own_set h.own (q := ⟨p, 3, none⟩) (show p < B by omega) _) (q := ⟨p, 4, none⟩) (show p < B by omega) _) (q := ⟨p, 5, none⟩) (show p < B by omega) _,
    fun q e => ⟨offb_nw hn (hrow q e), (h.dj q e).o2, (h.dj q e).o3⟩, ⟨nw_low hn (by omega), h.dr.n2, h.dr.n3⟩, hne.1, hne.2.1, by simpa using hne.2.2⟩
/-- A message more. -/
theorem PullAt.app {lv' : Value} {T' : List Msg} (h : PullAt w p r B S D A0 c0 L lv T W) (ho : W'.ownsRow B 44 7 lv' T'.length (lcs T')) (hg : W.grownBy W' lv.ownBlock) (hw : ∀ q, lv'.ownBlock = some q → lv.ownBlock = some q ∨ W.heap.size ≤ q) : PullAt w p r B S D A0 c0 L lv' T' W' := by
  have hne := h.ne
  have hlt : ∀ q, lv.ownBlock = some q → B ≤ q := fun q e => (h.own.lt q e).1
  refine ⟨h.sa.grown hg (fun q e => ⟨h.dj q e, by have := hlt q e; omega⟩), h.rs.grown hg (fun q e => by have := hlt q e; omega), h.l0.grownR hne.2.2 hg (fun q e => ?_), h.o0, ho, fun q e => ?_, h.dr, hne.1, hne.2.1, Nat.le_trans hne.2.2 hg.size⟩
  · exact rd_off h.l0.rd (hlt q e)
  · rcases hw q e with e' | e'
    · exact h.dj q e'
    · exact h.sa.sr.offs e'
end
end Go.Proofs.YtnldgfhkdllinaaGreat
