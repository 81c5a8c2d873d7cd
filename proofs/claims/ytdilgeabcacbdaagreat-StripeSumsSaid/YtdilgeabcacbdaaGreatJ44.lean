/- What is proved here: FromOf, From, Between, Span, Shard of the statements' base; From, Between, Span, Shard of the statements' base. -/
import Derived.Test.YtdilgeabcacbdaaGreatJ39
import Derived.Test.YtdilgeabcacbdaaGreatJ43
import Derived.Test.YtdilgeabcacbdaaGreatJ27
namespace Go.Proofs.YtdilgeabcacbdaaGreat
open Go.RowKit
set_option linter.unusedVariables false

/-- .. whose messages were not delivered more than three times. -/
def SrSh3 (S : Sh) : Prop := SrSh S ∧ ∀ M ∈ lsF S.cs S.hd S.sz, M.ct ≤ 3
theorem frS_low {k : Nat} : ∀ M ∈ lsF (frS k).cs (frS k).hd (frS k).sz, M.ct ≤ 3 := fun M hM => by
  have h : lsF (frS k).cs (frS k).hd (frS k).sz = [] := by
    unfold lsF
    split
    · rfl
    · rfl
  rw [h] at hM
  cases hM
def SrShard3 (B g : Nat) (w : World) (e : Ending) (w' : World) : Prop := ∃ S D, e = .returned (sv S D) ∧ SrSh3 S ∧ D.nw w.heap.size ∧ SR w' w'.heap.size S D ∧ SrcAt w' B g ∧ w.grownBy w' (some g)
set_option maxHeartbeats 8000000 in
set_option maxRecDepth 20000 in
theorem fromof3_any (B g : Nat) (w : World) (hsrc : SrcAt w B g) (k : Nat) (id lo hi : Int) (k1 : 1 ≤ k) (k2 : k ≤ 12) (i1 : 1 ≤ id) (i2 : id ≤ 100000) (l0 : 0 ≤ lo) (l1 : lo ≤ hi) (l2 : hi ≤ 65535) :
    Calls Tryz.prog 59 #[.pointer (some ⟨g, 0, none⟩), .int .i64 (k : Int), .int .i64 id, .int .i64 lo, .int .i64 hi] w (SrShard3 B g w) := by
  have H := Lib.hid hsrc
  have HG0 := Lib.hid (show g < w.heap.size ∧ B ≤ g from ⟨hsrc.2.1, hsrc.1⟩)
  have R0 := Lib.hid (SB8.zero w 37)
  have G0 := Lib.hid (only_alloc (World.grownBy.refl w (some g)) (.cells #[.bool false, .int .i64 0, .int .i64 0, .slice none 0 0, .int .i64 0, .int .i64 0, .slice none 0 0, .slice none 0 0] 37))
  have S0 := Lib.hid (hsrc.alloc (.cells #[.bool false, .int .i64 0, .int .i64 0, .slice none 0 0, .int .i64 0, .int .i64 0, .slice none 0 0, .slice none 0 0] 37))
  clear hsrc
  go_enter Tryz.func59, Tryz.ntmps59
  go_wp2_with fail
  obtain ⟨r, hr⟩ : ∃ r, r = w.heap.size := ⟨_, rfl⟩
  have HRW := Lib.hid (show w.heap.size ≤ r ∧ ¬ r = g ∧ B ≤ r ∧ g < r by have := HG0.out; omega)
  rw [← hr]
  rw [← hr] at R0
  clear hr
  generalize (w.alloc (.cells #[.bool false, .int .i64 0, .int .i64 0, .slice none 0 0, .int .i64 0, .int .i64 0, .slice none 0 0, .slice none 0 0] 37)) = w1 at *
  refine (n_any B g _ S0.out 12 (by omega) (by omega)).mono ?_
  rintro e w2 ⟨x, rfl, x0, x1, hs, hg⟩
  have S1 := Lib.hid hs
  have R1 := Lib.hid (R0.out.grownG hg HRW.out.2.1)
  have G1 := Lib.hid (G0.out.trans hg)
  clear hs hg
  by_cases hx : x = 11
  · subst hx
    obtain ⟨S, hS⟩ : ∃ S, S = frS k := ⟨_, rfl⟩
    have HSS := Lib.hid (show SrSh3 S from ⟨.inr ⟨k, k1, k2, hS⟩, by rw [hS]; exact frS_low⟩)
    have HFR := Lib.hid (fun W => rfree_any k W k1 k2)
    rw [← hS] at HFR
    clear hS
    go_wp2_with fail
    refine (HFR.out _).mono ?_
    rintro e w4 ⟨D, rfl, hn, hr, hb⟩
    have R4 := Lib.hid (R1.out.up hb)
    have N4 := Lib.hid (show D.nw (r + 1) from hn.low R1.out.lt)
    have HF := Lib.hid (show SrShard3 B g w (.returned (sv S D)) ((((((((((w4.setCell ⟨r, 0, none⟩ (.bool S.lv)).setCell ⟨r, 1, none⟩ (.int .i64 S.lo)).setCell ⟨r, 2, none⟩ (.int .i64 S.hi)).setCell ⟨r, 3, none⟩ (.slice D.A S.cs.length D.c)).setCell ⟨r, 4, none⟩ (.int .i64 S.hd)).setCell ⟨r, 5, none⟩ (.int .i64 S.sz)).setCell ⟨r, 6, none⟩ (.slice D.A2 S.l.length D.c2)).setCell ⟨r, 7, none⟩ (.slice D.A3 S.h.length D.c3))).alloc (.cells #[.bool S.lv, .int .i64 S.lo, .int .i64 S.hi, .slice D.A S.cs.length D.c, .int .i64 S.hd, .int .i64 S.sz, .slice D.A2 S.l.length D.c2, .slice D.A3 S.h.length D.c3] 37)) from
      ⟨S, D, rfl, HSS.out, N4.out.low (by have := HRW.out; omega), (SR.sets (N4.out.off (Nat.lt_succ_self r)) (S.l8 D) 0 w4 hr).up ((Below.refl _ _).alloc (Nat.le_refl _) _), ((S1.out.below hb).sets8 HRW.out.2.1 HRW.out.2.2.1 S D).alloc _, only_alloc (only_sets8 (only_below G1.out hb) HRW.out.1 S D) _⟩)
    clear hn hr hb
    obtain ⟨⟨r0, r1, r2, r3, r4, r5, r6, r7, rl⟩, ⟨g0, g1, g2, g3, g4, g5, g6, g7⟩⟩ := R4.out.all
    go_wp2
    exact bodyPost_ret (v := sv S D) (by simp only [results, Tryz.results59]; go_simp <;> rfl) rfl HF.out
  · have hxb : (x == 11) = false := beq_eq_false_iff_ne.2 hx
    have HRG := Lib.hid (fun W (q : SrcAt W B g) => ringof3_any B g W q k 6 id lo hi k1 k2 (by omega) (by omega) i1 (by omega) l0 l1 l2)
    have HTB := Lib.hid (fun n (n0 : 0 ≤ n) (n1 : n ≤ 12) W (q : SrcAt W B g) => tableR_any B g W q n (id + 10) lo hi n0 n1 (by omega) (by omega) l0 l1 l2)
    have HOK := Lib.hid (fun hd L l h a b c d e f g => base_ok (lo := lo) (hi := hi) (id := id) (k := k) (hd := hd) (L := L) (l := l) (h := h) k1 k2 a l0 l1 l2 b c d e f g)
    have hw10 : wrap64 (id + 10) = id + 10 := IntWalk.wrap64_in _ (by omega)
    clear hx x0 x1
    go_wp2_with fail
    refine (HRG.out _ S1.out).mono ?_
    rintro e w3 ⟨A, c, hd, L, rfl, hnw, hl, hhd, hlk, hl6, hgd, hids, hs, hg⟩
    have S3 := Lib.hid (hs.alloc (.cells #[.bool true, .int .i64 lo, .int .i64 hi, .slice A k c, .int .i64 hd, .int .i64 L.length, .slice none 0 0, .slice none 0 0] 37))
    have R3 := Lib.hid ((R1.out.grownG hg HRW.out.2.1).up ((Below.refl _ _).alloc (Nat.le_refl _) (.cells #[.bool true, .int .i64 lo, .int .i64 hi, .slice A k c, .int .i64 hd, .int .i64 L.length, .slice none 0 0, .slice none 0 0] 37)))
    have G3 := Lib.hid (only_alloc (G1.out.trans hg) (.cells #[.bool true, .int .i64 lo, .int .i64 hi, .slice A k c, .int .i64 hd, .int .i64 L.length, .slice none 0 0, .slice none 0 0] 37))
    have N3 := Lib.hid (show Nw (r + 1) A from nw_low hnw R1.out.lt)
    have HCL := Lib.hid (show k = (fil k hd L).length by rw [fil_len])
    have L3 := Lib.hid (hl.up ((Below.refl _ _).alloc (Nat.le_refl _) (.cells #[.bool true, .int .i64 lo, .int .i64 hi, .slice A k c, .int .i64 hd, .int .i64 L.length, .slice none 0 0, .slice none 0 0] 37)))
    have O3 := Lib.hid (show OffB w3.heap.size k A from rd_off hl.rd (Nat.le_refl _))
    have HLK := Lib.hid hlk
    have HII := Lib.hid (And.intro hhd (And.intro hl6 (And.intro hgd hids)))
    have HQ := Lib.hid (show r < w3.heap.size ∧ g < w3.heap.size from ⟨Nat.lt_of_lt_of_le R1.out.lt hg.size, hs.2.1⟩)
    have hwk : wrap64 ((k : Int) - (L.length : Int)) = (k : Int) - (L.length : Int) := IntWalk.wrap64_in _ (by omega)
    have hmn0 : 0 ≤ min 4 ((k : Int) - (L.length : Int)) := by omega
    have hmn1 : min 4 ((k : Int) - (L.length : Int)) ≤ 12 := by omega
    have HTB' := Lib.hid (HTB.out _ hmn0 hmn1)
    have HMN := Lib.hid (show min 4 ((k : Int) - (L.length : Int)) ≤ (k : Int) - (L.length : Int) by omega)
    clear hs hg hnw hl hhd hlk hl6 hgd hids hmn0 hmn1
    go_wp2_with fail
    obtain ⟨q, hq⟩ : ∃ q, q = w3.heap.size := ⟨_, rfl⟩
    have HQQ := Lib.hid (show ¬ q = g ∧ ¬ q = r ∧ ¬ r = q ∧ r < q ∧ B ≤ q by have h1 := HQ.out; have h2 := HRW.out; omega)
    have hqa : q < (w3.alloc (.cells #[.bool true, .int .i64 lo, .int .i64 hi, .slice A k c, .int .i64 hd, .int .i64 L.length, .slice none 0 0, .slice none 0 0] 37)).heap.size := by rw [hq]; simp
    have q3c : (w3.alloc (.cells #[.bool true, .int .i64 lo, .int .i64 hi, .slice A k c, .int .i64 hd, .int .i64 L.length, .slice none 0 0, .slice none 0 0] 37)).cell? ⟨q, 3, none⟩ = some (.slice A k c) := by rw [hq]; simp [go_sem]
    have HQ8 := Lib.hid (show SB8 (w3.alloc (.cells #[.bool true, .int .i64 lo, .int .i64 hi, .slice A k c, .int .i64 hd, .int .i64 L.length, .slice none 0 0, .slice none 0 0] 37)) q ⟨true, lo, hi, fil k hd L, hd, L.length, [], []⟩ ⟨A, c, none, 0, none, 0⟩ from by
      have h := SB8.start w3 ⟨true, lo, hi, fil k hd L, hd, L.length, [], []⟩ ⟨A, c, none, 0, none, 0⟩ 37
      rw [← hq] at h
      simp only [fil_len] at h
      exact h)
    rw [← hq] at O3 ⊢
    clear hq q3c hqa
    generalize w3.alloc (.cells #[.bool true, .int .i64 lo, .int .i64 hi, .slice A k c, .int .i64 hd, .int .i64 L.length, .slice none 0 0, .slice none 0 0] 37) = w4 at *
    refine (HTB'.out _ S3.out).mono ?_
    rintro e w5 ⟨A2, c2, A3, c3, l, h, rfl, ht, hln, hin, hn2, hn3, he2, hd3, hs, hg⟩
    have S5 := Lib.hid hs
    have R5 := Lib.hid (R3.out.grownG hg HRW.out.2.1)
    have Q5 := Lib.hid (HQ8.out.grownG hg HQQ.out.1)
    have G5 := Lib.hid (G3.out.trans hg)
    have V5 := Lib.hid (HOK.out hd L l h HII.out.1 HII.out.2.1 (by have := HMN.out; omega) HII.out.2.2.1 ht (fun M hM => let u := HII.out.2.2.2 M hM; ⟨u.1, u.2.1, u.2.2.1, u.2.2.2.1⟩) hin)
    have L5 := Lib.hid ((Ls.grownR L3.out (Nat.le_refl _) hg (fun x e => by injection e with e; subst e; exact offb_nw N3.out (by have := HRW.out; omega))).more hg.size)
    have N5 := Lib.hid (show Nw (q + 1) A2 ∧ Nw (q + 1) A3 from ⟨nw_low hn2 HQ8.out.lt, nw_low hn3 HQ8.out.lt⟩)
    have D5 := Lib.hid (And.intro he2 hd3)
    clear ht hln hin hn2 hn3 he2 hd3 hs hg
    have HF := Lib.hid (show SrShard3 B g w (.returned (.agg #[.bool true, .int .i64 lo, .int .i64 hi, .slice A k c, .int .i64 hd, .int .i64 L.length, .slice A2 l.length c2, .slice A3 h.length c3])) (((((((((((w5.setCell ⟨q, 6, none⟩ (.slice A2 l.length c2)).setCell ⟨q, 7, none⟩ (.slice A3 h.length c3)).setCell ⟨r, 0, none⟩ (.bool true)).setCell ⟨r, 1, none⟩ (.int .i64 lo)).setCell ⟨r, 2, none⟩ (.int .i64 hi)).setCell ⟨r, 3, none⟩ (.slice A k c)).setCell ⟨r, 4, none⟩ (.int .i64 hd)).setCell ⟨r, 5, none⟩ (.int .i64 L.length)).setCell ⟨r, 6, none⟩ (.slice A2 l.length c2)).setCell ⟨r, 7, none⟩ (.slice A3 h.length c3))) from by
      have hne := HRW.out
      have hqq := HQQ.out
      have hsl : (⟨lo, hi, k, hd, L, l, h⟩ : Vs).sh = ⟨true, lo, hi, fil k hd L, hd, L.length, l, h⟩ := rfl
      have hrr : SR ((w5.setCell ⟨q, 6, none⟩ (.slice A2 l.length c2)).setCell ⟨q, 7, none⟩ (.slice A3 h.length c3)) (((w5.setCell ⟨q, 6, none⟩ (.slice A2 l.length c2)).setCell ⟨q, 7, none⟩ (.slice A3 h.length c3))).heap.size ⟨true, lo, hi, fil k hd L, hd, L.length, l, h⟩ ⟨A, c, A2, c2, A3, c3⟩ :=
        ⟨by show Ls _ _ (.slice A (fil k hd L).length c) _; rw [fil_len]; exact ((L5.out.offp (p := ⟨q, 6, none⟩) O3.out _).offp (p := ⟨q, 7, none⟩) O3.out _).more (by simp),
         ((D5.out.1.offp (p := ⟨q, 6, none⟩) (offb_nw N5.out.1 (Nat.lt_succ_self q)) _).offp (p := ⟨q, 7, none⟩) (offb_nw N5.out.1 (Nat.lt_succ_self q)) _).more (by simp),
         ((D5.out.2.offp (p := ⟨q, 6, none⟩) (offb_nw N5.out.2 (Nat.lt_succ_self q)) _).offp (p := ⟨q, 7, none⟩) (offb_nw N5.out.2 (Nat.lt_succ_self q)) _).more (by simp)⟩
      have hs5 := (S5.out.other (p := ⟨q, 6, none⟩) (show q ≠ g by omega) (show B ≤ q by omega) (.slice A2 l.length c2)).other (p := ⟨q, 7, none⟩) (show q ≠ g by omega) (show B ≤ q by omega) (.slice A3 h.length c3)
      have hg5 := only_set (only_set G5.out (p := ⟨q, 6, none⟩) (.inr (show w.heap.size ≤ q by omega)) (.slice A2 l.length c2)) (p := ⟨q, 7, none⟩) (.inr (show w.heap.size ≤ q by omega)) (.slice A3 h.length c3)
      have hfin : SrShard3 B g w (.returned (.agg #[.bool true, .int .i64 lo, .int .i64 hi, .slice A (fil k hd L).length c, .int .i64 hd, .int .i64 L.length, .slice A2 l.length c2, .slice A3 h.length c3])) ((((((((((w5.setCell ⟨q, 6, none⟩ (.slice A2 l.length c2)).setCell ⟨q, 7, none⟩ (.slice A3 h.length c3)).setCell ⟨r, 0, none⟩ (.bool true)).setCell ⟨r, 1, none⟩ (.int .i64 lo)).setCell ⟨r, 2, none⟩ (.int .i64 hi)).setCell ⟨r, 3, none⟩ (.slice A (fil k hd L).length c)).setCell ⟨r, 4, none⟩ (.int .i64 hd)).setCell ⟨r, 5, none⟩ (.int .i64 L.length)).setCell ⟨r, 6, none⟩ (.slice A2 l.length c2)).setCell ⟨r, 7, none⟩ (.slice A3 h.length c3)) :=
        ⟨⟨true, lo, hi, fil k hd L, hd, L.length, l, h⟩, ⟨A, c, A2, c2, A3, c3⟩, rfl, ⟨.inl ⟨_, V5.out, hsl.symm⟩, fun M hM => (HII.out.2.2.2 M (by rw [← lsF_fil k1 k2 HII.out.1 (by have := HLK.out; exact this) HII.out.2.2.1]; exact hM)).2.2.2.2⟩, ⟨nw_low N3.out (by omega), nw_low N5.out.1 (by omega), nw_low N5.out.2 (by omega)⟩,
          SR.sets ⟨offb_nw N3.out (Nat.lt_succ_self r), offb_nw (nw_low N5.out.1 (show r + 1 ≤ q + 1 by omega)) (Nat.lt_succ_self r), offb_nw (nw_low N5.out.2 (show r + 1 ≤ q + 1 by omega)) (Nat.lt_succ_self r)⟩ (Sh.l8 ⟨true, lo, hi, fil k hd L, hd, L.length, l, h⟩ ⟨A, c, A2, c2, A3, c3⟩) 0 _ hrr,
          hs5.sets8 hne.2.1 hne.2.2.1 ⟨true, lo, hi, fil k hd L, hd, L.length, l, h⟩ ⟨A, c, A2, c2, A3, c3⟩, only_sets8 hg5 hne.1 ⟨true, lo, hi, fil k hd L, hd, L.length, l, h⟩ ⟨A, c, A2, c2, A3, c3⟩⟩
      rw [fil_len] at hfin
      exact hfin)
    obtain ⟨⟨t0, t1, t2, t3, t4, t5, t6, t7, tl⟩, ⟨f0, f1, f2, f3, f4, f5, f6, f7⟩⟩ := Q5.out.all
    simp only [fil_len] at t3
    obtain ⟨⟨r0, r1, r2, r3, r4, r5, r6, r7, rl⟩, ⟨g0, g1, g2, g3, g4, g5, g6, g7⟩⟩ := R5.out.all
    obtain ⟨-, hqr, hrq, -, -⟩ := HQQ.out
    clear hwk hw10
    go_wp2
    exact bodyPost_ret (v := .agg #[.bool true, .int .i64 lo, .int .i64 hi, .slice A k c, .int .i64 hd, .int .i64 L.length, .slice A2 l.length c2, .slice A3 h.length c3]) (by simp only [results, Tryz.results59]; go_simp <;> rfl) rfl HF.out
end Go.Proofs.YtdilgeabcacbdaaGreat
namespace Go.Proofs.YtdilgeabcacbdaaGreat
open Go.RowKit
set_option linter.unusedVariables false

theorem srs3_out {B g r : Nat} {w W1 W : World} {S : Sh} {D : Sx} (hS : SrSh3 S) (hn : D.nw W1.heap.size) (hr1 : r < W1.heap.size) (hr : SR W W.heap.size S D) (hs : SrcAt W B g) (hg : w.grownBy W (some g)) (hw : w.heap.size ≤ r) (hrg : ¬ r = g) (hB : B ≤ r) : SrShard3 B g w (.returned (sv S D)) (set8s W r S D) :=
  ⟨S, D, rfl, hS, hn.low (by omega), SR.sets (hn.off hr1) (S.l8 D) 0 W hr, hs.sets8 hrg hB S D, only_sets8 hg hw S D⟩
set_option maxHeartbeats 4000000 in
set_option maxRecDepth 20000 in
theorem from3_any (B g : Nat) (w : World) (hsrc : SrcAt w B g) (id lo hi : Int) (i1 : 1 ≤ id) (i2 : id ≤ 100000) (l0 : 0 ≤ lo) (l1 : lo ≤ hi) (l2 : hi ≤ 65535) :
    Calls Tryz.prog 43 #[.pointer (some ⟨g, 0, none⟩), .int .i64 id, .int .i64 lo, .int .i64 hi] w (SrShard3 B g w) := by
  have HG0 := Lib.hid (show g < w.heap.size ∧ B ≤ g from ⟨hsrc.2.1, hsrc.1⟩)
  have R0 := Lib.hid (SB8.zero w 37)
  have G0 := Lib.hid (only_alloc (World.grownBy.refl w (some g)) (.cells #[.bool false, .int .i64 0, .int .i64 0, .slice none 0 0, .int .i64 0, .int .i64 0, .slice none 0 0, .slice none 0 0] 37))
  have S0 := Lib.hid (hsrc.alloc (.cells #[.bool false, .int .i64 0, .int .i64 0, .slice none 0 0, .int .i64 0, .int .i64 0, .slice none 0 0, .slice none 0 0] 37))
  have HFO := Lib.hid (fun k (k1 : 1 ≤ k) (k2 : k ≤ 12) W (q : SrcAt W B g) => fromof3_any B g W q k id lo hi k1 k2 i1 i2 l0 l1 l2)
  clear hsrc
  go_enter Tryz.func43, Tryz.ntmps43
  go_wp2_with fail
  obtain ⟨r, hr⟩ : ∃ r, r = w.heap.size := ⟨_, rfl⟩
  have HRW := Lib.hid (show w.heap.size ≤ r ∧ ¬ r = g ∧ B ≤ r by have := HG0.out; omega)
  rw [← hr]
  rw [← hr] at R0
  clear hr
  generalize (w.alloc (.cells #[.bool false, .int .i64 0, .int .i64 0, .slice none 0 0, .int .i64 0, .int .i64 0, .slice none 0 0, .slice none 0 0] 37)) = w1 at *
  refine (range_any B g _ S0.out 1 12 (by omega) (by omega) (by omega)).mono ?_
  rintro e w2 ⟨x, rfl, x0, x1, hs, hg⟩
  obtain ⟨k, rfl⟩ := Int.eq_ofNat_of_zero_le (show 0 ≤ x by omega)
  have S1 := Lib.hid hs
  have R1 := Lib.hid (R0.out.grownG hg HRW.out.2.1)
  have G1 := Lib.hid (G0.out.trans hg)
  have HF1 := Lib.hid (HFO.out k (by omega) (by omega) w2 hs)
  clear hs hg
  go_wp2_with fail
  refine HF1.out.mono ?_
  rintro e w3 ⟨S, D, rfl, hS, hn, hr, hs, hg⟩
  have R2 := Lib.hid (R1.out.grownG hg HRW.out.2.1)
  have HF := Lib.hid (srs3_out hS hn R1.out.lt hr hs (G1.out.trans hg) HRW.out.1 HRW.out.2.1 HRW.out.2.2)
  clear hS hn hr hs hg
  obtain ⟨⟨r0, r1, r2, r3, r4, r5, r6, r7, rl⟩, ⟨g0, g1, g2, g3, g4, g5, g6, g7⟩⟩ := R2.out.all
  go_wp2
  exact bodyPost_ret (v := sv S D) (by simp only [results, Tryz.results43]; go_simp <;> rfl) rfl HF.out
set_option maxHeartbeats 4000000 in
set_option maxRecDepth 20000 in
theorem between3_any (B g : Nat) (w : World) (hsrc : SrcAt w B g) (lo hi : Int) (l0 : 0 ≤ lo) (l1 : lo ≤ hi) (l2 : hi ≤ 65535) :
    Calls Tryz.prog 26 #[.pointer (some ⟨g, 0, none⟩), .int .i64 lo, .int .i64 hi] w (SrShard3 B g w) := by
  have HG0 := Lib.hid (show g < w.heap.size ∧ B ≤ g from ⟨hsrc.2.1, hsrc.1⟩)
  have R0 := Lib.hid (SB8.zero w 37)
  have G0 := Lib.hid (only_alloc (World.grownBy.refl w (some g)) (.cells #[.bool false, .int .i64 0, .int .i64 0, .slice none 0 0, .int .i64 0, .int .i64 0, .slice none 0 0, .slice none 0 0] 37))
  have S0 := Lib.hid (hsrc.alloc (.cells #[.bool false, .int .i64 0, .int .i64 0, .slice none 0 0, .int .i64 0, .int .i64 0, .slice none 0 0, .slice none 0 0] 37))
  have HFO := Lib.hid (fun W (q : SrcAt W B g) => from3_any B g W q 1 lo hi (by omega) (by omega) l0 l1 l2)
  clear hsrc
  go_enter Tryz.func26, Tryz.ntmps26
  go_wp2_with fail
  obtain ⟨r, hr⟩ : ∃ r, r = w.heap.size := ⟨_, rfl⟩
  have HRW := Lib.hid (show w.heap.size ≤ r ∧ ¬ r = g ∧ B ≤ r by have := HG0.out; omega)
  rw [← hr]
  rw [← hr] at R0
  clear hr
  generalize (w.alloc (.cells #[.bool false, .int .i64 0, .int .i64 0, .slice none 0 0, .int .i64 0, .int .i64 0, .slice none 0 0, .slice none 0 0] 37)) = w1 at *
  refine (HFO.out _ S0.out).mono ?_
  rintro e w3 ⟨S, D, rfl, hS, hn, hr, hs, hg⟩
  have R2 := Lib.hid (R0.out.grownG hg HRW.out.2.1)
  have HF := Lib.hid (srs3_out hS hn R0.out.lt hr hs (G0.out.trans hg) HRW.out.1 HRW.out.2.1 HRW.out.2.2)
  clear hS hn hr hs hg
  obtain ⟨⟨r0, r1, r2, r3, r4, r5, r6, r7, rl⟩, ⟨g0, g1, g2, g3, g4, g5, g6, g7⟩⟩ := R2.out.all
  go_wp2
  exact bodyPost_ret (v := sv S D) (by simp only [results, Tryz.results26]; go_simp <;> rfl) rfl HF.out
set_option maxHeartbeats 4000000 in
set_option maxRecDepth 20000 in
theorem shard3_any (B g : Nat) (w : World) (hsrc : SrcAt w B g) :
    Calls Tryz.prog 9 #[.pointer (some ⟨g, 0, none⟩)] w (SrShard3 B g w) := by
  have HG0 := Lib.hid (show g < w.heap.size ∧ B ≤ g from ⟨hsrc.2.1, hsrc.1⟩)
  have R0 := Lib.hid (SB8.zero w 37)
  have G0 := Lib.hid (only_alloc (World.grownBy.refl w (some g)) (.cells #[.bool false, .int .i64 0, .int .i64 0, .slice none 0 0, .int .i64 0, .int .i64 0, .slice none 0 0, .slice none 0 0] 37))
  have S0 := Lib.hid (hsrc.alloc (.cells #[.bool false, .int .i64 0, .int .i64 0, .slice none 0 0, .int .i64 0, .int .i64 0, .slice none 0 0, .slice none 0 0] 37))
  clear hsrc
  go_enter Tryz.func9, Tryz.ntmps9
  go_wp2_with fail
  obtain ⟨r, hr⟩ : ∃ r, r = w.heap.size := ⟨_, rfl⟩
  have HRW := Lib.hid (show w.heap.size ≤ r ∧ ¬ r = g ∧ B ≤ r by have := HG0.out; omega)
  rw [← hr]
  rw [← hr] at R0
  clear hr
  generalize (w.alloc (.cells #[.bool false, .int .i64 0, .int .i64 0, .slice none 0 0, .int .i64 0, .int .i64 0, .slice none 0 0, .slice none 0 0] 37)) = w1 at *
  refine (span_any B g _ S0.out).mono ?_
  rintro e w2 ⟨lo, hi, rfl, l0, l1, l2, hs, hg⟩
  have R1 := Lib.hid (R0.out.grownG hg HRW.out.2.1)
  have G1 := Lib.hid (G0.out.trans hg)
  have HB := Lib.hid (between3_any B g _ hs lo hi l0 l1 l2)
  clear hs hg l0 l1 l2
  go_wp2_with fail
  refine HB.out.mono ?_
  rintro e w3 ⟨S, D, rfl, hS, hn, hr, hs, hg⟩
  have R2 := Lib.hid (R1.out.grownG hg HRW.out.2.1)
  have HF := Lib.hid (srs3_out hS hn R1.out.lt hr hs (G1.out.trans hg) HRW.out.1 HRW.out.2.1 HRW.out.2.2)
  clear hS hn hr hs hg
  obtain ⟨⟨r0, r1, r2, r3, r4, r5, r6, r7, rl⟩, ⟨g0, g1, g2, g3, g4, g5, g6, g7⟩⟩ := R2.out.all
  go_wp2
  exact bodyPost_ret (v := sv S D) (by simp only [results, Tryz.results9]; go_simp <;> rfl) rfl HF.out
end Go.Proofs.YtdilgeabcacbdaaGreat
