/- What is proved here: shardqueueref04.PushFront by a contract; shardqueueref03.Same of two lists that read alike is true; shardqueueref04.New and shardqueueref04.Same by contracts; RingOf of the statements' base makes a valid ring. -/
import Derived.Test.YtdilgeabcacbdaaGreatJ19
import Derived.Test.YtdilgeabcacbdaaGreatJ36
import Derived.Test.YtdilgeabcacbdaaGreatJ03
import Derived.Test.YtdilgeabcacbdaaGreatJ01
import Derived.Test.YtdilgeabcacbdaaGreatJ05
import Derived.IntWalk
import Derived.Deep.QuietTactic
import Derived.BigQuiet
import Derived.Test.YtdilgeabcacbdaaGreatJ08
import Derived.Test.YtdilgeabcacbdaaGreatJ09
namespace Go.Proofs.YtdilgeabcacbdaaGreat
open Go.RowKit
set_option linter.unusedVariables false

/-- A message in a block of its own is a row of one. -/
theorem own_one {W : World} {base blk : Nat} {e : TypeId} {M : Msg} (h : W.heap[blk]? = some (.cells M.cs e (0, 0))) (hb : base ≤ blk) : W.ownsRow base e 7 (.slice (some ⟨blk, 0, none⟩) 1 1) 1 M.l :=
  ⟨rfl, .inr ⟨blk, 1, M.cs, rfl, hb, h, Nat.le_refl _, by unfold maxLen; omega, rfl, rfl⟩⟩
theorem own_front {W1 : World} {base : Nat} {e : TypeId} {v : Value} {l : List Msg} {M : Msg} (h : W1.ownsRow base e 7 v (1 + l.length) (M.l ++ lcs l)) : W1.ownsRow base e 7 v (M :: l).length (lcs (M :: l)) := by
  rw [lcs_cons, List.length_cons, Nat.add_comm]
  exact h

attribute [local go_sem ↓] Go.wp_at_zero Go.wp_at_succ
set_option maxHeartbeats 8000000 in
set_option maxRecDepth 20000 in
theorem rpfront_any (A : Option Addr) (n c : Nat) (cs : List Msg) (hd sz : Int) (M : Msg) (w : World) (hv : Ls w w.heap.size (.slice A n c) cs) :
    Calls Tryz.prog 95 #[.agg #[.slice A n c, .int .i64 hd, .int .i64 sz], M.v] w (RP w (pfC cs hd sz M) (pfH cs hd sz M) (ifE (puE cs hd sz M) (sz + 1)) (puE cs hd sz M)) := by
  obtain ⟨rfl, _, _⟩ := hv.len
  have HV := Lib.hid hv
  have HP := Lib.hid (fun w1 (h : Ls w1 w1.heap.size (.slice A cs.length c) cs) => pushable_any A cs.length c cs hd sz M w1 h)
  obtain ⟨i0, hi0, hz0⟩ := Option.map_eq_some_iff.1 info_msg
  simp only [Prod.mk.injEq] at hz0
  have HI := Lib.hid hi0
  have HZ := Lib.hid hz0
  clear hv hi0 hz0
  by_cases h0 : puE cs hd sz M = 0
  · have HC := Lib.hid (show pfC cs hd sz M = fil cs.length ((hd.toNat + (cs.length - 1)) % cs.length) (M :: ord cs hd.toNat sz.toNat) from if_pos h0)
    have HE1' := Lib.hid (show pfH cs hd sz M = (((hd.toNat + (cs.length - 1)) % cs.length : Nat) : Int) from if_pos h0)
    rw [h0] at HP ⊢
    have HE2 := Lib.hid (show ifE 0 (sz + 1) = sz + 1 from if_pos rfl)
    obtain ⟨hg, _, hne, _⟩ := puE_zero h0
    obtain ⟨hn, hz, _, _⟩ := rgV_zero hg
    obtain ⟨⟨n1, n2⟩, ⟨k1, k2⟩, ⟨s1, s2⟩⟩ := nm_of hn
    obtain ⟨hd, rfl⟩ := Int.eq_ofNat_of_zero_le k1
    obtain ⟨sz, rfl⟩ := Int.eq_ofNat_of_zero_le s1
    simp only [Int.toNat_natCast] at HC hz HE1'
    obtain ⟨m, hm⟩ : ∃ m, m = (hd + (cs.length - 1)) % cs.length := ⟨_, rfl⟩
    have hml : m < cs.length := by rw [hm]; exact Nat.mod_lt _ (by omega)
    have hnc : (cs.length : Int) ≤ 12 := by omega
    have hhc : (hd : Int) < (cs.length : Int) := by omega
    have hnl0 : ¬ (cs.length = 0) := by omega
    have hnil : ¬ (cs = []) := fun e => by rw [e] at n1; simp at n1
    have hw1 : IntKind.i64.wrap ((hd : Int) + (cs.length : Int)) = (hd : Int) + (cs.length : Int) := IntWalk.i64_in _ (by omega)
    have hw2 : IntKind.i64.wrap ((hd : Int) + (cs.length : Int) - 1) = (hd : Int) + (cs.length : Int) - 1 := IntWalk.i64_in _ (by omega)
    have hmt : ((hd : Int) + (cs.length : Int) - 1).tmod (cs.length : Int) = (m : Int) := by
      rw [Int.tmod_eq_emod_of_nonneg (show 0 ≤ (hd : Int) + (cs.length : Int) - 1 by omega), hm, show (hd : Int) + (cs.length : Int) - 1 = ((hd + (cs.length - 1) : Nat) : Int) by omega]
      simp
    rw [← hm] at HC HE1'
    have HE1 := HE1'
    clear HE1' hm
    have HO := Lib.hid (fun w1 (h : Ls w1 w1.heap.size (.slice A cs.length c) cs) => rorder_own A cs.length c cs hd sz w1 h hn)
    have hol := ord_len cs hd sz
    have HWI := Lib.hid (fun v A' n' c' w1 (hv : v = Value.slice A' n' c') (h : Ls w1 w1.heap.size v (M :: ord cs hd sz)) => with_any A cs.length c hd sz m A' n' c' (M :: ord cs hd sz) w1 (by omega) (by omega) (by simp; omega) (hv ▸ h))
    rw [← HC.out] at HWI
    have HLN := Lib.hid (show ((M :: ord cs hd sz).length : Int) = (sz : Int) + 1 by simp [hol])
    rw [HLN.out] at HWI
    have hlo : (ord cs hd sz).length ≤ 12 := by omega
    generalize ord cs hd sz = l at *
    clear h0 hg hne hn hz HC hol HLN
    generalize pfC cs hd sz M = ds at *
    generalize pfH cs hd sz M = hx at *
    go_enter Tryz.func95, Tryz.ntmps95
    go_wp2_with fail
    have HS := Lib.hid (PbAt.start w A cs.length c hd sz M 31 66)
    obtain ⟨p, hp⟩ : ∃ p, p = w.heap.size := ⟨_, rfl⟩
    obtain ⟨q, hq⟩ : ∃ q, q = w.heap.size + 1 := ⟨_, rfl⟩
    obtain ⟨r, hr⟩ : ∃ r, r = w.heap.size + 1 + 1 := ⟨_, rfl⟩
    rw [← hr, ← hq, ← hp] at HS ⊢
    clear hp hq hr
    refine (HP.out _ (HV.out.up HS.out.bel)).mono ?_
    rintro e w1 ⟨rfl, hb⟩
    have HS1 := Lib.hid (HS.out.below hb)
    obtain ⟨⟨r0, r1, r2, r3, r4, r5, hpl⟩, _, _⟩ := HS1.out.facts
    clear hb HS
    go_wp2
    clear r0 r1 r2 r3 r4 r5 hpl
    have HSM := Lib.hid (HS1.out.alloc (.cells M.cs 66))
    have HSA := Lib.hid HS1.out.drew.s10
    have HSB := Lib.hid HSM.out.drew.s10
    have HRL := Lib.hid HS1.out.rs.lt
    go_region_held3 (fun W => W.cell? ⟨p, 0, none⟩ = some (.slice A cs.length c) ∧ W.cell? ⟨p, 1, none⟩ = some (.int .i64 hd) ∧ W.cell? ⟨p, 2, none⟩ = some (.int .i64 sz) ∧ W.cell? ⟨q, 0, none⟩ = some (.int .i64 M.id) ∧ W.cell? ⟨q, 1, none⟩ = some (.int .i64 M.rt) ∧ W.cell? ⟨q, 2, none⟩ = some (.int .i64 M.ep) ∧ W.cell? ⟨q, 3, none⟩ = some (.int .i64 M.ct) ∧ W.cell? ⟨q, 4, none⟩ = some (.int .i64 M.gn) ∧ W.cell? ⟨q, 5, none⟩ = some (.int .i64 M.st) ∧ W.cell? ⟨q, 6, none⟩ = some (.string M.bd))
      (first | with_reducible exact HSA.out | with_reducible exact HSB.out | with_reducible exact HSC.out | with_reducible exact HSD.out | with_reducible exact HSE.out | with_reducible exact HSF.out | with_reducible exact HSG.out)
      (first
      | (refine step_append_rd _ (by rfl) _ _ _ (by rfl) w1.heap.size 66 i0 _ 7 64 Tryz.underlying29 HI.out HZ.out.1 HZ.out.2.1 HZ.out.2.2 rfl (by omega) (.slice (some ⟨w4.heap.size, 0, none⟩) 1 1) 1 M.l (by rfl) (own_one (heap_alloc_new w4 _) HBS4.out) _ As l.length cap (lcs l) (by rfl) (HRD4.out.alloc (Nat.le_refl _) _) (lcs_one l) (by unfold maxLen; omega) (by omega) (Nat.le_trans HBS4.out (by simp)) ?_; intro v5 w5 hown5 hgrow5 hat5; have HS5 := Lib.hid ((HS4.out.alloc (.cells M.cs 66)).grown hgrow5 (fun k hk => by simp [Value.ownBlock] at hk; have := HRL.out; have := HBS4.out; omega)); have HOW5 := Lib.hid (own_front hown5); have HL5 := Lib.hid (Ls.of_own (own_front hown5)); have HSE := Lib.hid HS5.out.s10; obtain ⟨A5, c5, hv5, _, _⟩ := HL5.out.form; obtain rfl : v5 = .slice A5 (l.length + 1) c5 := hv5; clear hown5 hgrow5 hat5)
      | (refine step_append_rd _ (by rfl) _ _ _ (by rfl) w1.heap.size 66 i0 _ 7 64 Tryz.underlying29 HI.out HZ.out.1 HZ.out.2.1 HZ.out.2.2 rfl (by omega) (.slice (some ⟨w1.heap.size, 0, none⟩) 1 1) 1 M.l (by rfl) (own_one HNB4.out (Nat.le_refl _)) _ As l.length cap (lcs l) (by rfl) HRD4.out (lcs_one l) (by unfold maxLen; omega) (by omega) HBS4.out ?_; intro v5 w5 hown5 hgrow5 hat5; have HS5 := Lib.hid (HS4.out.grown hgrow5 (fun k hk => by simp [Value.ownBlock] at hk; have := HRL.out; have := HBS4.out; omega)); have HOW5 := Lib.hid (own_front hown5); have HL5 := Lib.hid (Ls.of_own (own_front hown5)); have HSE := Lib.hid HS5.out.s10; obtain ⟨A5, c5, hv5, _, _⟩ := HL5.out.form; obtain rfl : v5 = .slice A5 (l.length + 1) c5 := hv5; clear hown5 hgrow5 hat5)
      | (go_at_call 110; (with_reducible refine (HWI.out _ _ _ _ _ rfl HL5.out).mono ?_); rintro e w6 ⟨A6, c6, rfl, hnw, hl6, hb⟩; have HS6 := Lib.hid (HS5.out.below hb); have HNW := Lib.hid hnw; have HL6 := Lib.hid hl6; have HSF := Lib.hid HS6.out.s10; have HSG := Lib.hid (pb_set3 HS6.out (.slice A6 ds.length c6) (.int .i64 (m : Int)) (.int .i64 ((sz : Int) + 1))); obtain ⟨_, _, ⟨t0, t1, t2, t3, t4, t5, hrl⟩⟩ := HS6.out.facts; clear hnw hl6 hb)
      | (go_at_call 66; (with_reducible refine (HO.out _ (HV.out.up HS1.out.drew.bel)).mono ?_); rintro e w4 ⟨v, rfl, hown, hb⟩; obtain ⟨As, cap, rfl⟩ := own_form hown; have HS4 := Lib.hid (PbAt.below (W := w1) HS1.out (drew_below hb)); have HO4 := Lib.hid (own_low hown (show w1.heap.size ≤ (w1).drew.heap.size by first | exact Nat.le_refl _ | simp)); have HBS4 := Lib.hid (show w1.heap.size ≤ w4.heap.size from Nat.le_trans (show w1.heap.size ≤ (w1).drew.heap.size by first | exact Nat.le_refl _ | simp) hb.size); have HRD4 := Lib.hid (Rd.of_own HO4.out); have HSC := Lib.hid HS4.out.s10; have HSD := Lib.hid (HS4.out.alloc (.cells M.cs 66)).s10; clear hown hb)
      | (go_at_call 66; (with_reducible refine (HO.out _ (HV.out.up HSM.out.drew.bel)).mono ?_); rintro e w4 ⟨v, rfl, hown, hb⟩; obtain ⟨As, cap, rfl⟩ := own_form hown; have HS4 := Lib.hid (PbAt.below (W := w1.alloc (.cells M.cs 66)) HSM.out (drew_below hb)); have HO4 := Lib.hid (own_low hown (show w1.heap.size ≤ (w1.alloc (.cells M.cs 66)).drew.heap.size by first | exact Nat.le_refl _ | simp)); have HBS4 := Lib.hid (show w1.heap.size ≤ w4.heap.size from Nat.le_trans (show w1.heap.size ≤ (w1.alloc (.cells M.cs 66)).drew.heap.size by first | exact Nat.le_refl _ | simp) hb.size); have HRD4 := Lib.hid (Rd.of_own HO4.out); have HSC := Lib.hid HS4.out.s10; have HNB4 := Lib.hid ((hb.block w1.heap.size (by simp)).trans (heap_alloc_new w1 _)); clear hown hb))
    all_goals
      have HL := Lib.hid ((HL6.out.off3 HNW.out HS5.out.rs.lt (.slice A6 ds.length c6) (.int .i64 (m : Int)) (.int .i64 ((sz : Int) + 1))).more (show w6.heap.size ≤ (((w6.setCell ⟨r, 0, none⟩ (.slice A6 ds.length c6)).setCell ⟨r, 1, none⟩ (.int .i64 (m : Int))).setCell ⟨r, 2, none⟩ (.int .i64 ((sz : Int) + 1))).heap.size by simp))
      have HB := Lib.hid (HS6.out.result A6 ds.length c6 (m : Int) ((sz : Int) + 1))
      clear HSA HSB HSC HSE HSF HSG
      go_wp2
      exact bodyPost_ret (v := .tuple #[.agg #[.slice A6 ds.length c6, .int .i64 (m : Int), .int .i64 ((sz : Int) + 1)], .int .i64 0]) (by simp only [results, Tryz.results95]; go_simp <;> rfl) rfl ⟨A6, c6, by rw [HE1.out, HE2.out], nw_low HNW.out HS5.out.bel.size, HL.out, HB.out⟩
  · have HC := Lib.hid (show pfC cs hd sz M = [] from if_neg h0)
    have HE1 := Lib.hid (show pfH cs hd sz M = 0 from if_neg h0)
    have HE2 := Lib.hid (show ifE (puE cs hd sz M) (sz + 1) = 0 from if_neg h0)
    have hne : (puE cs hd sz M != 0) = true := bne_iff_ne.2 h0
    generalize puE cs hd sz M = x at *
    generalize pfC cs hd sz M = ds at *
    generalize pfH cs hd sz M = hx at *
    clear h0
    go_enter Tryz.func95, Tryz.ntmps95
    go_wp2_with fail
    have HS := Lib.hid (PbAt.start w A cs.length c hd sz M 31 66)
    obtain ⟨p, hp⟩ : ∃ p, p = w.heap.size := ⟨_, rfl⟩
    obtain ⟨q, hq⟩ : ∃ q, q = w.heap.size + 1 := ⟨_, rfl⟩
    obtain ⟨r, hr⟩ : ∃ r, r = w.heap.size + 1 + 1 := ⟨_, rfl⟩
    rw [← hr, ← hq, ← hp] at HS ⊢
    clear hp hq hr
    refine (HP.out _ (HV.out.up HS.out.bel)).mono ?_
    rintro e w1 ⟨rfl, hb⟩
    have HS1 := Lib.hid (HS.out.below hb)
    obtain ⟨_, _, ⟨t0, t1, t2, t3, t4, t5, hrl⟩⟩ := HS1.out.facts
    have HB := Lib.hid (HS1.out.result none 0 0 0 0)
    clear hb HS
    go_wp2
    exact bodyPost_ret (v := .tuple #[.agg #[.slice none 0 0, .int .i64 0, .int .i64 0], .int .i64 x]) (by simp only [results, Tryz.results95]; go_simp <;> rfl) rfl ⟨none, 0, by rw [HC.out, HE1.out, HE2.out]; rfl, nw_none, by rw [HC.out]; exact Ls.nil, HB.out⟩
end Go.Proofs.YtdilgeabcacbdaaGreat
namespace Go.Proofs.YtdilgeabcacbdaaGreat
open Go.RowKit
set_option linter.unusedVariables false

end Go.Proofs.YtdilgeabcacbdaaGreat
namespace Go.Proofs.YtdilgeabcacbdaaGreat
open Go.RowKit
set_option linter.unusedVariables false

set_option maxHeartbeats 2000000 in
theorem rnew4_any (k : Int) (w : World) : Calls Tryz.prog 92 #[.int .i64 k] w (RP w (nwC k) 0 0 (nwE k)) := by
  have HB0 := Lib.hid ((Below.refl w.heap.size w).alloc (Nat.le_refl _) (.cells #[.slice none 0 0, .int .i64 0, .int .i64 0] 31))
  by_cases a1 : k < 1
  · have HC := Lib.hid (show nwC k = [] from if_neg (by rw [wi_low a1]; decide))
    have HE := Lib.hid (show nwE k = 1 from if_neg (by rw [wi_low a1]; decide))
    go_enter Tryz.func92, Tryz.ntmps92
    go_wp2
    exact bodyPost_ret (v := .tuple #[.agg #[.slice none 0 0, .int .i64 0, .int .i64 0], .int .i64 1]) (by simp only [results, Tryz.results92]; go_simp <;> rfl) rfl ⟨none, 0, by rw [HC.out, HE.out]; rfl, nw_none, by rw [HC.out]; exact Ls.nil, HB0.out⟩
  by_cases a2 : (12 : Int) < k
  · have HC := Lib.hid (show nwC k = [] from if_neg (by rw [wi_high (lo := 1) a2]; decide))
    have HE := Lib.hid (show nwE k = 1 from if_neg (by rw [wi_high (lo := 1) a2]; decide))
    go_enter Tryz.func92, Tryz.ntmps92
    go_wp2
    exact bodyPost_ret (v := .tuple #[.agg #[.slice none 0 0, .int .i64 0, .int .i64 0], .int .i64 1]) (by simp only [results, Tryz.results92]; go_simp <;> rfl) rfl ⟨none, 0, by rw [HC.out, HE.out]; rfl, nw_none, by rw [HC.out]; exact Ls.nil, HB0.out⟩
  · have h : wi k 1 12 = true := wi_true (by omega) (by omega)
    obtain ⟨k1, k2⟩ := wi_of h
    obtain ⟨k, rfl⟩ := Int.eq_ofNat_of_zero_le (show 0 ≤ k by omega)
    have HC := Lib.hid (show nwC (k : Int) = (List.range k).map (fun _ => zM) from if_pos h)
    have HE := Lib.hid (show nwE (k : Int) = 0 from if_pos h)
    have hmk := run_make_msgs k (by omega)
    have hlen : (nwC (k : Int)).length = k := by rw [HC.out]; simp
    have HLN := Lib.hid hlen
    have HM := Lib.hid (MRow.made (w.alloc (.cells #[.slice (some ⟨w.heap.size + 1, 0, none⟩) k k, .int .i64 0, .int .i64 0] 31)) k 66)
    have HKM := Lib.hid (show k ≤ maxLen by unfold maxLen; omega)
    clear h hlen
    go_enter Tryz.func92, Tryz.ntmps92
    go_wp2
    exact bodyPost_ret (v := .tuple #[.agg #[.slice (some ⟨w.heap.size + 1, 0, none⟩) k k, .int .i64 0, .int .i64 0], .int .i64 0]) (by simp only [results, Tryz.results92]; go_simp <;> rfl) rfl ⟨some ⟨w.heap.size + 1, 0, none⟩, k, by rw [HLN.out, HE.out], nw_some (by omega), by rw [HLN.out]; exact new_end HM.out HC.out HKM.out, ((Below.refl _ _).alloc (Nat.le_refl _) _).alloc (by simp) _⟩

end Go.Proofs.YtdilgeabcacbdaaGreat
namespace Go.Proofs.YtdilgeabcacbdaaGreat
open Go.RowKit
set_option linter.unusedVariables false

/-- The work of RingOf: a ring in a block, the result, the source. -/
structure RoAt (w : World) (B g r y : Nat) (A : Option Addr) (k c hd : Nat) (L : List Msg) (W : World) : Prop where
  rb : RB W y A k c hd L.length
  rs : RB W r none 0 0 0 0
  ls : Ls W W.heap.size (.slice A k c) (fil k hd L)
  src : SrcAt W B g
  grow : w.grownBy W (some g)
  nw : Nw (r + 1) A
  offy : Off y A
  old : w.heap.size ≤ r ∧ r < y ∧ g < w.heap.size ∧ B ≤ g
section
variable {w W W' : World} {B g r y k c hd : Nat} {A : Option Addr} {L : List Msg}
theorem RoAt.drew (h : RoAt w B g r y A k c hd L W) : RoAt w B g r y A k c hd L W.drew := ⟨h.rb.drew, h.rs.drew, h.ls, h.src, only_drew h.grow, h.nw, h.offy, h.old⟩
theorem RoAt.below (h : RoAt w B g r y A k c hd L W) (hb : Below W.heap.size W W') : RoAt w B g r y A k c hd L W' :=
  ⟨h.rb.below hb h.rb.lt, h.rs.below hb h.rs.lt, (h.ls.below hb).more hb.size, h.src.below hb, only_below h.grow hb, h.nw, h.offy, h.old⟩
theorem RoAt.grownG (h : RoAt w B g r y A k c hd L W) (hs : SrcAt W' B g) (hg : W.grownBy W' (some g)) : RoAt w B g r y A k c hd L W' :=
  ⟨h.rb.grownG hg (by have := h.old; omega), h.rs.grownG hg (by have := h.old; omega), (h.ls.grownG hg (Nat.le_refl _) (off_nw h.nw (by have := h.old; omega))).more hg.size, hs, h.grow.trans hg, h.nw, h.offy, h.old⟩
/-- A new ring is stored. -/
theorem RoAt.store {W1 : World} {A1 : Option Addr} {c1 hd1 : Nat} {L1 : List Msg} (h : RoAt w B g r y A k c hd L W) (hb : Below W.heap.size W W1) (hnw : Nw W.heap.size A1) (hl : Ls W1 W1.heap.size (.slice A1 k c1) (fil k hd1 L1)) (z : Int) (hz : z = (L1.length : Int)) : RoAt w B g r y A1 k c1 hd1 L1 (((W1.setCell ⟨y, 0, none⟩ (.slice A1 k c1)).setCell ⟨y, 1, none⟩ (.int .i64 hd1)).setCell ⟨y, 2, none⟩ (.int .i64 z)) := by
  subst hz
  have h1 := h.below hb
  have hy : y < W.heap.size := h.rb.lt
  have hyr : y ≠ r := by have := h.old; omega
  have hyg : y ≠ g := by have := h.old; omega
  have hyB : B ≤ y := by have := h.old; omega
  refine ⟨((h1.rb.setA A1 k c1).setH hd1).setS L1.length, h1.rs.set3' hyr _ _ _, ?_, ((h1.src.other (p := ⟨y, 0, none⟩) hyg hyB _).other (p := ⟨y, 1, none⟩) hyg hyB _).other (p := ⟨y, 2, none⟩) hyg hyB _, only_set (only_set (only_set h1.grow (.inr (by show w.heap.size ≤ y; have := h.old; omega)) _) (.inr (by show w.heap.size ≤ y; have := h.old; omega)) _) (.inr (by show w.heap.size ≤ y; have := h.old; omega)) _, nw_low hnw (by have := h.old; omega), off_nw hnw hy, h.old⟩
  have := (hl.off3 hnw hy (.slice A1 k c1) (.int .i64 hd1) (.int .i64 L1.length))
  simpa using this
end
theorem ro_end {w W : World} {B g r y k c hd : Nat} {A : Option Addr} {L : List Msg} (h : RoAt w B g r y A k c hd L W) : Nw w.heap.size A ∧ Ls (((W.setCell ⟨r, 0, none⟩ (.slice A k c)).setCell ⟨r, 1, none⟩ (.int .i64 hd)).setCell ⟨r, 2, none⟩ (.int .i64 L.length)) (((W.setCell ⟨r, 0, none⟩ (.slice A k c)).setCell ⟨r, 1, none⟩ (.int .i64 hd)).setCell ⟨r, 2, none⟩ (.int .i64 L.length)).heap.size (.slice A k c) (fil k hd L) ∧ SrcAt (((W.setCell ⟨r, 0, none⟩ (.slice A k c)).setCell ⟨r, 1, none⟩ (.int .i64 hd)).setCell ⟨r, 2, none⟩ (.int .i64 L.length)) B g ∧ w.grownBy (((W.setCell ⟨r, 0, none⟩ (.slice A k c)).setCell ⟨r, 1, none⟩ (.int .i64 hd)).setCell ⟨r, 2, none⟩ (.int .i64 L.length)) (some g) := by
  have hrg : r ≠ g := by have := h.old; omega
  have hrB : B ≤ r := by have := h.old; omega
  have hrw : w.heap.size ≤ r := h.old.1
  refine ⟨nw_low h.nw (by omega), ?_, ((h.src.other (p := ⟨r, 0, none⟩) hrg hrB _).other (p := ⟨r, 1, none⟩) hrg hrB _).other (p := ⟨r, 2, none⟩) hrg hrB _, only_set (only_set (only_set h.grow (p := ⟨r, 0, none⟩) (.inr hrw) _) (p := ⟨r, 1, none⟩) (.inr hrw) _) (p := ⟨r, 2, none⟩) (.inr hrw) _⟩
  have := h.ls.off3 h.nw (Nat.lt_succ_self r) (.slice A k c) (.int .i64 hd) (.int .i64 L.length)
  simpa using this
theorem rpback_good (A : Option Addr) (c k hd : Nat) (L : List Msg) (M : Msg) (w : World) (k1 : 1 ≤ k) (k2 : k ≤ 12) (hh : hd < k) (hl : L.length < k) (hg : Gd L) (hM : vf M = 0) (hi : ∀ N ∈ L, N.id ≠ M.id) (hv : Ls w w.heap.size (.slice A k c) (fil k hd L)) :
    Calls Tryz.prog 93 #[.agg #[.slice A k c, .int .i64 hd, .int .i64 L.length], M.v] w (RP w (fil k hd (L ++ [M])) hd ((L.length : Int) + 1) 0) := by
  have := rpback_any A k c (fil k hd L) hd L.length M w hv
  rw [puE_fil k1 k2 hh hl hg hM hi, pbC_fil k1 k2 hh hl hg hM hi] at this
  simpa [ifE] using this
theorem rpfront_good (A : Option Addr) (c k hd : Nat) (L : List Msg) (M : Msg) (w : World) (k1 : 1 ≤ k) (k2 : k ≤ 12) (hh : hd < k) (hl : L.length < k) (hg : Gd L) (hM : vf M = 0) (hi : ∀ N ∈ L, N.id ≠ M.id) (hv : Ls w w.heap.size (.slice A k c) (fil k hd L)) :
    Calls Tryz.prog 95 #[.agg #[.slice A k c, .int .i64 hd, .int .i64 L.length], M.v] w (RP w (fil k ((hd + (k - 1)) % k) (M :: L)) ((hd + (k - 1)) % k : Nat) ((L.length : Int) + 1) 0) := by
  have := rpfront_any A k c (fil k hd L) hd L.length M w hv
  rw [puE_fil k1 k2 hh hl hg hM hi, (pfC_fil k1 k2 hh hl hg hM hi).1, (pfC_fil k1 k2 hh hl hg hM hi).2] at this
  simpa [ifE] using this

end Go.Proofs.YtdilgeabcacbdaaGreat
