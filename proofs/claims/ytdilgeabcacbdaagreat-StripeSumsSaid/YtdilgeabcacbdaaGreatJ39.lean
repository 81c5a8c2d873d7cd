/- What is proved here: Pick of the statements' base picks one of the numbers; From of the statements' base makes a valid shard; FromOf, From, Between, Span, Shard of the statements' base; From, Between, Span, Shard of the statements' base. -/
import Derived.Test.YtdilgeabcacbdaaGreatJ33
import Derived.Test.YtdilgeabcacbdaaGreatJ38
import Derived.Test.YtdilgeabcacbdaaGreatJ26
import Derived.Test.YtdilgeabcacbdaaGreatJ27
namespace Go.Proofs.YtdilgeabcacbdaaGreat
open Go.RowKit
set_option linter.unusedVariables false

/-- A number of a row, taken by a source. -/
def SrPick (B g : Nat) (zs : List Int) (w : World) (e : Ending) (w' : World) : Prop := ∃ x, e = .returned (.int .i64 x) ∧ x ∈ zs ∧ SrcAt w' B g ∧ w.grownBy w' (some g)

set_option maxHeartbeats 2000000 in
theorem pick_any (B g : Nat) (w : World) (h : SrcAt w B g) (b n : Nat) (zs : List Int) (hn : n = zs.length) (hb : b < w.heap.size) (hne : b ≠ g) (h1 : 1 ≤ n) (h2 : n ≤ 1000) (hc : ∀ j (hj : j < zs.length), w.cell? ⟨b, j, none⟩ = some (.int .i64 zs[j])) :
    Calls Tryz.prog 7 #[.pointer (some ⟨g, 0, none⟩), .slice (some ⟨b, 0, none⟩) n n] w (SrPick B g zs w) := by
  have HC := Lib.hid (n_any B g w h n (by omega) (by omega))
  have HR := Lib.hid hc
  have HN := Lib.hid hn
  have h2' : (n : Int) ≤ 1000 := by omega
  have HB := Lib.hid hb
  have HE := Lib.hid hne
  clear h hc hn h2 hb hne
  go_enter Tryz.func7, Tryz.ntmps7
  go_wp2_with fail
  refine HC.out.mono ?_
  rintro e w1 ⟨x, rfl, hx1, hx2, hs, hg⟩
  obtain ⟨k, rfl⟩ := Int.eq_ofNat_of_zero_le hx1
  have hkl : k < zs.length := by have := HN.out; omega
  have hcell := (hg.cell_far ⟨b, k, none⟩ HB.out (fun e => HE.out (by injection e))).trans (HR.out k hkl)
  have HM := Lib.hid (List.getElem_mem hkl)
  generalize zs[k] = z at *
  have hkn : k < n := by have := HN.out; omega
  have HS := Lib.hid hs
  have HG := Lib.hid hg
  clear hs hg hkl
  go_wp2
  go_ret
  exact ⟨z, rfl, HM.out, HS.out, HG.out⟩
end Go.Proofs.YtdilgeabcacbdaaGreat
namespace Go.Proofs.YtdilgeabcacbdaaGreat
open Go.RowKit
set_option linter.unusedVariables false

/-- A shard that is not live. -/
def frS (k : Nat) : Sh := ⟨false, 0, 0, nwC k, 0, 0, [], []⟩
theorem fr_va {k : Nat} (h1 : 1 ≤ k) (h2 : k ≤ 12) : shV (frS k) = 0 := by
  obtain ⟨e1, e2⟩ := nwC_fil h1 h2 0 (by omega)
  have r : rgV (fil k 0 []) (0 : Int) (0 : Int) = 0 := rgV_fil (l := []) (hd := 0) h1 h2 (by omega) (by simp) gd_nil
  unfold shV
  rw [if_neg (fun g => g (by show rgV (nwC k) 0 0 = 0; rw [e1]; exact r)), if_neg (fun g => g ((tbV_iff [] []).2 TbOk.nil)), if_neg (show ¬ (frS k).lv = true from fun h => by cases h)]
  exact if_neg (show ¬ ((0 : Int) ≠ 0 ∨ (0 : Int) ≠ 0 ∨ (0 : Int) < (0 : Int) + (([] : List Le).length : Int)) by simp)
theorem fr_ex {k : Nat} (h1 : 1 ≤ k) (h2 : k ≤ 12) (b : Bool) : exS (frS k) b = 7 := exS_off b (fr_va h1 h2) rfl
/-- What a source makes: a valid live shard, or one that is not live. -/
def SrSh (S : Sh) : Prop := (∃ V : Vs, V.Ok ∧ S = V.sh) ∨ ∃ k : Nat, 1 ≤ k ∧ k ≤ 12 ∧ S = frS k
def SrShard (B g : Nat) (w : World) (e : Ending) (w' : World) : Prop := ∃ S D, e = .returned (sv S D) ∧ SrSh S ∧ D.nw w.heap.size ∧ SR w' w'.heap.size S D ∧ SrcAt w' B g ∧ w.grownBy w' (some g)
theorem base_ok {lo hi id : Int} {k hd : Nat} {L : List Msg} {l : List Le} {h : List Du} (k1 : 1 ≤ k) (k2 : k ≤ 12) (hh : hd < k) (l0 : 0 ≤ lo) (l1 : lo ≤ hi) (l2 : hi ≤ 65535) (hL : (L.length : Int) ≤ 6) (hr : (L.length : Int) + l.length ≤ k) (hg : Gd L) (t : TbOk l h) (h1 : ∀ M ∈ L, id ≤ M.id ∧ M.id < id + L.length ∧ lo ≤ M.rt ∧ M.rt ≤ hi) (h2 : ∀ y ∈ l, id + 10 ≤ y.m.id ∧ lo ≤ y.m.rt ∧ y.m.rt ≤ hi) : (⟨lo, hi, k, hd, L, l, h⟩ : Vs).Ok := by
  refine ⟨k1, k2, hh, t, ⟨l0, l1, by show hi < 65536; omega⟩, by show L.length + l.length ≤ k; omega, ⟨fun M hM => ?_, (dup_pair _).2 ?_⟩, fun M hM => ?_⟩
  · rcases List.mem_append.1 hM with h | h
    · exact hg.1 M h
    · obtain ⟨x, hx, rfl⟩ := List.mem_map.1 h
      exact (t.ok x hx).1
  · show (L ++ l.map Le.m).Pairwise _
    rw [List.pairwise_append]
    refine ⟨(dup_pair L).1 hg.2, List.pairwise_map.2 (t.asc.imp (fun {a b} h => by have h' : a.m.id < b.m.id := h; omega)), fun a ha b hb => ?_⟩
    obtain ⟨x, hx, rfl⟩ := List.mem_map.1 hb
    have := h1 a ha
    have := h2 x hx
    omega
  · rcases List.mem_append.1 hM with h | h
    · exact (h1 M h).2.2
    · obtain ⟨x, hx, rfl⟩ := List.mem_map.1 h
      exact (h2 x hx).2
set_option maxHeartbeats 4000000 in
set_option maxRecDepth 20000 in
theorem rfree_any (k : Nat) (w : World) (h1 : 1 ≤ k) (h2 : k ≤ 12) :
    Calls Tryz.prog 70 #[.int .i64 (k : Int)] w (SE w (frS k) 0) := by
  have R0 := Lib.hid (SB8.zero w 37)
  have B0 := Lib.hid ((Below.refl w.heap.size w).alloc (Nat.le_refl _) (.cells #[.bool false, .int .i64 0, .int .i64 0, .slice none 0 0, .int .i64 0, .int .i64 0, .slice none 0 0, .slice none 0 0] 37))
  have HN := Lib.hid (fun W => rnew4_any (k : Int) W)
  have hnl : (nwC (k : Int)).length = k := by rw [(nwC_fil h1 h2 0 (by omega)).1, fil_len]
  rw [(nwC_fil h1 h2 0 (by omega)).2] at HN
  obtain ⟨S, hS⟩ : ∃ S, S = frS k := ⟨_, rfl⟩
  have HS := Lib.hid (show S = ⟨false, 0, 0, nwC k, 0, 0, [], []⟩ from hS)
  rw [← hS]
  clear hS
  generalize nwC (k : Int) = cs at *
  go_enter Tryz.func70, Tryz.ntmps70
  go_wp2_with fail
  obtain ⟨r, hr⟩ : ∃ r, r = w.heap.size := ⟨_, rfl⟩
  have HRW := Lib.hid (show w.heap.size ≤ r by omega)
  rw [← hr]
  rw [← hr] at R0
  clear hr
  generalize (w.alloc (.cells #[.bool false, .int .i64 0, .int .i64 0, .slice none 0 0, .int .i64 0, .int .i64 0, .slice none 0 0, .slice none 0 0] 37)) = w1 at *
  refine (HN.out _).mono ?_
  rintro e w2 ⟨A, c, rfl, hnw, hl, hb⟩
  have B2 := Lib.hid (btr B0.out hb)
  have R2 := Lib.hid (R0.out.up hb)
  have L2 := Lib.hid hl
  have N2 := Lib.hid (nw_low hnw (show r + 1 ≤ _ from R0.out.lt))
  clear hb hl hnw
  rw [hnl] at L2 ⊢
  have HF := Lib.hid (show SE w S 0 (.returned (.tuple #[.agg #[.bool false, .int .i64 0, .int .i64 0, .slice A k c, .int .i64 0, .int .i64 0, .slice none 0 0, .slice none 0 0], .int .i64 0])) ((((((((((w2.setCell ⟨r, 0, none⟩ (.bool false)).setCell ⟨r, 1, none⟩ (.int .i64 0)).setCell ⟨r, 2, none⟩ (.int .i64 0)).setCell ⟨r, 3, none⟩ (.slice A k c)).setCell ⟨r, 4, none⟩ (.int .i64 0)).setCell ⟨r, 5, none⟩ (.int .i64 0)).setCell ⟨r, 6, none⟩ (.slice none 0 0)).setCell ⟨r, 7, none⟩ (.slice none 0 0)).alloc (.cells #[.slice A k c, .int .i64 0, .int .i64 0] 31))) from by
    rw [HS.out]
    subst hnl
    exact ⟨⟨A, c, none, 0, none, 0⟩, rfl, ⟨nw_low N2.out (by have := HRW.out; omega), nw_none, nw_none⟩, (SR.sets (S := ⟨false, 0, 0, cs, 0, 0, [], []⟩) (D := ⟨A, c, none, 0, none, 0⟩) ⟨offb_nw N2.out (Nat.lt_succ_self r), offb_none, offb_none⟩ (Sh.l8 ⟨false, 0, 0, cs, 0, 0, [], []⟩ ⟨A, c, none, 0, none, 0⟩) 0 w2 ⟨L2.out, El.nil, Dl.nil⟩).up ((Below.refl _ _).alloc (Nat.le_refl _) _), bal (set8s_below HRW.out B2.out ⟨false, 0, 0, cs, 0, 0, [], []⟩ ⟨A, c, none, 0, none, 0⟩) _⟩)
  obtain ⟨⟨r0, r1, r2, r3, r4, r5, r6, r7, rl⟩, ⟨g0, g1, g2, g3, g4, g5, g6, g7⟩⟩ := R2.out.all
  clear hnl
  go_wp2
  exact bodyPost_ret (v := .tuple #[.agg #[.bool false, .int .i64 0, .int .i64 0, .slice A k c, .int .i64 0, .int .i64 0, .slice none 0 0, .slice none 0 0], .int .i64 0]) (by simp only [results, Tryz.results70]; go_simp <;> rfl) rfl HF.out
theorem SB8.grownG {W W' : World} {p g : Nat} {S : Sh} {D : Sx} (h : SB8 W p S D) (hg : W.grownBy W' (some g)) (hne : p ≠ g) : SB8 W' p S D := h.grown hg (fun x e => by injection e with e; omega)
theorem only_sets8 {a W : World} {g r : Nat} (h : a.grownBy W (some g)) (hr : a.heap.size ≤ r) (S : Sh) (D : Sx) : a.grownBy (set8s W r S D) (some g) :=
  only_set (only_set (only_set (only_set (only_set (only_set (only_set (only_set h (p := ⟨r, 0, none⟩) (.inr hr) _) (p := ⟨r, 1, none⟩) (.inr hr) _) (p := ⟨r, 2, none⟩) (.inr hr) _) (p := ⟨r, 3, none⟩) (.inr hr) _) (p := ⟨r, 4, none⟩) (.inr hr) _) (p := ⟨r, 5, none⟩) (.inr hr) _) (p := ⟨r, 6, none⟩) (.inr hr) _) (p := ⟨r, 7, none⟩) (.inr hr) _
theorem SrcAt.sets8 {W : World} {B g r : Nat} (h : SrcAt W B g) (hr : r ≠ g) (hB : B ≤ r) (S : Sh) (D : Sx) : SrcAt (set8s W r S D) B g :=
  (((((((h.other (p := ⟨r, 0, none⟩) hr hB _).other (p := ⟨r, 1, none⟩) hr hB _).other (p := ⟨r, 2, none⟩) hr hB _).other (p := ⟨r, 3, none⟩) hr hB _).other (p := ⟨r, 4, none⟩) hr hB _).other (p := ⟨r, 5, none⟩) hr hB _).other (p := ⟨r, 6, none⟩) hr hB _).other (p := ⟨r, 7, none⟩) hr hB _
end Go.Proofs.YtdilgeabcacbdaaGreat
namespace Go.Proofs.YtdilgeabcacbdaaGreat
open Go.RowKit
set_option linter.unusedVariables false

set_option maxHeartbeats 8000000 in
set_option maxRecDepth 20000 in
theorem fromof_any (B g : Nat) (w : World) (hsrc : SrcAt w B g) (k : Nat) (id lo hi : Int) (k1 : 1 ≤ k) (k2 : k ≤ 12) (i1 : 1 ≤ id) (i2 : id ≤ 100000) (l0 : 0 ≤ lo) (l1 : lo ≤ hi) (l2 : hi ≤ 65535) :
    Calls Tryz.prog 59 #[.pointer (some ⟨g, 0, none⟩), .int .i64 (k : Int), .int .i64 id, .int .i64 lo, .int .i64 hi] w (SrShard B g w) := by
  have H := Lib.hid hsrc
  have HG0 := Lib.hid (show g < w.heap.size ∧ B ≤ g from ⟨hsrc.2.1, hsrc.1⟩)
  have R0 := Lib.hid (SB8.zero w 37)
  have G0 := Lib.hid (only_alloc (World.grownBy.refl w (some g)) (.cells #[.bool false, .int .i64 0, .int .i64 0, .slice none 0 0, .int .i64 0, .int .i64 0, .slice none 0 0, .slice none 0 0] 37))
  have S0 := Lib.hid (hsrc.alloc (.cells #[.bool false, .int .i64 0, .int .i64 0, .slice none 0 0, .int .i64 0, .int .i64 0, .slice none 0 0, .slice none 0 0] 37))
  clear hsrc
  go_enter Tryz.func59, Tryz.ntmps59
  go_wp2_with fail
  obtain ⟨r, hr⟩ : ∃ r, r = w.heap.size := ⟨_, rfl⟩
  have HRW := Lib.hid (show w.heap.size ≤ r ∧ ¬ r = g ∧ B ≤ r ∧ g < r by have := HG0.out; omega)
  rw [← hr]
  rw [← hr] at R0
  clear hr
  generalize (w.alloc (.cells #[.bool false, .int .i64 0, .int .i64 0, .slice none 0 0, .int .i64 0, .int .i64 0, .slice none 0 0, .slice none 0 0] 37)) = w1 at *
  refine (n_any B g _ S0.out 12 (by omega) (by omega)).mono ?_
  rintro e w2 ⟨x, rfl, x0, x1, hs, hg⟩
  have S1 := Lib.hid hs
  have R1 := Lib.hid (R0.out.grownG hg HRW.out.2.1)
  have G1 := Lib.hid (G0.out.trans hg)
  clear hs hg
  by_cases hx : x = 11
  · subst hx
    obtain ⟨S, hS⟩ : ∃ S, S = frS k := ⟨_, rfl⟩
    have HSS := Lib.hid (show SrSh S from .inr ⟨k, k1, k2, hS⟩)
    have HFR := Lib.hid (fun W => rfree_any k W k1 k2)
    rw [← hS] at HFR
    clear hS
    go_wp2_with fail
    refine (HFR.out _).mono ?_
    rintro e w4 ⟨D, rfl, hn, hr, hb⟩
    have R4 := Lib.hid (R1.out.up hb)
    have N4 := Lib.hid (show D.nw (r + 1) from hn.low R1.out.lt)
    have HF := Lib.hid (show SrShard B g w (.returned (sv S D)) ((((((((((w4.setCell ⟨r, 0, none⟩ (.bool S.lv)).setCell ⟨r, 1, none⟩ (.int .i64 S.lo)).setCell ⟨r, 2, none⟩ (.int .i64 S.hi)).setCell ⟨r, 3, none⟩ (.slice D.A S.cs.length D.c)).setCell ⟨r, 4, none⟩ (.int .i64 S.hd)).setCell ⟨r, 5, none⟩ (.int .i64 S.sz)).setCell ⟨r, 6, none⟩ (.slice D.A2 S.l.length D.c2)).setCell ⟨r, 7, none⟩ (.slice D.A3 S.h.length D.c3))).alloc (.cells #[.bool S.lv, .int .i64 S.lo, .int .i64 S.hi, .slice D.A S.cs.length D.c, .int .i64 S.hd, .int .i64 S.sz, .slice D.A2 S.l.length D.c2, .slice D.A3 S.h.length D.c3] 37)) from
      ⟨S, D, rfl, HSS.out, N4.out.low (by have := HRW.out; omega), (SR.sets (N4.out.off (Nat.lt_succ_self r)) (S.l8 D) 0 w4 hr).up ((Below.refl _ _).alloc (Nat.le_refl _) _), ((S1.out.below hb).sets8 HRW.out.2.1 HRW.out.2.2.1 S D).alloc _, only_alloc (only_sets8 (only_below G1.out hb) HRW.out.1 S D) _⟩)
    clear hn hr hb
    obtain ⟨⟨r0, r1, r2, r3, r4, r5, r6, r7, rl⟩, ⟨g0, g1, g2, g3, g4, g5, g6, g7⟩⟩ := R4.out.all
    go_wp2
    exact bodyPost_ret (v := sv S D) (by simp only [results, Tryz.results59]; go_simp <;> rfl) rfl HF.out
  · have hxb : (x == 11) = false := beq_eq_false_iff_ne.2 hx
    have HRG := Lib.hid (fun W (q : SrcAt W B g) => ringofR_any B g W q k 6 id lo hi k1 k2 (by omega) (by omega) i1 (by omega) l0 l1 l2)
    have HTB := Lib.hid (fun n (n0 : 0 ≤ n) (n1 : n ≤ 12) W (q : SrcAt W B g) => tableR_any B g W q n (id + 10) lo hi n0 n1 (by omega) (by omega) l0 l1 l2)
    have HOK := Lib.hid (fun hd L l h a b c d e f g => base_ok (lo := lo) (hi := hi) (id := id) (k := k) (hd := hd) (L := L) (l := l) (h := h) k1 k2 a l0 l1 l2 b c d e f g)
    have hw10 : wrap64 (id + 10) = id + 10 := IntWalk.wrap64_in _ (by omega)
    clear hx x0 x1
    go_wp2_with fail
    refine (HRG.out _ S1.out).mono ?_
    rintro e w3 ⟨A, c, hd, L, rfl, hnw, hl, hhd, hlk, hl6, hgd, hids, hs, hg⟩
    have S3 := Lib.hid (hs.alloc (.cells #[.bool true, .int .i64 lo, .int .i64 hi, .slice A k c, .int .i64 hd, .int .i64 L.length, .slice none 0 0, .slice none 0 0] 37))
    have R3 := Lib.hid ((R1.out.grownG hg HRW.out.2.1).up ((Below.refl _ _).alloc (Nat.le_refl _) (.cells #[.bool true, .int .i64 lo, .int .i64 hi, .slice A k c, .int .i64 hd, .int .i64 L.length, .slice none 0 0, .slice none 0 0] 37)))
    have G3 := Lib.hid (only_alloc (G1.out.trans hg) (.cells #[.bool true, .int .i64 lo, .int .i64 hi, .slice A k c, .int .i64 hd, .int .i64 L.length, .slice none 0 0, .slice none 0 0] 37))
    have N3 := Lib.hid (show Nw (r + 1) A from nw_low hnw R1.out.lt)
    have HCL := Lib.hid (show k = (fil k hd L).length by rw [fil_len])
    have L3 := Lib.hid (hl.up ((Below.refl _ _).alloc (Nat.le_refl _) (.cells #[.bool true, .int .i64 lo, .int .i64 hi, .slice A k c, .int .i64 hd, .int .i64 L.length, .slice none 0 0, .slice none 0 0] 37)))
    have O3 := Lib.hid (show OffB w3.heap.size k A from rd_off hl.rd (Nat.le_refl _))
    have HII := Lib.hid (And.intro hhd (And.intro hl6 (And.intro hgd hids)))
    have HQ := Lib.hid (show r < w3.heap.size ∧ g < w3.heap.size from ⟨Nat.lt_of_lt_of_le R1.out.lt hg.size, hs.2.1⟩)
    have hwk : wrap64 ((k : Int) - (L.length : Int)) = (k : Int) - (L.length : Int) := IntWalk.wrap64_in _ (by omega)
    have hmn0 : 0 ≤ min 4 ((k : Int) - (L.length : Int)) := by omega
    have hmn1 : min 4 ((k : Int) - (L.length : Int)) ≤ 12 := by omega
    have HTB' := Lib.hid (HTB.out _ hmn0 hmn1)
    have HMN := Lib.hid (show min 4 ((k : Int) - (L.length : Int)) ≤ (k : Int) - (L.length : Int) by omega)
    clear hs hg hnw hl hhd hlk hl6 hgd hids hmn0 hmn1
    go_wp2_with fail
    obtain ⟨q, hq⟩ : ∃ q, q = w3.heap.size := ⟨_, rfl⟩
    have HQQ := Lib.hid (show ¬ q = g ∧ ¬ q = r ∧ ¬ r = q ∧ r < q ∧ B ≤ q by have h1 := HQ.out; have h2 := HRW.out; omega)
    have hqa : q < (w3.alloc (.cells #[.bool true, .int .i64 lo, .int .i64 hi, .slice A k c, .int .i64 hd, .int .i64 L.length, .slice none 0 0, .slice none 0 0] 37)).heap.size := by rw [hq]; simp
    have q3c : (w3.alloc (.cells #[.bool true, .int .i64 lo, .int .i64 hi, .slice A k c, .int .i64 hd, .int .i64 L.length, .slice none 0 0, .slice none 0 0] 37)).cell? ⟨q, 3, none⟩ = some (.slice A k c) := by rw [hq]; simp [go_sem]
    have HQ8 := Lib.hid (show SB8 (w3.alloc (.cells #[.bool true, .int .i64 lo, .int .i64 hi, .slice A k c, .int .i64 hd, .int .i64 L.length, .slice none 0 0, .slice none 0 0] 37)) q ⟨true, lo, hi, fil k hd L, hd, L.length, [], []⟩ ⟨A, c, none, 0, none, 0⟩ from by
      have h := SB8.start w3 ⟨true, lo, hi, fil k hd L, hd, L.length, [], []⟩ ⟨A, c, none, 0, none, 0⟩ 37
      rw [← hq] at h
      simp only [fil_len] at h
      exact h)
    rw [← hq] at O3 ⊢
    clear hq q3c hqa
    generalize w3.alloc (.cells #[.bool true, .int .i64 lo, .int .i64 hi, .slice A k c, .int .i64 hd, .int .i64 L.length, .slice none 0 0, .slice none 0 0] 37) = w4 at *
    refine (HTB'.out _ S3.out).mono ?_
    rintro e w5 ⟨A2, c2, A3, c3, l, h, rfl, ht, hln, hin, hn2, hn3, he2, hd3, hs, hg⟩
    have S5 := Lib.hid hs
    have R5 := Lib.hid (R3.out.grownG hg HRW.out.2.1)
    have Q5 := Lib.hid (HQ8.out.grownG hg HQQ.out.1)
    have G5 := Lib.hid (G3.out.trans hg)
    have V5 := Lib.hid (HOK.out hd L l h HII.out.1 HII.out.2.1 (by have := HMN.out; omega) HII.out.2.2.1 ht HII.out.2.2.2 hin)
    have L5 := Lib.hid ((Ls.grownR L3.out (Nat.le_refl _) hg (fun x e => by injection e with e; subst e; exact offb_nw N3.out (by have := HRW.out; omega))).more hg.size)
    have N5 := Lib.hid (show Nw (q + 1) A2 ∧ Nw (q + 1) A3 from ⟨nw_low hn2 HQ8.out.lt, nw_low hn3 HQ8.out.lt⟩)
    have D5 := Lib.hid (And.intro he2 hd3)
    clear ht hln hin hn2 hn3 he2 hd3 hs hg
    have HF := Lib.hid (show SrShard B g w (.returned (.agg #[.bool true, .int .i64 lo, .int .i64 hi, .slice A k c, .int .i64 hd, .int .i64 L.length, .slice A2 l.length c2, .slice A3 h.length c3])) (((((((((((w5.setCell ⟨q, 6, none⟩ (.slice A2 l.length c2)).setCell ⟨q, 7, none⟩ (.slice A3 h.length c3)).setCell ⟨r, 0, none⟩ (.bool true)).setCell ⟨r, 1, none⟩ (.int .i64 lo)).setCell ⟨r, 2, none⟩ (.int .i64 hi)).setCell ⟨r, 3, none⟩ (.slice A k c)).setCell ⟨r, 4, none⟩ (.int .i64 hd)).setCell ⟨r, 5, none⟩ (.int .i64 L.length)).setCell ⟨r, 6, none⟩ (.slice A2 l.length c2)).setCell ⟨r, 7, none⟩ (.slice A3 h.length c3))) from by
      have hne := HRW.out
      have hqq := HQQ.out
      have hsl : (⟨lo, hi, k, hd, L, l, h⟩ : Vs).sh = ⟨true, lo, hi, fil k hd L, hd, L.length, l, h⟩ := rfl
      have hrr : SR ((w5.setCell ⟨q, 6, none⟩ (.slice A2 l.length c2)).setCell ⟨q, 7, none⟩ (.slice A3 h.length c3)) (((w5.setCell ⟨q, 6, none⟩ (.slice A2 l.length c2)).setCell ⟨q, 7, none⟩ (.slice A3 h.length c3))).heap.size ⟨true, lo, hi, fil k hd L, hd, L.length, l, h⟩ ⟨A, c, A2, c2, A3, c3⟩ :=
        ⟨by show Ls _ _ (.slice A (fil k hd L).length c) _; rw [fil_len]; exact ((L5.out.offp (p := ⟨q, 6, none⟩) O3.out _).offp (p := ⟨q, 7, none⟩) O3.out _).more (by simp),
         ((D5.out.1.offp (p := ⟨q, 6, none⟩) (offb_nw N5.out.1 (Nat.lt_succ_self q)) _).offp (p := ⟨q, 7, none⟩) (offb_nw N5.out.1 (Nat.lt_succ_self q)) _).more (by simp),
         ((D5.out.2.offp (p := ⟨q, 6, none⟩) (offb_nw N5.out.2 (Nat.lt_succ_self q)) _).offp (p := ⟨q, 7, none⟩) (offb_nw N5.out.2 (Nat.lt_succ_self q)) _).more (by simp)⟩
      have hs5 := (S5.out.other (p := ⟨q, 6, none⟩) (show q ≠ g by omega) (show B ≤ q by omega) (.slice A2 l.length c2)).other (p := ⟨q, 7, none⟩) (show q ≠ g by omega) (show B ≤ q by omega) (.slice A3 h.length c3)
      have hg5 := only_set (only_set G5.out (p := ⟨q, 6, none⟩) (.inr (show w.heap.size ≤ q by omega)) (.slice A2 l.length c2)) (p := ⟨q, 7, none⟩) (.inr (show w.heap.size ≤ q by omega)) (.slice A3 h.length c3)
      have hfin : SrShard B g w (.returned (.agg #[.bool true, .int .i64 lo, .int .i64 hi, .slice A (fil k hd L).length c, .int .i64 hd, .int .i64 L.length, .slice A2 l.length c2, .slice A3 h.length c3])) ((((((((((w5.setCell ⟨q, 6, none⟩ (.slice A2 l.length c2)).setCell ⟨q, 7, none⟩ (.slice A3 h.length c3)).setCell ⟨r, 0, none⟩ (.bool true)).setCell ⟨r, 1, none⟩ (.int .i64 lo)).setCell ⟨r, 2, none⟩ (.int .i64 hi)).setCell ⟨r, 3, none⟩ (.slice A (fil k hd L).length c)).setCell ⟨r, 4, none⟩ (.int .i64 hd)).setCell ⟨r, 5, none⟩ (.int .i64 L.length)).setCell ⟨r, 6, none⟩ (.slice A2 l.length c2)).setCell ⟨r, 7, none⟩ (.slice A3 h.length c3)) :=
        ⟨⟨true, lo, hi, fil k hd L, hd, L.length, l, h⟩, ⟨A, c, A2, c2, A3, c3⟩, rfl, .inl ⟨_, V5.out, hsl.symm⟩, ⟨nw_low N3.out (by omega), nw_low N5.out.1 (by omega), nw_low N5.out.2 (by omega)⟩,
          SR.sets ⟨offb_nw N3.out (Nat.lt_succ_self r), offb_nw (nw_low N5.out.1 (show r + 1 ≤ q + 1 by omega)) (Nat.lt_succ_self r), offb_nw (nw_low N5.out.2 (show r + 1 ≤ q + 1 by omega)) (Nat.lt_succ_self r)⟩ (Sh.l8 ⟨true, lo, hi, fil k hd L, hd, L.length, l, h⟩ ⟨A, c, A2, c2, A3, c3⟩) 0 _ hrr,
          hs5.sets8 hne.2.1 hne.2.2.1 ⟨true, lo, hi, fil k hd L, hd, L.length, l, h⟩ ⟨A, c, A2, c2, A3, c3⟩, only_sets8 hg5 hne.1 ⟨true, lo, hi, fil k hd L, hd, L.length, l, h⟩ ⟨A, c, A2, c2, A3, c3⟩⟩
      rw [fil_len] at hfin
      exact hfin)
    obtain ⟨⟨t0, t1, t2, t3, t4, t5, t6, t7, tl⟩, ⟨f0, f1, f2, f3, f4, f5, f6, f7⟩⟩ := Q5.out.all
    simp only [fil_len] at t3
    obtain ⟨⟨r0, r1, r2, r3, r4, r5, r6, r7, rl⟩, ⟨g0, g1, g2, g3, g4, g5, g6, g7⟩⟩ := R5.out.all
    obtain ⟨-, hqr, hrq, -, -⟩ := HQQ.out
    clear hwk hw10
    go_wp2
    exact bodyPost_ret (v := .agg #[.bool true, .int .i64 lo, .int .i64 hi, .slice A k c, .int .i64 hd, .int .i64 L.length, .slice A2 l.length c2, .slice A3 h.length c3]) (by simp only [results, Tryz.results59]; go_simp <;> rfl) rfl HF.out
end Go.Proofs.YtdilgeabcacbdaaGreat
namespace Go.Proofs.YtdilgeabcacbdaaGreat
open Go.RowKit
set_option linter.unusedVariables false

theorem srs_out {B g r : Nat} {w W1 W : World} {S : Sh} {D : Sx} (hS : SrSh S) (hn : D.nw W1.heap.size) (hr1 : r < W1.heap.size) (hr : SR W W.heap.size S D) (hs : SrcAt W B g) (hg : w.grownBy W (some g)) (hw : w.heap.size ≤ r) (hrg : ¬ r = g) (hB : B ≤ r) : SrShard B g w (.returned (sv S D)) (set8s W r S D) :=
  ⟨S, D, rfl, hS, hn.low (by omega), SR.sets (hn.off hr1) (S.l8 D) 0 W hr, hs.sets8 hrg hB S D, only_sets8 hg hw S D⟩
set_option maxHeartbeats 4000000 in
set_option maxRecDepth 20000 in
theorem from_any (B g : Nat) (w : World) (hsrc : SrcAt w B g) (id lo hi : Int) (i1 : 1 ≤ id) (i2 : id ≤ 100000) (l0 : 0 ≤ lo) (l1 : lo ≤ hi) (l2 : hi ≤ 65535) :
    Calls Tryz.prog 43 #[.pointer (some ⟨g, 0, none⟩), .int .i64 id, .int .i64 lo, .int .i64 hi] w (SrShard B g w) := by
  have HG0 := Lib.hid (show g < w.heap.size ∧ B ≤ g from ⟨hsrc.2.1, hsrc.1⟩)
  have R0 := Lib.hid (SB8.zero w 37)
  have G0 := Lib.hid (only_alloc (World.grownBy.refl w (some g)) (.cells #[.bool false, .int .i64 0, .int .i64 0, .slice none 0 0, .int .i64 0, .int .i64 0, .slice none 0 0, .slice none 0 0] 37))
  have S0 := Lib.hid (hsrc.alloc (.cells #[.bool false, .int .i64 0, .int .i64 0, .slice none 0 0, .int .i64 0, .int .i64 0, .slice none 0 0, .slice none 0 0] 37))
  have HFO := Lib.hid (fun k (k1 : 1 ≤ k) (k2 : k ≤ 12) W (q : SrcAt W B g) => fromof_any B g W q k id lo hi k1 k2 i1 i2 l0 l1 l2)
  clear hsrc
  go_enter Tryz.func43, Tryz.ntmps43
  go_wp2_with fail
  obtain ⟨r, hr⟩ : ∃ r, r = w.heap.size := ⟨_, rfl⟩
  have HRW := Lib.hid (show w.heap.size ≤ r ∧ ¬ r = g ∧ B ≤ r by have := HG0.out; omega)
  rw [← hr]
  rw [← hr] at R0
  clear hr
  generalize (w.alloc (.cells #[.bool false, .int .i64 0, .int .i64 0, .slice none 0 0, .int .i64 0, .int .i64 0, .slice none 0 0, .slice none 0 0] 37)) = w1 at *
  refine (range_any B g _ S0.out 1 12 (by omega) (by omega) (by omega)).mono ?_
  rintro e w2 ⟨x, rfl, x0, x1, hs, hg⟩
  obtain ⟨k, rfl⟩ := Int.eq_ofNat_of_zero_le (show 0 ≤ x by omega)
  have S1 := Lib.hid hs
  have R1 := Lib.hid (R0.out.grownG hg HRW.out.2.1)
  have G1 := Lib.hid (G0.out.trans hg)
  have HF1 := Lib.hid (HFO.out k (by omega) (by omega) w2 hs)
  clear hs hg
  go_wp2_with fail
  refine HF1.out.mono ?_
  rintro e w3 ⟨S, D, rfl, hS, hn, hr, hs, hg⟩
  have R2 := Lib.hid (R1.out.grownG hg HRW.out.2.1)
  have HF := Lib.hid (srs_out hS hn R1.out.lt hr hs (G1.out.trans hg) HRW.out.1 HRW.out.2.1 HRW.out.2.2)
  clear hS hn hr hs hg
  obtain ⟨⟨r0, r1, r2, r3, r4, r5, r6, r7, rl⟩, ⟨g0, g1, g2, g3, g4, g5, g6, g7⟩⟩ := R2.out.all
  go_wp2
  exact bodyPost_ret (v := sv S D) (by simp only [results, Tryz.results43]; go_simp <;> rfl) rfl HF.out
set_option maxHeartbeats 4000000 in
set_option maxRecDepth 20000 in
theorem between_any (B g : Nat) (w : World) (hsrc : SrcAt w B g) (lo hi : Int) (l0 : 0 ≤ lo) (l1 : lo ≤ hi) (l2 : hi ≤ 65535) :
    Calls Tryz.prog 26 #[.pointer (some ⟨g, 0, none⟩), .int .i64 lo, .int .i64 hi] w (SrShard B g w) := by
  have HG0 := Lib.hid (show g < w.heap.size ∧ B ≤ g from ⟨hsrc.2.1, hsrc.1⟩)
  have R0 := Lib.hid (SB8.zero w 37)
  have G0 := Lib.hid (only_alloc (World.grownBy.refl w (some g)) (.cells #[.bool false, .int .i64 0, .int .i64 0, .slice none 0 0, .int .i64 0, .int .i64 0, .slice none 0 0, .slice none 0 0] 37))
  have S0 := Lib.hid (hsrc.alloc (.cells #[.bool false, .int .i64 0, .int .i64 0, .slice none 0 0, .int .i64 0, .int .i64 0, .slice none 0 0, .slice none 0 0] 37))
  have HFO := Lib.hid (fun W (q : SrcAt W B g) => from_any B g W q 1 lo hi (by omega) (by omega) l0 l1 l2)
  clear hsrc
  go_enter Tryz.func26, Tryz.ntmps26
  go_wp2_with fail
  obtain ⟨r, hr⟩ : ∃ r, r = w.heap.size := ⟨_, rfl⟩
  have HRW := Lib.hid (show w.heap.size ≤ r ∧ ¬ r = g ∧ B ≤ r by have := HG0.out; omega)
  rw [← hr]
  rw [← hr] at R0
  clear hr
  generalize (w.alloc (.cells #[.bool false, .int .i64 0, .int .i64 0, .slice none 0 0, .int .i64 0, .int .i64 0, .slice none 0 0, .slice none 0 0] 37)) = w1 at *
  refine (HFO.out _ S0.out).mono ?_
  rintro e w3 ⟨S, D, rfl, hS, hn, hr, hs, hg⟩
  have R2 := Lib.hid (R0.out.grownG hg HRW.out.2.1)
  have HF := Lib.hid (srs_out hS hn R0.out.lt hr hs (G0.out.trans hg) HRW.out.1 HRW.out.2.1 HRW.out.2.2)
  clear hS hn hr hs hg
  obtain ⟨⟨r0, r1, r2, r3, r4, r5, r6, r7, rl⟩, ⟨g0, g1, g2, g3, g4, g5, g6, g7⟩⟩ := R2.out.all
  go_wp2
  exact bodyPost_ret (v := sv S D) (by simp only [results, Tryz.results26]; go_simp <;> rfl) rfl HF.out
/-- A span of routes. -/
def SrSpan (B g : Nat) (w : World) (e : Ending) (w' : World) : Prop := ∃ lo hi, e = .returned (.tuple #[.int .i64 lo, .int .i64 hi]) ∧ 0 ≤ lo ∧ lo ≤ hi ∧ hi ≤ 65535 ∧ SrcAt w' B g ∧ w.grownBy w' (some g)
theorem row5 (w : World) (a b c d e : Int) (t : TypeId) : ∀ j (hj : j < [a, b, c, d, e].length), (w.alloc (.cells #[.int .i64 a, .int .i64 b, .int .i64 c, .int .i64 d, .int .i64 e] t)).cell? ⟨w.heap.size, j, none⟩ = some (.int .i64 [a, b, c, d, e][j]) := by
  intro j hj
  have h5 : j < 5 := hj
  match j, h5 with
  | 0, _ => simp [go_sem]
  | 1, _ => simp [go_sem]
  | 2, _ => simp [go_sem]
  | 3, _ => simp [go_sem]
  | 4, _ => simp [go_sem]
set_option maxHeartbeats 4000000 in
set_option maxRecDepth 20000 in
theorem span_any (B g : Nat) (w : World) (hsrc : SrcAt w B g) :
    Calls Tryz.prog 25 #[.pointer (some ⟨g, 0, none⟩)] w (SrSpan B g w) := by
  have HG0 := Lib.hid (show g < w.heap.size ∧ B ≤ g from ⟨hsrc.2.1, hsrc.1⟩)
  have P0 := Lib.hid (pick_any B g (w.alloc (.cells #[.int .i64 0, .int .i64 0, .int .i64 100, .int .i64 32768, .int .i64 65535] 3)) (hsrc.alloc (.cells #[.int .i64 0, .int .i64 0, .int .i64 100, .int .i64 32768, .int .i64 65535] 3)) w.heap.size 5 [0, 0, 100, 32768, 65535] rfl (by simp) (by have := HG0.out; omega) (by omega) (by omega) (row5 w 0 0 100 32768 65535 3))
  have G0 := Lib.hid (only_alloc (World.grownBy.refl w (some g)) (.cells #[.int .i64 0, .int .i64 0, .int .i64 100, .int .i64 32768, .int .i64 65535] 3))
  clear hsrc
  go_enter Tryz.func25, Tryz.ntmps25
  go_wp2_with fail
  refine P0.out.mono ?_
  rintro e w2 ⟨x, rfl, hx, hs, hg⟩
  have HX := Lib.hid (show 0 ≤ x ∧ x ≤ 65535 by simp at hx; omega)
  have P1 := Lib.hid (pick_any B g (w2.alloc (.cells #[.int .i64 65535, .int .i64 65535, .int .i64 40000, .int .i64 101, .int .i64 32768] 3)) (hs.alloc (.cells #[.int .i64 65535, .int .i64 65535, .int .i64 40000, .int .i64 101, .int .i64 32768] 3)) w2.heap.size 5 [65535, 65535, 40000, 101, 32768] rfl (by simp) (by have := hs.2.1; omega) (by omega) (by omega) (row5 w2 65535 65535 40000 101 32768 3))
  have G1 := Lib.hid (only_alloc (G0.out.trans hg) (.cells #[.int .i64 65535, .int .i64 65535, .int .i64 40000, .int .i64 101, .int .i64 32768] 3))
  clear hx hs hg
  go_wp2_with fail
  refine P1.out.mono ?_
  rintro e w3 ⟨y, rfl, hy, hs, hg⟩
  have HF := Lib.hid (show SrSpan B g w (.returned (.tuple #[.int .i64 (min x y), .int .i64 (max x y)])) w3 from
    ⟨_, _, rfl, by have := HX.out; simp at hy; omega, by omega, by have := HX.out; simp at hy; omega, hs, G1.out.trans hg⟩)
  clear hy hs hg
  go_wp2
  exact bodyPost_ret (v := .tuple #[.int .i64 (min x y), .int .i64 (max x y)]) (by simp only [results, Tryz.results25]; go_simp <;> rfl) rfl HF.out
set_option maxHeartbeats 4000000 in
set_option maxRecDepth 20000 in
theorem shard_any (B g : Nat) (w : World) (hsrc : SrcAt w B g) :
    Calls Tryz.prog 9 #[.pointer (some ⟨g, 0, none⟩)] w (SrShard B g w) := by
  have HG0 := Lib.hid (show g < w.heap.size ∧ B ≤ g from ⟨hsrc.2.1, hsrc.1⟩)
  have R0 := Lib.hid (SB8.zero w 37)
  have G0 := Lib.hid (only_alloc (World.grownBy.refl w (some g)) (.cells #[.bool false, .int .i64 0, .int .i64 0, .slice none 0 0, .int .i64 0, .int .i64 0, .slice none 0 0, .slice none 0 0] 37))
  have S0 := Lib.hid (hsrc.alloc (.cells #[.bool false, .int .i64 0, .int .i64 0, .slice none 0 0, .int .i64 0, .int .i64 0, .slice none 0 0, .slice none 0 0] 37))
  clear hsrc
  go_enter Tryz.func9, Tryz.ntmps9
  go_wp2_with fail
  obtain ⟨r, hr⟩ : ∃ r, r = w.heap.size := ⟨_, rfl⟩
  have HRW := Lib.hid (show w.heap.size ≤ r ∧ ¬ r = g ∧ B ≤ r by have := HG0.out; omega)
  rw [← hr]
  rw [← hr] at R0
  clear hr
  generalize (w.alloc (.cells #[.bool false, .int .i64 0, .int .i64 0, .slice none 0 0, .int .i64 0, .int .i64 0, .slice none 0 0, .slice none 0 0] 37)) = w1 at *
  refine (span_any B g _ S0.out).mono ?_
  rintro e w2 ⟨lo, hi, rfl, l0, l1, l2, hs, hg⟩
  have R1 := Lib.hid (R0.out.grownG hg HRW.out.2.1)
  have G1 := Lib.hid (G0.out.trans hg)
  have HB := Lib.hid (between_any B g _ hs lo hi l0 l1 l2)
  clear hs hg l0 l1 l2
  go_wp2_with fail
  refine HB.out.mono ?_
  rintro e w3 ⟨S, D, rfl, hS, hn, hr, hs, hg⟩
  have R2 := Lib.hid (R1.out.grownG hg HRW.out.2.1)
  have HF := Lib.hid (srs_out hS hn R1.out.lt hr hs (G1.out.trans hg) HRW.out.1 HRW.out.2.1 HRW.out.2.2)
  clear hS hn hr hs hg
  obtain ⟨⟨r0, r1, r2, r3, r4, r5, r6, r7, rl⟩, ⟨g0, g1, g2, g3, g4, g5, g6, g7⟩⟩ := R2.out.all
  go_wp2
  exact bodyPost_ret (v := sv S D) (by simp only [results, Tryz.results9]; go_simp <;> rfl) rfl HF.out
end Go.Proofs.YtdilgeabcacbdaaGreat
