/- What is proved here: the sanity check at the end of the statements about rings is true; shardqueueref04.PopFront by a contract; shardqueueref04.PopBack by a contract. -/
import Derived.Test.YtiklkagkmcapnaaJ11
import Derived.Test.YtiklkagkmcapnaaJ20
import Derived.Test.YtiklkagkmcapnaaJ12
namespace Go.Proofs.Ytiklkagkmcapnaa
open Go.RowKit
set_option linter.unusedVariables false

def oneM : Msg := ⟨1, 0, 0, 0, 0, 0, ByteArray.empty⟩
theorem aw_new : nwC 3 = fil 3 0 [] ∧ nwE 3 = 0 := nwC_fil (k := 3) (by omega) (by omega) 0 (by omega)
theorem aw_vf : vf oneM = 0 := by decide
theorem aw_push : puE (fil 3 0 []) 0 0 oneM = 0 ∧ pfC (fil 3 0 []) 0 0 oneM = fil 3 2 [oneM] ∧ pfH (fil 3 0 []) 0 0 oneM = 2 :=
  ⟨puE_fil (n := 3) (hd := 0) (l := []) (by omega) (by omega) (by omega) (by simp) gd_nil aw_vf (by simp), pfC_fil (n := 3) (hd := 0) (l := []) (by omega) (by omega) (by omega) (by simp) gd_nil aw_vf (by simp)⟩
theorem aw_list : lsF (fil 3 2 [oneM]) 2 1 = [oneM] := lsF_fil (n := 3) (hd := 2) (l := [oneM]) (by omega) (by omega) (by omega) (by simp) (gd_front gd_nil aw_vf (by simp))

set_option maxHeartbeats 4000000 in
theorem awake4_any (w : World) : Calls Try.prog 12 #[] w fun e w' => e = .returned (.bool true) ∧ Below w.heap.size w w' := by
  obtain ⟨hn, he⟩ := aw_new
  obtain ⟨hp0, hp1, hp2⟩ := aw_push
  have HN := Lib.hid (show Calls Try.prog 8 #[.int .i64 3] w (RP w (fil 3 0 []) 0 0 0) by rw [← hn]; have := gnew_any 3 w; rw [he] at this; exact this)
  have HP := Lib.hid (fun A c w1 (h : Ls w1 w1.heap.size (.slice A 3 c) (fil 3 0 [])) => (show Calls Try.prog 21 #[.agg #[.slice A 3 c, .int .i64 0, .int .i64 0], oneM.v] w1 (RP w1 (fil 3 2 [oneM]) 2 1 0) by
    have := pfront_any A 3 c (fil 3 0 []) 0 0 oneM w1 h
    rw [hp0, hp1, hp2, show ifE 0 ((0 : Int) + 1) = 1 from rfl] at this
    exact this))
  have HL := Lib.hid (fun A c w1 (h : Ls w1 w1.heap.size (.slice A 3 c) (fil 3 2 [oneM])) => (show Calls Try.prog 25 #[.agg #[.slice A 3 c, .int .i64 2, .int .i64 1]] w1 (LsP [oneM] w1) by
    have := glist_any A 3 c (fil 3 2 [oneM]) 2 1 w1 h
    rw [aw_list] at this
    exact this))
  have HF0 := Lib.hid (fil_len 3 0 [])
  have HF2 := Lib.hid (fil_len 3 2 [oneM])
  have HB0 := Lib.hid (Below.refl w.heap.size w)
  clear hn he hp0 hp1 hp2
  generalize fil 3 0 [] = c0 at *
  generalize fil 3 2 [oneM] = c2 at *
  go_enter Try.func12, Try.ntmps12
  go_wp2_with fail
  refine HN.out.mono ?_
  rintro e w1 ⟨A1, k1, rfl, hnw, hl, hb⟩
  rw [HF0.out] at hl ⊢
  have HL1 := Lib.hid hl
  have HB1 := Lib.hid (HB0.out.trans hb)
  have HR1 := Lib.hid (RB.fresh w1 A1 3 k1 0 0 24)
  clear hnw hl hb
  go_wp2_with fail
  refine (HP.out A1 k1 _ ((HL1.out.alloc (Nat.le_refl _) _).more (by simp))).mono ?_
  rintro e w2 ⟨A2, k2, rfl, hnw, hl, hb⟩
  rw [HF2.out] at hl ⊢
  have HB2 := Lib.hid ((HB1.out.alloc HB1.out.size (.cells #[.slice A1 3 k1, .int .i64 0, .int .i64 0] 24)).trans (hb.mono (by have := HB1.out.size; simp; omega)))
  have HR2 := Lib.hid (HR1.out.below hb (by simp))
  have HRL := Lib.hid (show w.heap.size ≤ w1.heap.size from HB1.out.size)
  have hplt : w1.heap.size < (w1.alloc (.cells #[.slice A1 3 k1, .int .i64 0, .int .i64 0] 24)).heap.size := by simp
  have HL2 := Lib.hid (((hl.off hnw (p := ⟨w1.heap.size, 0, none⟩) hplt (.slice A2 3 k2)).off hnw (p := ⟨w1.heap.size, 1, none⟩) hplt (.int .i64 2)).off hnw (p := ⟨w1.heap.size, 2, none⟩) hplt (.int .i64 1))
  obtain ⟨p, hp⟩ : ∃ p, p = w1.heap.size := ⟨_, rfl⟩
  rw [← hp] at HR2 HRL HL2 ⊢
  obtain ⟨r0, r1, r2, r3, r4, r5, hpl⟩ := HR2.out.facts
  have HB3 := Lib.hid (((HB2.out.setCell (p := ⟨p, 0, none⟩) HRL.out (.slice A2 3 k2)).setCell (p := ⟨p, 1, none⟩) HRL.out (.int .i64 2)).setCell (p := ⟨p, 2, none⟩) HRL.out (.int .i64 1))
  clear hnw hl hb hp hplt
  go_wp2_with fail
  refine (HL.out A2 k2 _ (HL2.out.more (by simp))).mono ?_
  rintro e w3 ⟨v, rfl, _, hl, hb⟩
  obtain ⟨A3, k3, rfl, _, _⟩ := hl.form
  have HB4 := Lib.hid (HB3.out.trans (hb.mono HB3.out.size))
  clear hl hb
  go_wp2
  go_ret
  exact ⟨rfl, HB4.out⟩
end Go.Proofs.Ytiklkagkmcapnaa
namespace Go.Proofs.Ytiklkagkmcapnaa
open Go.RowKit
set_option linter.unusedVariables false

theorem C7.set3 {W : World} {b m r : Nat} {M : Msg} (k : C7 W b m M) (hb : r ≠ b) (x y z : Value) : C7 (((W.setCell ⟨r, 0, none⟩ x).setCell ⟨r, 1, none⟩ y).setCell ⟨r, 2, none⟩ z) b m M := by
  have e : ∀ o, (((W.setCell ⟨r, 0, none⟩ x).setCell ⟨r, 1, none⟩ y).setCell ⟨r, 2, none⟩ z).cell? ⟨b, o, none⟩ = W.cell? ⟨b, o, none⟩ := fun o => ((World.cell?_setCell_other _ _ _ _ (fun e => hb (by injection e))).trans (World.cell?_setCell_other _ _ _ _ (fun e => hb (by injection e)))).trans (World.cell?_setCell_other _ _ _ _ (fun e => hb (by injection e)))
  obtain ⟨c0, c1, c2, c3, c4, c5, c6⟩ := k
  exact ⟨(e _).trans c0, (e _).trans c1, (e _).trans c2, (e _).trans c3, (e _).trans c4, (e _).trans c5, (e _).trans c6⟩
theorem sc2_of {W : World} {p n c b m : Nat} {A : Option Addr} {hd sz : Int} {M : Msg} (h : RB W p A n c hd sz) (k : C7 W b m M) : W.cell? ⟨p, 0, none⟩ = some (.slice A n c) ∧ W.cell? ⟨p, 1, none⟩ = some (.int .i64 hd) ∧ W.cell? ⟨p, 2, none⟩ = some (.int .i64 sz) ∧ W.cell? ⟨b, m, none⟩ = some (.int .i64 M.id) ∧ W.cell? ⟨b, m + 1, none⟩ = some (.int .i64 M.rt) ∧ W.cell? ⟨b, m + 2, none⟩ = some (.int .i64 M.ep) ∧ W.cell? ⟨b, m + 3, none⟩ = some (.int .i64 M.ct) ∧ W.cell? ⟨b, m + 4, none⟩ = some (.int .i64 M.gn) ∧ W.cell? ⟨b, m + 5, none⟩ = some (.int .i64 M.st) ∧ W.cell? ⟨b, m + 6, none⟩ = some (.string M.bd) := ⟨h.c0, h.c1, h.c2, k⟩

attribute [local go_sem ↓] Go.wp_at_zero Go.wp_at_succ
set_option maxHeartbeats 4000000 in
set_option maxRecDepth 20000 in
theorem rpfpop_any (A : Option Addr) (n c : Nat) (cs : List Msg) (hd sz : Int) (w : World) (hv : Ls w w.heap.size (.slice A n c) cs) :
    Calls Try.prog 36 #[.agg #[.slice A n c, .int .i64 hd, .int .i64 sz]] w (RMP w (qfC cs hd sz) (qfH cs hd sz) (ifE (poE cs hd sz) (sz - 1)) (qfM cs hd sz) (poE cs hd sz)) := by
  obtain ⟨rfl, _, _⟩ := hv.len
  have HV := Lib.hid hv
  have HP := Lib.hid (fun w1 (h : Ls w1 w1.heap.size (.slice A cs.length c) cs) => rvalid_any A cs.length c cs hd sz w1 h)
  clear hv
  by_cases h0 : poE cs hd sz = 0
  · have HC := Lib.hid (show qfC cs hd sz = fil cs.length ((hd.toNat + 1) % cs.length) ((ord cs hd.toNat sz.toNat).drop 1) from if_pos h0)
    have HE1 := Lib.hid (show qfH cs hd sz = (((hd.toNat + 1) % cs.length : Nat) : Int) from if_pos h0)
    have HE3 := Lib.hid (show qfM cs hd sz = cel cs hd.toNat 0 from if_pos h0)
    rw [h0]
    have HE2 := Lib.hid (show ifE 0 (sz - 1) = sz - 1 from if_pos rfl)
    obtain ⟨hg, hne⟩ := poE_zero h0
    rw [hg] at HP
    obtain ⟨hn, hz, _, _⟩ := rgV_zero hg
    obtain ⟨⟨n1, n2⟩, ⟨k1, k2⟩, ⟨s1, s2⟩⟩ := nm_of hn
    obtain ⟨hd, rfl⟩ := Int.eq_ofNat_of_zero_le k1
    obtain ⟨sz, rfl⟩ := Int.eq_ofNat_of_zero_le s1
    simp only [Int.toNat_natCast] at HC hz HE1 HE3
    obtain ⟨m, hm⟩ : ∃ m, m = (hd + 1) % cs.length := ⟨_, rfl⟩
    have hml : m < cs.length := by rw [hm]; exact Nat.mod_lt _ (by omega)
    have hmt : ((hd : Int) + 1).tmod (cs.length : Int) = (m : Int) := by
      rw [Int.tmod_eq_emod_of_nonneg (show 0 ≤ (hd : Int) + 1 by omega), hm]; simp
    have hw1 : IntKind.i64.wrap ((hd : Int) + 1) = (hd : Int) + 1 := IntWalk.i64_in _ (by omega)
    have hnl0 : ¬ (cs.length = 0) := by omega
    have hnil : ¬ (cs = []) := fun e => by rw [e] at n1; simp at n1
    have hsb : ((sz : Int) == 0) = false := beq_eq_false_iff_ne.2 hne
    have hsz0 : ¬ (sz = 0) := by omega
    rw [← hm] at HC HE1
    have HO := Lib.hid (fun w1 (h : Ls w1 w1.heap.size (.slice A cs.length c) cs) => rorder_any A cs.length c cs hd sz w1 h hn)
    have hol := ord_len cs hd sz
    have hl0 : 0 < (ord cs hd sz).length := by omega
    have HY := Lib.hid (fun (h : 0 < (ord cs hd sz).length) => (show (ord cs hd sz)[0] = qfM cs hd sz by rw [HE3.out, ord_at]))
    have HWI := Lib.hid (fun A' n' c' w1 (h : Ls w1 w1.heap.size (.slice A' n' c') ((ord cs hd sz).drop 1)) => with_any A cs.length c hd sz m A' n' c' ((ord cs hd sz).drop 1) w1 (by omega) (by omega) (by simp; omega) h)
    rw [← HC.out, show (((ord cs hd sz).drop 1).length : Int) = (sz : Int) - 1 by simp [hol]; omega] at HWI
    have hs12 : (sz : Int) ≤ 12 := by omega
    have HOL := Lib.hid hol
    have HLX := Lib.hid hl0
    clear h0 hg hne hn hz hm HC HE3 hl0 hol
    generalize ord cs hd sz = l at *
    generalize qfC cs hd sz = ds at *
    generalize qfH cs hd sz = hx' at *
    generalize qfM cs hd sz = X at *
    go_enter Try.func36, Try.ntmps36
    go_wp2_with fail
    have HS := Lib.hid (PoAt.start w A cs.length c hd sz 24 26)
    obtain ⟨p, hp⟩ : ∃ p, p = w.heap.size := ⟨_, rfl⟩
    obtain ⟨r, hr⟩ : ∃ r, r = w.heap.size + 1 := ⟨_, rfl⟩
    obtain ⟨s, hs⟩ : ∃ s, s = w.heap.size + 1 + 1 := ⟨_, rfl⟩
    rw [← hs, ← hr, ← hp] at HS ⊢
    clear hp hr hs
    refine (HP.out _ (HV.out.up HS.out.bel)).mono ?_
    rintro e w1 ⟨rfl, hb⟩
    have HS1 := Lib.hid (HS.out.below hb)
    obtain ⟨⟨r0, r1, r2, r3, r4, r5, hpl⟩, _, _⟩ := HS1.out.facts
    clear hb HS
    go_wp2_with fail
    refine (HO.out _ (HV.out.up HS1.out.bel)).mono ?_
    rintro e w3 ⟨v, rfl, hnv, hl, hb⟩
    obtain ⟨A3, c3, rfl, hc3, _⟩ := hl.form
    have HS3 := Lib.hid (HS1.out.below hb)
    have HN3 := Lib.hid (nwv_of hnv)
    obtain ⟨A4, hA4, hcut⟩ := run_lcut A3 l.length c3 .i64 1 (by have := HLX.out; omega)
    have HL4 := Lib.hid (hl.cut 1 (by have := HLX.out; omega))
    rw [← hA4] at HL4
    obtain ⟨b, o, rfl, hbb, hc7⟩ := hl.at_ HLX.out
    rw [HY.out HLX.out, Nat.zero_mul, Nat.add_zero] at hc7
    have HC7 := Lib.hid hc7
    have HBS := Lib.hid (show s < b from Nat.lt_of_lt_of_le HS1.out.ms.1 (HN3.out _ rfl))
    have HBL := Lib.hid hbb
    have hcut' : ∀ W, (Instr.slice 22 (.slice (some ⟨b, o, none⟩) l.length c3) (some (.int .i64 1)) none none).run Try.prog W = .ok (.slice A4 (l.length - 1) (c3 - 1)) W := hcut
    have hll : (0 : Int) < (l.length : Int) := by have := HLX.out; omega
    have hll2 : 0 < l.length := HLX.out
    clear hb hl hnv hA4 hcut hc7 hbb r0 r1 r2 r3 r4 r5 hpl hc3 HS1
    have HSA := Lib.hid (sc2_of HS3.out.rb.drew (C7.drew0 HC7.out))
    have HRP := Lib.hid (show r ≠ p by have := HS3.out.old; omega)
    have HSP := Lib.hid (show s ≠ p by have := HS3.out.old; omega)
    have HRB := Lib.hid (show r ≠ b by have := HS3.out.old; have := HBS.out; omega)
    have HBN := Lib.hid (show b ≠ s by have := HBS.out; omega)
    have hrs : r ≠ s := by have := HS3.out.old; omega
    have hsr : s ≠ r := fun e => hrs e.symm
    go_wp2
    go_region_held3 (fun W => W.cell? ⟨p, 0, none⟩ = some (.slice A cs.length c) ∧ W.cell? ⟨p, 1, none⟩ = some (.int .i64 hd) ∧ W.cell? ⟨p, 2, none⟩ = some (.int .i64 sz) ∧ W.cell? ⟨b, o, none⟩ = some (.int .i64 X.id) ∧ W.cell? ⟨b, o + 1, none⟩ = some (.int .i64 X.rt) ∧ W.cell? ⟨b, o + 2, none⟩ = some (.int .i64 X.ep) ∧ W.cell? ⟨b, o + 3, none⟩ = some (.int .i64 X.ct) ∧ W.cell? ⟨b, o + 4, none⟩ = some (.int .i64 X.gn) ∧ W.cell? ⟨b, o + 5, none⟩ = some (.int .i64 X.st) ∧ W.cell? ⟨b, o + 6, none⟩ = some (.string X.bd))
      (first | with_reducible exact HSA.out | with_reducible exact HSB.out | with_reducible exact HSC.out | with_reducible exact HSD.out | with_reducible exact HSE.out | with_reducible exact HSF.out)
      (first
      | (go_at_call 62; (with_reducible refine (HWI.out _ _ _ _ (HL4.out.drew)).mono ?_); rintro e w6 ⟨A6, c6, rfl, hnw, hl6, hb⟩; have HS6 := Lib.hid (HS3.out.below (drew_below hb)); have HC6 := Lib.hid (C7.below (W := w3) HC7.out (drew_below hb) HBL.out); have HNW := Lib.hid hnw; have HL6 := Lib.hid hl6; have HSB := Lib.hid (sc2_of HS6.out.rb HC6.out); have HSC := Lib.hid (sc2_of (HS6.out.rb.set3 HRP.out (.slice A6 ds.length c6) (.int .i64 (m : Int)) (.int .i64 ((sz : Int) - 1))) (C7.set3 HC6.out HRB.out (.slice A6 ds.length c6) (.int .i64 (m : Int)) (.int .i64 ((sz : Int) - 1)))); have HSD := Lib.hid (sc2_of (HS6.out.rb.lit7 HSP.out X) (C7.lit7 HC6.out HBN.out X)); have HSE := Lib.hid (sc2_of ((HS6.out.rb.set3 HRP.out (.slice A6 ds.length c6) (.int .i64 (m : Int)) (.int .i64 ((sz : Int) - 1))).lit7 HSP.out X) (C7.lit7 (C7.set3 HC6.out HRB.out (.slice A6 ds.length c6) (.int .i64 (m : Int)) (.int .i64 ((sz : Int) - 1))) HBN.out X)); have HSF := Lib.hid (sc2_of ((HS6.out.rb.lit7 HSP.out X).set3 HRP.out (.slice A6 ds.length c6) (.int .i64 (m : Int)) (.int .i64 ((sz : Int) - 1))) (C7.set3 (C7.lit7 HC6.out HBN.out X) HRB.out (.slice A6 ds.length c6) (.int .i64 (m : Int)) (.int .i64 ((sz : Int) - 1)))); obtain ⟨_, ⟨t0, t1, t2, t3, t4, t5, hrl⟩, ⟨⟨v0, v1, v2, v3, v4, v5, v6⟩, f0, f1, f2, f3, f4, f5, f6, hsl⟩⟩ := HS6.out.facts; clear hnw hl6 hb))
    all_goals
      have HL := Lib.hid (((HL6.out.off3 HNW.out HS3.out.rs.lt (.slice A6 ds.length c6) (.int .i64 (m : Int)) (.int .i64 ((sz : Int) - 1))).off7 HNW.out HS3.out.ms.1 X).more (show w6.heap.size ≤ ((((((((((w6.setCell ⟨r, 0, none⟩ (.slice A6 ds.length c6)).setCell ⟨r, 1, none⟩ (.int .i64 (m : Int))).setCell ⟨r, 2, none⟩ (.int .i64 ((sz : Int) - 1))).setCell ⟨s, 0, none⟩ (.int .i64 X.id)).setCell ⟨s, 1, none⟩ (.int .i64 X.rt)).setCell ⟨s, 2, none⟩ (.int .i64 X.ep)).setCell ⟨s, 3, none⟩ (.int .i64 X.ct)).setCell ⟨s, 4, none⟩ (.int .i64 X.gn)).setCell ⟨s, 5, none⟩ (.int .i64 X.st)).setCell ⟨s, 6, none⟩ (.string X.bd)).heap.size by simp))
      have HB := Lib.hid (HS6.out.end1 (.slice A6 ds.length c6) (.int .i64 (m : Int)) (.int .i64 ((sz : Int) - 1)) X)
      have HN6 := Lib.hid (nw_low HNW.out HS3.out.bel.size)
      clear HSA HSB HSC HSD HSE HSF
      go_wp2
      exact bodyPost_ret (v := .tuple #[.agg #[(.slice A6 ds.length c6), (.int .i64 (m : Int)), (.int .i64 ((sz : Int) - 1))], X.v, .int .i64 0]) (by simp only [results, Try.results36]; go_simp <;> rfl) rfl ⟨A6, c6, by rw [HE1.out, HE2.out], HN6.out, HL.out, HB.out⟩
  · have HC := Lib.hid (show qfC cs hd sz = [] from if_neg h0)
    have HE1 := Lib.hid (show qfH cs hd sz = 0 from if_neg h0)
    have HE2 := Lib.hid (show ifE (poE cs hd sz) (sz - 1) = 0 from if_neg h0)
    have HE3 := Lib.hid (show qfM cs hd sz = zM from if_neg h0)
    generalize qfC cs hd sz = ds at *
    generalize qfH cs hd sz = hx at *
    generalize qfM cs hd sz = Y at *
    by_cases hg : rgV cs hd sz = 0
    · have hs0 : sz = 0 := Decidable.byContradiction fun h => h0 (by unfold poE; rw [if_neg (by simpa using hg), if_neg h])
      subst hs0
      have hp4 : poE cs hd 0 = 4 := by unfold poE; rw [if_neg (by simpa using hg), if_pos rfl]
      rw [hg] at HP
      rw [hp4] at HE2 ⊢
      clear h0 hg hp4
      go_enter Try.func36, Try.ntmps36
      go_wp2_with fail
      have HS := Lib.hid (PoAt.start w A cs.length c hd 0 24 26)
      obtain ⟨p, hp⟩ : ∃ p, p = w.heap.size := ⟨_, rfl⟩
      obtain ⟨r, hr⟩ : ∃ r, r = w.heap.size + 1 := ⟨_, rfl⟩
      obtain ⟨s, hs⟩ : ∃ s, s = w.heap.size + 1 + 1 := ⟨_, rfl⟩
      rw [← hs, ← hr, ← hp] at HS ⊢
      clear hp hr hs
      refine (HP.out _ (HV.out.up HS.out.bel)).mono ?_
      rintro e w1 ⟨rfl, hb⟩
      have HS1 := Lib.hid (HS.out.below hb)
      obtain ⟨⟨r0, r1, r2, r3, r4, r5, hpl⟩, ⟨t0, t1, t2, t3, t4, t5, hrl⟩, ⟨⟨v0, v1, v2, v3, v4, v5, v6⟩, f0, f1, f2, f3, f4, f5, f6, hsl⟩⟩ := HS1.out.facts
      have hrs : r ≠ s := by have := HS1.out.old; omega
      have hsr : s ≠ r := fun e => hrs e.symm
      have HB := Lib.hid (HS1.out.end1 (.slice none 0 0) (.int .i64 0) (.int .i64 0) zM)
      clear hb HS
      go_wp2
      exact bodyPost_ret (v := .tuple #[.agg #[.slice none 0 0, .int .i64 0, .int .i64 0], .agg #[.int .i64 0, .int .i64 0, .int .i64 0, .int .i64 0, .int .i64 0, .int .i64 0, .string ByteArray.empty], .int .i64 4]) (by simp only [results, Try.results36]; go_simp <;> rfl) rfl ⟨none, 0, by rw [HC.out, HE1.out, HE2.out, HE3.out]; rfl, nw_none, by rw [HC.out]; exact Ls.nil, HB.out⟩
    · have hpx : poE cs hd sz = rgV cs hd sz := if_pos hg
      have hne : (rgV cs hd sz != 0) = true := bne_iff_ne.2 hg
      rw [hpx] at HE2 ⊢
      clear hpx h0
      generalize rgV cs hd sz = x at *
      clear hg
      go_enter Try.func36, Try.ntmps36
      go_wp2_with fail
      have HS := Lib.hid (PoAt.start w A cs.length c hd sz 24 26)
      obtain ⟨p, hp⟩ : ∃ p, p = w.heap.size := ⟨_, rfl⟩
      obtain ⟨r, hr⟩ : ∃ r, r = w.heap.size + 1 := ⟨_, rfl⟩
      obtain ⟨s, hs⟩ : ∃ s, s = w.heap.size + 1 + 1 := ⟨_, rfl⟩
      rw [← hs, ← hr, ← hp] at HS ⊢
      clear hp hr hs
      refine (HP.out _ (HV.out.up HS.out.bel)).mono ?_
      rintro e w1 ⟨rfl, hb⟩
      have HS1 := Lib.hid (HS.out.below hb)
      obtain ⟨⟨r0, r1, r2, r3, r4, r5, hpl⟩, ⟨t0, t1, t2, t3, t4, t5, hrl⟩, ⟨⟨v0, v1, v2, v3, v4, v5, v6⟩, f0, f1, f2, f3, f4, f5, f6, hsl⟩⟩ := HS1.out.facts
      have hrs : r ≠ s := by have := HS1.out.old; omega
      have hsr : s ≠ r := fun e => hrs e.symm
      have HB := Lib.hid (HS1.out.end1 (.slice none 0 0) (.int .i64 0) (.int .i64 0) zM)
      clear hb HS
      go_wp2
      exact bodyPost_ret (v := .tuple #[.agg #[.slice none 0 0, .int .i64 0, .int .i64 0], .agg #[.int .i64 0, .int .i64 0, .int .i64 0, .int .i64 0, .int .i64 0, .int .i64 0, .string ByteArray.empty], .int .i64 x]) (by simp only [results, Try.results36]; go_simp <;> rfl) rfl ⟨none, 0, by rw [HC.out, HE1.out, HE2.out, HE3.out]; rfl, nw_none, by rw [HC.out]; exact Ls.nil, HB.out⟩
end Go.Proofs.Ytiklkagkmcapnaa
namespace Go.Proofs.Ytiklkagkmcapnaa
open Go.RowKit
set_option linter.unusedVariables false

attribute [local go_sem ↓] Go.wp_at_zero Go.wp_at_succ
set_option maxHeartbeats 4000000 in
set_option maxRecDepth 20000 in
theorem rpbpop_any (A : Option Addr) (n c : Nat) (cs : List Msg) (hd sz : Int) (w : World) (hv : Ls w w.heap.size (.slice A n c) cs) :
    Calls Try.prog 37 #[.agg #[.slice A n c, .int .i64 hd, .int .i64 sz]] w (RMP w (qbC cs hd sz) (ifE (poE cs hd sz) hd) (ifE (poE cs hd sz) (sz - 1)) (qbM cs hd sz) (poE cs hd sz)) := by
  obtain ⟨rfl, _, _⟩ := hv.len
  have HV := Lib.hid hv
  have HP := Lib.hid (fun w1 (h : Ls w1 w1.heap.size (.slice A cs.length c) cs) => rvalid_any A cs.length c cs hd sz w1 h)
  clear hv
  by_cases h0 : poE cs hd sz = 0
  · have HC := Lib.hid (show qbC cs hd sz = fil cs.length hd.toNat ((ord cs hd.toNat sz.toNat).eraseIdx (sz.toNat - 1)) from if_pos h0)
    have HE1 := Lib.hid (show ifE 0 hd = hd from if_pos rfl)
    have HE3 := Lib.hid (show qbM cs hd sz = cel cs hd.toNat (sz.toNat - 1) from if_pos h0)
    rw [h0]
    have HE2 := Lib.hid (show ifE 0 (sz - 1) = sz - 1 from if_pos rfl)
    obtain ⟨hg, hne⟩ := poE_zero h0
    rw [hg] at HP
    obtain ⟨hn, hz, _, _⟩ := rgV_zero hg
    obtain ⟨⟨n1, n2⟩, ⟨k1, k2⟩, ⟨s1, s2⟩⟩ := nm_of hn
    obtain ⟨hd, rfl⟩ := Int.eq_ofNat_of_zero_le k1
    obtain ⟨sz, rfl⟩ := Int.eq_ofNat_of_zero_le s1
    simp only [Int.toNat_natCast] at HC hz HE3
    have hsb : ((sz : Int) == 0) = false := beq_eq_false_iff_ne.2 hne
    have hsz0 : ¬ (sz = 0) := by omega
    have HO := Lib.hid (fun w1 (h : Ls w1 w1.heap.size (.slice A cs.length c) cs) => rorder_any A cs.length c cs hd sz w1 h hn)
    have hol := ord_len cs hd sz
    obtain ⟨x, hx⟩ : ∃ x, x = sz - 1 := ⟨_, rfl⟩
    rw [← hx] at HC HE3
    have hl0 : (ord cs hd sz).length = x + 1 := by omega
    have HY := Lib.hid (fun (h : x < (ord cs hd sz).length) => (show (ord cs hd sz)[x] = qbM cs hd sz by rw [HE3.out, ord_at]))
    have htk : (ord cs hd sz).eraseIdx x = (ord cs hd sz).take x := by
      rw [List.eraseIdx_eq_take_drop_succ, List.drop_eq_nil_of_le (by omega), List.append_nil]
    have HWI := Lib.hid (fun A' n' c' w1 (h : Ls w1 w1.heap.size (.slice A' n' c') ((ord cs hd sz).take x)) => with_any A cs.length c hd sz hd A' n' c' ((ord cs hd sz).take x) w1 (by omega) (by omega) (by simp; omega) h)
    rw [← htk, ← HC.out, htk, show (((ord cs hd sz).take x).length : Int) = (sz : Int) - 1 by simp [hol]; omega] at HWI
    have hxw : IntKind.i64.wrap ((x : Int) + 1 - 1) = (x : Int) := by rw [IntWalk.i64_in _ (by omega)]; omega
    have hx12 : (x : Int) ≤ 12 := by omega
    have hxw2 : IntKind.i64.wrap (x : Int) = (x : Int) := IntWalk.i64_in _ (by omega)
    have hxw3 : IntKind.i64.wrap (((x + 1 : Nat) : Int) - 1) = (x : Int) := by rw [IntWalk.i64_in _ (by omega)]; omega
    have hs12 : (sz : Int) ≤ 12 := by omega
    have HOL := Lib.hid hol
    have HLX := Lib.hid hl0
    clear h0 hg hne hn hz HC HE3 hl0 hol hx htk
    generalize ord cs hd sz = l at *
    generalize qbC cs hd sz = ds at *
    generalize qbM cs hd sz = X at *
    go_enter Try.func37, Try.ntmps37
    go_wp2_with fail
    have HS := Lib.hid (PoAt.start w A cs.length c hd sz 24 26)
    obtain ⟨p, hp⟩ : ∃ p, p = w.heap.size := ⟨_, rfl⟩
    obtain ⟨r, hr⟩ : ∃ r, r = w.heap.size + 1 := ⟨_, rfl⟩
    obtain ⟨s, hs⟩ : ∃ s, s = w.heap.size + 1 + 1 := ⟨_, rfl⟩
    rw [← hs, ← hr, ← hp] at HS ⊢
    clear hp hr hs
    refine (HP.out _ (HV.out.up HS.out.bel)).mono ?_
    rintro e w1 ⟨rfl, hb⟩
    have HS1 := Lib.hid (HS.out.below hb)
    obtain ⟨⟨r0, r1, r2, r3, r4, r5, hpl⟩, _, _⟩ := HS1.out.facts
    clear hb HS
    go_wp2_with fail
    refine (HO.out _ (HV.out.up HS1.out.bel)).mono ?_
    rintro e w3 ⟨v, rfl, hnv, hl, hb⟩
    obtain ⟨A3, c3, rfl, hc3, _⟩ := hl.form
    have HS3 := Lib.hid (HS1.out.below hb)
    have HN3 := Lib.hid (nwv_of hnv)
    have hcut := run_lupto A3 (x + 1) c3 .i64 x (by have := HLX.out; omega)
    have HL4 := Lib.hid (hl.upto x (by have := HLX.out; omega))
    have hxl : x < l.length := by have := HLX.out; omega
    obtain ⟨b, o, rfl, hbb, hc7⟩ := hl.at_ hxl
    rw [HY.out hxl] at hc7
    rw [HLX.out]
    have HC7 := Lib.hid hc7
    have HBS := Lib.hid (show s < b from Nat.lt_of_lt_of_le HS1.out.ms.1 (HN3.out _ rfl))
    have HBL := Lib.hid hbb
    clear hb hl hnv hc7 hbb r0 r1 r2 r3 r4 r5 hpl hc3 HS1 hxl
    have HSA := Lib.hid (sc2_of HS3.out.rb.drew (C7.drew0 HC7.out))
    have HRP := Lib.hid (show r ≠ p by have := HS3.out.old; omega)
    have HSP := Lib.hid (show s ≠ p by have := HS3.out.old; omega)
    have HRB := Lib.hid (show r ≠ b by have := HS3.out.old; have := HBS.out; omega)
    have HBN := Lib.hid (show b ≠ s by have := HBS.out; omega)
    have hrs : r ≠ s := by have := HS3.out.old; omega
    have hsr : s ≠ r := fun e => hrs e.symm
    have hxb0 : (0 : Int) ≤ (x : Int) := by omega
    have hxb1 : (x : Int) < (x : Int) + 1 := by omega
    have hxb2 : x < x + 1 := by omega
    go_wp2
    go_region_held3 (fun W => W.cell? ⟨p, 0, none⟩ = some (.slice A cs.length c) ∧ W.cell? ⟨p, 1, none⟩ = some (.int .i64 hd) ∧ W.cell? ⟨p, 2, none⟩ = some (.int .i64 sz) ∧ W.cell? ⟨b, o + x * 7, none⟩ = some (.int .i64 X.id) ∧ W.cell? ⟨b, o + x * 7 + 1, none⟩ = some (.int .i64 X.rt) ∧ W.cell? ⟨b, o + x * 7 + 2, none⟩ = some (.int .i64 X.ep) ∧ W.cell? ⟨b, o + x * 7 + 3, none⟩ = some (.int .i64 X.ct) ∧ W.cell? ⟨b, o + x * 7 + 4, none⟩ = some (.int .i64 X.gn) ∧ W.cell? ⟨b, o + x * 7 + 5, none⟩ = some (.int .i64 X.st) ∧ W.cell? ⟨b, o + x * 7 + 6, none⟩ = some (.string X.bd))
      (first | with_reducible exact HSA.out | with_reducible exact HSB.out | with_reducible exact HSC.out | with_reducible exact HSD.out | with_reducible exact HSE.out | with_reducible exact HSF.out)
      (first
      | (go_at_call 62; (with_reducible refine (HWI.out _ _ _ _ (HL4.out.drew)).mono ?_); rintro e w6 ⟨A6, c6, rfl, hnw, hl6, hb⟩; have HS6 := Lib.hid (HS3.out.below (drew_below hb)); have HC6 := Lib.hid (C7.below (W := w3) HC7.out (drew_below hb) HBL.out); have HNW := Lib.hid hnw; have HL6 := Lib.hid hl6; have HSB := Lib.hid (sc2_of HS6.out.rb HC6.out); have HSC := Lib.hid (sc2_of (HS6.out.rb.set3 HRP.out (.slice A6 ds.length c6) (.int .i64 hd) (.int .i64 ((sz : Int) - 1))) (C7.set3 HC6.out HRB.out (.slice A6 ds.length c6) (.int .i64 hd) (.int .i64 ((sz : Int) - 1)))); have HSD := Lib.hid (sc2_of (HS6.out.rb.lit7 HSP.out X) (C7.lit7 HC6.out HBN.out X)); have HSE := Lib.hid (sc2_of ((HS6.out.rb.set3 HRP.out (.slice A6 ds.length c6) (.int .i64 hd) (.int .i64 ((sz : Int) - 1))).lit7 HSP.out X) (C7.lit7 (C7.set3 HC6.out HRB.out (.slice A6 ds.length c6) (.int .i64 hd) (.int .i64 ((sz : Int) - 1))) HBN.out X)); have HSF := Lib.hid (sc2_of ((HS6.out.rb.lit7 HSP.out X).set3 HRP.out (.slice A6 ds.length c6) (.int .i64 hd) (.int .i64 ((sz : Int) - 1))) (C7.set3 (C7.lit7 HC6.out HBN.out X) HRB.out (.slice A6 ds.length c6) (.int .i64 hd) (.int .i64 ((sz : Int) - 1)))); obtain ⟨_, ⟨t0, t1, t2, t3, t4, t5, hrl⟩, ⟨⟨v0, v1, v2, v3, v4, v5, v6⟩, f0, f1, f2, f3, f4, f5, f6, hsl⟩⟩ := HS6.out.facts; clear hnw hl6 hb))
    all_goals
      have HL := Lib.hid (((HL6.out.off3 HNW.out HS3.out.rs.lt (.slice A6 ds.length c6) (.int .i64 hd) (.int .i64 ((sz : Int) - 1))).off7 HNW.out HS3.out.ms.1 X).more (show w6.heap.size ≤ ((((((((((w6.setCell ⟨r, 0, none⟩ (.slice A6 ds.length c6)).setCell ⟨r, 1, none⟩ (.int .i64 hd)).setCell ⟨r, 2, none⟩ (.int .i64 ((sz : Int) - 1))).setCell ⟨s, 0, none⟩ (.int .i64 X.id)).setCell ⟨s, 1, none⟩ (.int .i64 X.rt)).setCell ⟨s, 2, none⟩ (.int .i64 X.ep)).setCell ⟨s, 3, none⟩ (.int .i64 X.ct)).setCell ⟨s, 4, none⟩ (.int .i64 X.gn)).setCell ⟨s, 5, none⟩ (.int .i64 X.st)).setCell ⟨s, 6, none⟩ (.string X.bd)).heap.size by simp))
      have HB := Lib.hid (HS6.out.end1 (.slice A6 ds.length c6) (.int .i64 hd) (.int .i64 ((sz : Int) - 1)) X)
      have HN6 := Lib.hid (nw_low HNW.out HS3.out.bel.size)
      clear HSA HSB HSC HSD HSE HSF
      go_wp2
      exact bodyPost_ret (v := .tuple #[.agg #[(.slice A6 ds.length c6), (.int .i64 hd), (.int .i64 ((sz : Int) - 1))], X.v, .int .i64 0]) (by simp only [results, Try.results37]; go_simp <;> rfl) rfl ⟨A6, c6, by rw [HE1.out, HE2.out], HN6.out, HL.out, HB.out⟩
  · have HC := Lib.hid (show qbC cs hd sz = [] from if_neg h0)
    have HE1 := Lib.hid (show ifE (poE cs hd sz) hd = 0 from if_neg h0)
    have HE2 := Lib.hid (show ifE (poE cs hd sz) (sz - 1) = 0 from if_neg h0)
    have HE3 := Lib.hid (show qbM cs hd sz = zM from if_neg h0)
    generalize qbC cs hd sz = ds at *
    generalize qbM cs hd sz = Y at *
    by_cases hg : rgV cs hd sz = 0
    · have hs0 : sz = 0 := Decidable.byContradiction fun h => h0 (by unfold poE; rw [if_neg (by simpa using hg), if_neg h])
      subst hs0
      have hp4 : poE cs hd 0 = 4 := by unfold poE; rw [if_neg (by simpa using hg), if_pos rfl]
      rw [hg] at HP
      rw [hp4] at HE1 HE2 ⊢
      clear h0 hg hp4
      go_enter Try.func37, Try.ntmps37
      go_wp2_with fail
      have HS := Lib.hid (PoAt.start w A cs.length c hd 0 24 26)
      obtain ⟨p, hp⟩ : ∃ p, p = w.heap.size := ⟨_, rfl⟩
      obtain ⟨r, hr⟩ : ∃ r, r = w.heap.size + 1 := ⟨_, rfl⟩
      obtain ⟨s, hs⟩ : ∃ s, s = w.heap.size + 1 + 1 := ⟨_, rfl⟩
      rw [← hs, ← hr, ← hp] at HS ⊢
      clear hp hr hs
      refine (HP.out _ (HV.out.up HS.out.bel)).mono ?_
      rintro e w1 ⟨rfl, hb⟩
      have HS1 := Lib.hid (HS.out.below hb)
      obtain ⟨⟨r0, r1, r2, r3, r4, r5, hpl⟩, ⟨t0, t1, t2, t3, t4, t5, hrl⟩, ⟨⟨v0, v1, v2, v3, v4, v5, v6⟩, f0, f1, f2, f3, f4, f5, f6, hsl⟩⟩ := HS1.out.facts
      have hrs : r ≠ s := by have := HS1.out.old; omega
      have hsr : s ≠ r := fun e => hrs e.symm
      have HB := Lib.hid (HS1.out.end1 (.slice none 0 0) (.int .i64 0) (.int .i64 0) zM)
      clear hb HS
      go_wp2
      exact bodyPost_ret (v := .tuple #[.agg #[.slice none 0 0, .int .i64 0, .int .i64 0], .agg #[.int .i64 0, .int .i64 0, .int .i64 0, .int .i64 0, .int .i64 0, .int .i64 0, .string ByteArray.empty], .int .i64 4]) (by simp only [results, Try.results37]; go_simp <;> rfl) rfl ⟨none, 0, by rw [HC.out, HE1.out, HE2.out, HE3.out]; rfl, nw_none, by rw [HC.out]; exact Ls.nil, HB.out⟩
    · have hpx : poE cs hd sz = rgV cs hd sz := if_pos hg
      have hne : (rgV cs hd sz != 0) = true := bne_iff_ne.2 hg
      rw [hpx] at HE1 HE2 ⊢
      clear hpx h0
      generalize rgV cs hd sz = x at *
      clear hg
      go_enter Try.func37, Try.ntmps37
      go_wp2_with fail
      have HS := Lib.hid (PoAt.start w A cs.length c hd sz 24 26)
      obtain ⟨p, hp⟩ : ∃ p, p = w.heap.size := ⟨_, rfl⟩
      obtain ⟨r, hr⟩ : ∃ r, r = w.heap.size + 1 := ⟨_, rfl⟩
      obtain ⟨s, hs⟩ : ∃ s, s = w.heap.size + 1 + 1 := ⟨_, rfl⟩
      rw [← hs, ← hr, ← hp] at HS ⊢
      clear hp hr hs
      refine (HP.out _ (HV.out.up HS.out.bel)).mono ?_
      rintro e w1 ⟨rfl, hb⟩
      have HS1 := Lib.hid (HS.out.below hb)
      obtain ⟨⟨r0, r1, r2, r3, r4, r5, hpl⟩, ⟨t0, t1, t2, t3, t4, t5, hrl⟩, ⟨⟨v0, v1, v2, v3, v4, v5, v6⟩, f0, f1, f2, f3, f4, f5, f6, hsl⟩⟩ := HS1.out.facts
      have hrs : r ≠ s := by have := HS1.out.old; omega
      have hsr : s ≠ r := fun e => hrs e.symm
      have HB := Lib.hid (HS1.out.end1 (.slice none 0 0) (.int .i64 0) (.int .i64 0) zM)
      clear hb HS
      go_wp2
      exact bodyPost_ret (v := .tuple #[.agg #[.slice none 0 0, .int .i64 0, .int .i64 0], .agg #[.int .i64 0, .int .i64 0, .int .i64 0, .int .i64 0, .int .i64 0, .int .i64 0, .string ByteArray.empty], .int .i64 x]) (by simp only [results, Try.results37]; go_simp <;> rfl) rfl ⟨none, 0, by rw [HC.out, HE1.out, HE2.out, HE3.out]; rfl, nw_none, by rw [HC.out]; exact Ls.nil, HB.out⟩
end Go.Proofs.Ytiklkagkmcapnaa
