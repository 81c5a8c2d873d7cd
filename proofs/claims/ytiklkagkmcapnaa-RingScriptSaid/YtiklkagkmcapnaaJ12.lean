/- What is proved here: ring.PopBack by a contract; ring.Remove by a contract; shardqueueref03.Index by one contract. -/
import Derived.Test.YtiklkagkmcapnaaJ11
import Derived.Test.YtiklkagkmcapnaaJ04
import Derived.Test.YtiklkagkmcapnaaJ01
import Derived.IntWalk
namespace Go.Proofs.Ytiklkagkmcapnaa
open Go.RowKit
set_option linter.unusedVariables false

/-- What PopBack returns. -/
noncomputable def qbC (cs : List Msg) (hd sz : Int) : List Msg := if poE cs hd sz = 0 then fil cs.length hd.toNat ((ord cs hd.toNat sz.toNat).eraseIdx (sz.toNat - 1)) else []
noncomputable def qbM (cs : List Msg) (hd sz : Int) : Msg := if poE cs hd sz = 0 then cel cs hd.toNat (sz.toNat - 1) else zM
theorem Ls.off3 {W : World} {B lo n c r : Nat} {A : Option Addr} {l : List Msg} (h : Ls W B (.slice A n c) l) (hA : Nw lo A) (hr : r < lo) (x y z : Value) : Ls (((W.setCell ⟨r, 0, none⟩ x).setCell ⟨r, 1, none⟩ y).setCell ⟨r, 2, none⟩ z) B (.slice A n c) l :=
  ((h.off hA (p := ⟨r, 0, none⟩) hr x).off hA (p := ⟨r, 1, none⟩) hr y).off hA (p := ⟨r, 2, none⟩) hr z
theorem Ls.off7 {W : World} {B lo n c q : Nat} {A : Option Addr} {l : List Msg} (h : Ls W B (.slice A n c) l) (hA : Nw lo A) (hr : q < lo) (X : Msg) : Ls (((((((W.setCell ⟨q, 0, none⟩ (.int .i64 X.id)).setCell ⟨q, 1, none⟩ (.int .i64 X.rt)).setCell ⟨q, 2, none⟩ (.int .i64 X.ep)).setCell ⟨q, 3, none⟩ (.int .i64 X.ct)).setCell ⟨q, 4, none⟩ (.int .i64 X.gn)).setCell ⟨q, 5, none⟩ (.int .i64 X.st)).setCell ⟨q, 6, none⟩ (.string X.bd)) B (.slice A n c) l :=
  ((((((h.off hA (p := ⟨q, 0, none⟩) hr _).off hA (p := ⟨q, 1, none⟩) hr _).off hA (p := ⟨q, 2, none⟩) hr _).off hA (p := ⟨q, 3, none⟩) hr _).off hA (p := ⟨q, 4, none⟩) hr _).off hA (p := ⟨q, 5, none⟩) hr _).off hA (p := ⟨q, 6, none⟩) hr _
theorem RB.all {W : World} {p n c : Nat} {A : Option Addr} {hd sz : Int} (h : RB W p A n c hd sz) (A' : Option Addr) (n' c' : Nat) (x y : Int) : RB (((W.setCell ⟨p, 0, none⟩ (.slice A' n' c')).setCell ⟨p, 1, none⟩ (.int .i64 x)).setCell ⟨p, 2, none⟩ (.int .i64 y)) p A' n' c' x y := ((h.setA A' n' c').setH x).setS y
theorem PoAt.all {w W : World} {p r s n c : Nat} {A : Option Addr} {hd sz : Int} (h : PoAt w p r s A n c hd sz W) (A' : Option Addr) (n' c' : Nat) (x y : Int) : PoAt w p r s A' n' c' x y (((W.setCell ⟨p, 0, none⟩ (.slice A' n' c')).setCell ⟨p, 1, none⟩ (.int .i64 x)).setCell ⟨p, 2, none⟩ (.int .i64 y)) := ((h.setA A' n' c').setH x).setS y

attribute [local go_sem ↓] Go.wp_at_zero Go.wp_at_succ
set_option maxHeartbeats 4000000 in
set_option maxRecDepth 20000 in
theorem pbpop_any (A : Option Addr) (n c : Nat) (cs : List Msg) (hd sz : Int) (w : World) (hv : Ls w w.heap.size (.slice A n c) cs) :
    Calls Try.prog 23 #[.agg #[.slice A n c, .int .i64 hd, .int .i64 sz]] w (RMP w (qbC cs hd sz) (ifE (poE cs hd sz) hd) (ifE (poE cs hd sz) (sz - 1)) (qbM cs hd sz) (poE cs hd sz)) := by
  obtain ⟨rfl, _, _⟩ := hv.len
  have HV := Lib.hid hv
  have HP := Lib.hid (fun w1 (h : Ls w1 w1.heap.size (.slice A cs.length c) cs) => poperr_any A cs.length c cs hd sz w1 h)
  clear hv
  by_cases h0 : poE cs hd sz = 0
  · have HC := Lib.hid (show qbC cs hd sz = fil cs.length hd.toNat ((ord cs hd.toNat sz.toNat).eraseIdx (sz.toNat - 1)) from if_pos h0)
    have HE3 := Lib.hid (show qbM cs hd sz = cel cs hd.toNat (sz.toNat - 1) from if_pos h0)
    rw [h0] at HP ⊢
    have HE1 := Lib.hid (show ifE 0 hd = hd from if_pos rfl)
    have HE2 := Lib.hid (show ifE 0 (sz - 1) = sz - 1 from if_pos rfl)
    obtain ⟨hg, hne⟩ := poE_zero h0
    obtain ⟨hn, hz, _, _⟩ := rgV_zero hg
    obtain ⟨⟨n1, n2⟩, ⟨k1, k2⟩, ⟨s1, s2⟩⟩ := nm_of hn
    obtain ⟨hd, rfl⟩ := Int.eq_ofNat_of_zero_le k1
    obtain ⟨sz, rfl⟩ := Int.eq_ofNat_of_zero_le s1
    simp only [Int.toNat_natCast] at HC hz HE3
    obtain ⟨x, hx⟩ : ∃ x, x = sz - 1 := ⟨_, rfl⟩
    have hxi : (sz : Int) - 1 = (x : Int) := by omega
    have HWO := Lib.hid (fun w1 (h : Ls w1 w1.heap.size (.slice A cs.length c) cs) => without_any A cs.length c cs hd sz x w1 h hn hz (by omega))
    rw [← hx] at HC HE3
    have HCD := Lib.hid (show qbC cs hd sz = fil cs.length hd ((ord cs hd sz).eraseIdx x) from HC.out)
    rw [← HC.out, ← HE3.out] at HWO
    clear h0 hg hne hn hz HC HE3 HCD
    generalize qbC cs hd sz = ds at *
    generalize qbM cs hd sz = X at *
    have hs1 : (sz : Int) ≤ 12 := by omega
    have HXI := Lib.hid hxi
    clear hxi hx
    go_enter Try.func23, Try.ntmps23
    go_wp2_with fail
    have HS := Lib.hid (PoAt.start w A cs.length c hd sz 24 26)
    obtain ⟨p, hp⟩ : ∃ p, p = w.heap.size := ⟨_, rfl⟩
    obtain ⟨r, hr⟩ : ∃ r, r = w.heap.size + 1 := ⟨_, rfl⟩
    obtain ⟨s, hs⟩ : ∃ s, s = w.heap.size + 1 + 1 := ⟨_, rfl⟩
    rw [← hs, ← hr, ← hp] at HS ⊢
    clear hp hr hs
    refine (HP.out _ (HV.out.up HS.out.bel)).mono ?_
    rintro e w1 ⟨rfl, hb⟩
    have HS1 := Lib.hid (HS.out.below hb)
    obtain ⟨⟨r0, r1, r2, r3, r4, r5, hpl⟩, _, _⟩ := HS1.out.facts
    clear hb HS
    go_wp2_with fail
    rw [HXI.out]
    refine (HWO.out _ (HV.out.up HS1.out.bel)).mono ?_
    rintro e w2 ⟨A2, c2, rfl, hnw, hl2, hb⟩
    have HS2 := Lib.hid (HS1.out.below hb)
    have HL2 := Lib.hid hl2
    clear r0 r1 r2 r3 r4 r5 hpl
    obtain ⟨⟨r0, r1, r2, r3, r4, r5, hpl⟩, _, _⟩ := HS2.out.facts
    have HS3 := Lib.hid ((HS2.out.all A2 ds.length c2 hd ((sz : Int) - 1)).alloc (.cells X.cs 26))
    have HY3 := Lib.hid (MAt.fresh (f := X.nth) (((w2.setCell ⟨p, 0, none⟩ (.slice A2 ds.length c2)).setCell ⟨p, 1, none⟩ (.int .i64 hd)).setCell ⟨p, 2, none⟩ (.int .i64 ((sz : Int) - 1))) X.id X.rt X.ep X.ct X.gn X.st X.bd 26 rfl rfl rfl rfl rfl rfl)
    have HE : (((w2.setCell ⟨p, 0, none⟩ (.slice A2 ds.length c2)).setCell ⟨p, 1, none⟩ (.int .i64 hd)).setCell ⟨p, 2, none⟩ (.int .i64 ((sz : Int) - 1))).heap.size = w2.heap.size := by simp
    rw [HE] at HY3
    have HNW := Lib.hid hnw
    have HYS := Lib.hid (show s < w2.heap.size from HS2.out.ms.1)
    have HS1L := Lib.hid (And.intro HS1.out.rb.lt (And.intro HS1.out.rs.lt HS1.out.ms.1))
    have HL3 := Lib.hid ((((HL2.out.off hnw (p := ⟨p, 0, none⟩) HS1.out.rb.lt (.slice A2 ds.length c2)).off hnw (p := ⟨p, 1, none⟩) HS1.out.rb.lt (.int .i64 hd)).off hnw (p := ⟨p, 2, none⟩) HS1.out.rb.lt (.int .i64 ((sz : Int) - 1))).alloc (by simp) (.cells X.cs 26))
    clear hb hl2 HE hnw
    go_wp2
    generalize (((w2.setCell ⟨p, 0, none⟩ (.slice A2 ds.length c2)).setCell ⟨p, 1, none⟩ (.int .i64 hd)).setCell ⟨p, 2, none⟩ (.int .i64 ((sz : Int) - 1))).alloc (.cells X.cs 26) = w5 at *
    have HS5 := HS3
    have HY5 := HY3
    have HB5 := Lib.hid (show w2.heap.size ≤ w5.heap.size from Nat.le_of_lt HY5.out.1)
    obtain ⟨y, hy⟩ : ∃ y, y = w2.heap.size := ⟨_, rfl⟩
    rw [← hy] at HY5 HYS ⊢
    clear hy r0 r1 r2 r3 r4 r5 hpl HS3 HY3
    obtain ⟨⟨r0, r1, r2, r3, r4, r5, hpl⟩, ⟨t0, t1, t2, t3, t4, t5, hrl⟩, ⟨⟨v0, v1, v2, v3, v4, v5, v6⟩, f0, f1, f2, f3, f4, f5, f6, hsl⟩⟩ := HS5.out.facts
    have hrs : r ≠ s := by have := HS5.out.old; omega
    have hsr : s ≠ r := fun e => hrs e.symm
    have HRP := Lib.hid (show r ≠ p by have := HS5.out.old; omega)
    have HSP := Lib.hid (show s ≠ p by have := HS5.out.old; omega)
    have HRY := Lib.hid (show r ≠ y by have := HS5.out.old; have := HYS.out; omega)
    have HSY := Lib.hid (show s ≠ y by have := HYS.out; omega)
    have HSA := Lib.hid (s10_of HS5.out.rb.drew (MAt.drew' HY5.out))
    have HSB := Lib.hid (s10_of (HS5.out.rb.set3 HRP.out (.slice A2 ds.length c2) (.int .i64 hd) (.int .i64 ((sz : Int) - 1))).drew (MAt.drew' (HY5.out.set3 HRY.out (.slice A2 ds.length c2) (.int .i64 hd) (.int .i64 ((sz : Int) - 1)))))
    have HSC := Lib.hid (s10_of (HS5.out.rb.lit7 HSP.out X).drew (MAt.drew' (HY5.out.lit7 HSY.out X)))
    have HSD := Lib.hid (s10_of ((HS5.out.rb.set3 HRP.out (.slice A2 ds.length c2) (.int .i64 hd) (.int .i64 ((sz : Int) - 1))).lit7 HSP.out X).drew (MAt.drew' ((HY5.out.set3 HRY.out (.slice A2 ds.length c2) (.int .i64 hd) (.int .i64 ((sz : Int) - 1))).lit7 HSY.out X)))
    have HSE := Lib.hid (s10_of ((HS5.out.rb.lit7 HSP.out X).set3 HRP.out (.slice A2 ds.length c2) (.int .i64 hd) (.int .i64 ((sz : Int) - 1))).drew (MAt.drew' ((HY5.out.lit7 HSY.out X).set3 HRY.out (.slice A2 ds.length c2) (.int .i64 hd) (.int .i64 ((sz : Int) - 1)))))
    go_region_held3 (fun W => W.cell? ⟨p, 0, none⟩ = some (.slice A2 ds.length c2) ∧ W.cell? ⟨p, 1, none⟩ = some (.int .i64 hd) ∧ W.cell? ⟨p, 2, none⟩ = some (.int .i64 ((sz : Int) - 1)) ∧ W.cell? ⟨y, 0, none⟩ = some (.int .i64 X.id) ∧ W.cell? ⟨y, 1, none⟩ = some (.int .i64 X.rt) ∧ W.cell? ⟨y, 2, none⟩ = some (.int .i64 X.ep) ∧ W.cell? ⟨y, 3, none⟩ = some (.int .i64 X.ct) ∧ W.cell? ⟨y, 4, none⟩ = some (.int .i64 X.gn) ∧ W.cell? ⟨y, 5, none⟩ = some (.int .i64 X.st) ∧ W.cell? ⟨y, 6, none⟩ = some (.string X.bd))
      (first | with_reducible exact HSA.out | with_reducible exact HSB.out | with_reducible exact HSC.out | with_reducible exact HSD.out | with_reducible exact HSE.out)
      ((fail))
    have HL := Lib.hid ((((HL3.out.off3 HNW.out HS1L.out.2.1 (.slice A2 ds.length c2) (.int .i64 hd) (.int .i64 ((sz : Int) - 1))).off7 HNW.out HS1L.out.2.2 X).drew).more (show w2.heap.size ≤ (((((((((((w5.setCell ⟨r, 0, none⟩ (.slice A2 ds.length c2)).setCell ⟨r, 1, none⟩ (.int .i64 hd)).setCell ⟨r, 2, none⟩ (.int .i64 ((sz : Int) - 1))).setCell ⟨s, 0, none⟩ (.int .i64 X.id)).setCell ⟨s, 1, none⟩ (.int .i64 X.rt)).setCell ⟨s, 2, none⟩ (.int .i64 X.ep)).setCell ⟨s, 3, none⟩ (.int .i64 X.ct)).setCell ⟨s, 4, none⟩ (.int .i64 X.gn)).setCell ⟨s, 5, none⟩ (.int .i64 X.st)).setCell ⟨s, 6, none⟩ (.string X.bd))).drew.heap.size from by simpa using HB5.out))
    have HB := Lib.hid (Below.drew (HS5.out.end1 (.slice A2 ds.length c2) (.int .i64 hd) (.int .i64 ((sz : Int) - 1)) X))
    clear HSA HSB HSC HSD HSE
    go_wp2
    exact bodyPost_ret (v := .tuple #[.agg #[(.slice A2 ds.length c2), (.int .i64 hd), (.int .i64 ((sz : Int) - 1))], X.v, .int .i64 0]) (by simp only [results, Try.results23]; go_simp <;> rfl) rfl ⟨A2, c2, by rw [HE1.out, HE2.out], nw_low HNW.out HS1.out.bel.size, HL.out, HB.out⟩
  · have HC := Lib.hid (show qbC cs hd sz = [] from if_neg h0)
    have HE1 := Lib.hid (show ifE (poE cs hd sz) hd = 0 from if_neg h0)
    have HE2 := Lib.hid (show ifE (poE cs hd sz) (sz - 1) = 0 from if_neg h0)
    have HE3 := Lib.hid (show qbM cs hd sz = zM from if_neg h0)
    have hne : (poE cs hd sz != 0) = true := bne_iff_ne.2 h0
    generalize poE cs hd sz = x at *
    generalize qbC cs hd sz = ds at *
    generalize qbM cs hd sz = Y at *
    clear h0
    go_enter Try.func23, Try.ntmps23
    go_wp2_with fail
    have HS := Lib.hid (PoAt.start w A cs.length c hd sz 24 26)
    obtain ⟨p, hp⟩ : ∃ p, p = w.heap.size := ⟨_, rfl⟩
    obtain ⟨r, hr⟩ : ∃ r, r = w.heap.size + 1 := ⟨_, rfl⟩
    obtain ⟨s, hs⟩ : ∃ s, s = w.heap.size + 1 + 1 := ⟨_, rfl⟩
    rw [← hs, ← hr, ← hp] at HS ⊢
    clear hp hr hs
    refine (HP.out _ (HV.out.up HS.out.bel)).mono ?_
    rintro e w1 ⟨rfl, hb⟩
    have HS1 := Lib.hid (HS.out.below hb)
    obtain ⟨_, ⟨t0, t1, t2, t3, t4, t5, hrl⟩, ⟨⟨v0, v1, v2, v3, v4, v5, v6⟩, f0, f1, f2, f3, f4, f5, f6, hsl⟩⟩ := HS1.out.facts
    have hrs : r ≠ s := by have := HS1.out.old; omega
    have hsr : s ≠ r := fun e => hrs e.symm
    have HB := Lib.hid (HS1.out.end1 (.slice none 0 0) (.int .i64 0) (.int .i64 0) zM)
    clear hb HS
    go_wp2
    exact bodyPost_ret (v := .tuple #[.agg #[.slice none 0 0, .int .i64 0, .int .i64 0], .agg #[.int .i64 0, .int .i64 0, .int .i64 0, .int .i64 0, .int .i64 0, .int .i64 0, .string ByteArray.empty], .int .i64 x]) (by simp only [results, Try.results23]; go_simp <;> rfl) rfl ⟨none, 0, by rw [HC.out, HE1.out, HE2.out, HE3.out]; rfl, nw_none, by rw [HC.out]; exact Ls.nil, HB.out⟩
end Go.Proofs.Ytiklkagkmcapnaa
namespace Go.Proofs.Ytiklkagkmcapnaa
open Go.RowKit
set_option linter.unusedVariables false

/-- The error of Remove. -/
noncomputable def rmE (cs : List Msg) (hd sz id : Int) : Int := if rgV cs hd sz ≠ 0 then rgV cs hd sz else if ixF (ord cs hd.toNat sz.toNat) id < 0 then 4 else 0
/-- What Remove returns. -/
noncomputable def rmC (cs : List Msg) (hd sz id : Int) : List Msg := if rmE cs hd sz id = 0 then fil cs.length hd.toNat ((ord cs hd.toNat sz.toNat).eraseIdx (ixF (ord cs hd.toNat sz.toNat) id).toNat) else []
noncomputable def rmM (cs : List Msg) (hd sz id : Int) : Msg := if rmE cs hd sz id = 0 then cel cs hd.toNat (ixF (ord cs hd.toNat sz.toNat) id).toNat else zM

attribute [local go_sem ↓] Go.wp_at_zero Go.wp_at_succ
set_option maxHeartbeats 4000000 in
set_option maxRecDepth 20000 in
theorem remove_any (A : Option Addr) (n c : Nat) (cs : List Msg) (hd sz id : Int) (w : World) (hv : Ls w w.heap.size (.slice A n c) cs) :
    Calls Try.prog 28 #[.agg #[.slice A n c, .int .i64 hd, .int .i64 sz], .int .i64 id] w (RMP w (rmC cs hd sz id) (ifE (rmE cs hd sz id) hd) (ifE (rmE cs hd sz id) (sz - 1)) (rmM cs hd sz id) (rmE cs hd sz id)) := by
  obtain ⟨rfl, _, _⟩ := hv.len
  have HV := Lib.hid hv
  have HG := Lib.hid (fun w1 (h : Ls w1 w1.heap.size (.slice A cs.length c) cs) => gvalid_any A cs.length c cs hd sz w1 h)
  clear hv
  by_cases h0 : rgV cs hd sz = 0
  · obtain ⟨hn, hz, _, _⟩ := rgV_zero h0
    obtain ⟨⟨n1, n2⟩, ⟨k1, k2⟩, ⟨s1, s2⟩⟩ := nm_of hn
    obtain ⟨hd, rfl⟩ := Int.eq_ofNat_of_zero_le k1
    obtain ⟨sz, rfl⟩ := Int.eq_ofNat_of_zero_le s1
    simp only [Int.toNat_natCast] at hz
    have HO := Lib.hid (fun w1 (h : Ls w1 w1.heap.size (.slice A cs.length c) cs) => ordered_any A cs.length c cs hd sz w1 h hn)
    rw [h0] at HG
    rcases ixF_cases (ord cs hd sz) id with ⟨hi, _⟩ | ⟨x, hx, hi, _, _⟩
    · have hE : rmE cs hd sz id = 4 := by unfold rmE; rw [if_neg (by simpa using h0), if_pos (by simp only [Int.toNat_natCast]; rw [hi]; decide)]
      have HC := Lib.hid (show rmC cs hd sz id = [] from if_neg (by rw [hE]; decide))
      have HE3 := Lib.hid (show rmM cs hd sz id = zM from if_neg (by rw [hE]; decide))
      have HE1 := Lib.hid (show ifE 4 (hd : Int) = 0 from if_neg (by decide))
      have HE2 := Lib.hid (show ifE 4 ((sz : Int) - 1) = 0 from if_neg (by decide))
      have HI := Lib.hid hi
      rw [hE]
      clear h0 hn hz hi hE n1 n2 k1 k2 s1 s2
      generalize rmC cs hd sz id = ds at *
      generalize rmM cs hd sz id = Y at *
      go_enter Try.func28, Try.ntmps28
      go_wp2_with fail
      have HS := Lib.hid (PoAt.start w A cs.length c hd sz 24 26)
      obtain ⟨p, hp⟩ : ∃ p, p = w.heap.size := ⟨_, rfl⟩
      obtain ⟨r, hr⟩ : ∃ r, r = w.heap.size + 1 := ⟨_, rfl⟩
      obtain ⟨s, hs⟩ : ∃ s, s = w.heap.size + 1 + 1 := ⟨_, rfl⟩
      rw [← hs, ← hr, ← hp] at HS ⊢
      clear hp hr hs
      refine (HG.out _ (HV.out.up HS.out.bel)).mono ?_
      rintro e w1 ⟨rfl, hb⟩
      have HS1 := Lib.hid (HS.out.below hb)
      obtain ⟨⟨r0, r1, r2, r3, r4, r5, hpl⟩, _, _⟩ := HS1.out.facts
      clear hb HS
      go_wp2_with fail
      refine (HO.out _ (HV.out.up HS1.out.bel)).mono ?_
      rintro e w2 ⟨v, rfl, hnw, hl, hb⟩
      obtain ⟨A3, c3, rfl, _, _⟩ := hl.form
      have HL2 := Lib.hid hl
      have HS2 := Lib.hid (HS1.out.below hb)
      clear hb hl hnw r0 r1 r2 r3 r4 r5 hpl
      go_wp2_with fail
      refine (find_any _ _ _ _ id _ HL2.out).mono ?_
      rintro e w3 ⟨rfl, hb⟩
      have HS3 := Lib.hid (HS2.out.below hb)
      obtain ⟨_, ⟨t0, t1, t2, t3, t4, t5, hrl⟩, ⟨⟨v0, v1, v2, v3, v4, v5, v6⟩, f0, f1, f2, f3, f4, f5, f6, hsl⟩⟩ := HS3.out.facts
      have hrs : r ≠ s := by have := HS3.out.old; omega
      have hsr : s ≠ r := fun e => hrs e.symm
      have HB := Lib.hid (HS3.out.end1 (.slice none 0 0) (.int .i64 0) (.int .i64 0) zM)
      rw [HI.out]
      clear hb
      go_wp2
      exact bodyPost_ret (v := .tuple #[.agg #[.slice none 0 0, .int .i64 0, .int .i64 0], .agg #[.int .i64 0, .int .i64 0, .int .i64 0, .int .i64 0, .int .i64 0, .int .i64 0, .string ByteArray.empty], .int .i64 4]) (by simp only [results, Try.results28]; go_simp <;> rfl) rfl ⟨none, 0, by rw [HC.out, HE1.out, HE2.out, HE3.out]; rfl, nw_none, by rw [HC.out]; exact Ls.nil, HB.out⟩
    · rw [ord_len] at hx
      have hE : rmE cs hd sz id = 0 := by unfold rmE; rw [if_neg (by simpa using h0), if_neg (by simp only [Int.toNat_natCast]; rw [hi]; omega)]
      have hC : rmC cs hd sz id = fil cs.length hd ((ord cs hd sz).eraseIdx x) := by unfold rmC; rw [if_pos hE]; simp only [Int.toNat_natCast]; rw [hi, Int.toNat_natCast]
      have hM : rmM cs hd sz id = cel cs hd x := by unfold rmM; rw [if_pos hE]; simp only [Int.toNat_natCast]; rw [hi, Int.toNat_natCast]
      have HE1 := Lib.hid (show ifE 0 (hd : Int) = hd from if_pos rfl)
      have HE2 := Lib.hid (show ifE 0 ((sz : Int) - 1) = (sz : Int) - 1 from if_pos rfl)
      have HI := Lib.hid hi
      have HWO := Lib.hid (fun w1 (h : Ls w1 w1.heap.size (.slice A cs.length c) cs) => without_any A cs.length c cs hd sz x w1 h hn hz hx)
      rw [← hC, ← hM] at HWO
      rw [hE]
      have hs1 : (sz : Int) ≤ 12 := by omega
      have hx12 : (x : Int) ≤ 12 := by omega
      have hx0 : (0 : Int) ≤ (x : Int) := by omega
      clear h0 hn hz hi hE hC hM n1 n2 k1 k2 s1 s2
      generalize rmC cs hd sz id = ds at *
      generalize rmM cs hd sz id = X at *
      go_enter Try.func28, Try.ntmps28
      go_wp2_with fail
      have HS := Lib.hid (PoAt.start w A cs.length c hd sz 24 26)
      obtain ⟨p, hp⟩ : ∃ p, p = w.heap.size := ⟨_, rfl⟩
      obtain ⟨r, hr⟩ : ∃ r, r = w.heap.size + 1 := ⟨_, rfl⟩
      obtain ⟨s, hs⟩ : ∃ s, s = w.heap.size + 1 + 1 := ⟨_, rfl⟩
      rw [← hs, ← hr, ← hp] at HS ⊢
      clear hp hr hs
      refine (HG.out _ (HV.out.up HS.out.bel)).mono ?_
      rintro e w1 ⟨rfl, hb⟩
      have HS1 := Lib.hid (HS.out.below hb)
      obtain ⟨⟨r0, r1, r2, r3, r4, r5, hpl⟩, _, _⟩ := HS1.out.facts
      clear hb HS
      go_wp2_with fail
      refine (HO.out _ (HV.out.up HS1.out.bel)).mono ?_
      rintro e w2 ⟨v, rfl, hnw, hl, hb⟩
      obtain ⟨A3, c3, rfl, _, _⟩ := hl.form
      have HL2 := Lib.hid hl
      have HS2 := Lib.hid (HS1.out.below hb)
      clear hb hl hnw r0 r1 r2 r3 r4 r5 hpl
      go_wp2_with fail
      refine (find_any _ _ _ _ id _ HL2.out).mono ?_
      rintro e w3 ⟨rfl, hb⟩
      have HS3 := Lib.hid (HS2.out.below hb)
      rw [HI.out]
      clear hb HS1 HS2
      obtain ⟨⟨r0, r1, r2, r3, r4, r5, hpl⟩, _, _⟩ := HS3.out.facts
      go_wp2_with fail
      have HS1 := HS3
      refine (HWO.out _ (HV.out.up HS1.out.bel)).mono ?_
      rintro e w2 ⟨A2, c2, rfl, hnw, hl2, hb⟩
      have HS2 := Lib.hid (HS1.out.below hb)
      have HL2 := Lib.hid hl2
      clear r0 r1 r2 r3 r4 r5 hpl
      obtain ⟨⟨r0, r1, r2, r3, r4, r5, hpl⟩, _, _⟩ := HS2.out.facts
      have HS3 := Lib.hid ((HS2.out.all A2 ds.length c2 hd ((sz : Int) - 1)).alloc (.cells X.cs 26))
      have HY3 := Lib.hid (MAt.fresh (f := X.nth) (((w2.setCell ⟨p, 0, none⟩ (.slice A2 ds.length c2)).setCell ⟨p, 1, none⟩ (.int .i64 hd)).setCell ⟨p, 2, none⟩ (.int .i64 ((sz : Int) - 1))) X.id X.rt X.ep X.ct X.gn X.st X.bd 26 rfl rfl rfl rfl rfl rfl)
      have HE : (((w2.setCell ⟨p, 0, none⟩ (.slice A2 ds.length c2)).setCell ⟨p, 1, none⟩ (.int .i64 hd)).setCell ⟨p, 2, none⟩ (.int .i64 ((sz : Int) - 1))).heap.size = w2.heap.size := by simp
      rw [HE] at HY3
      have HNW := Lib.hid hnw
      have HYS := Lib.hid (show s < w2.heap.size from HS2.out.ms.1)
      have HS1L := Lib.hid (And.intro HS1.out.rb.lt (And.intro HS1.out.rs.lt HS1.out.ms.1))
      have HL3 := Lib.hid ((((HL2.out.off hnw (p := ⟨p, 0, none⟩) HS1.out.rb.lt (.slice A2 ds.length c2)).off hnw (p := ⟨p, 1, none⟩) HS1.out.rb.lt (.int .i64 hd)).off hnw (p := ⟨p, 2, none⟩) HS1.out.rb.lt (.int .i64 ((sz : Int) - 1))).alloc (by simp) (.cells X.cs 26))
      clear hb hl2 HE hnw
      go_wp2
      generalize (((w2.setCell ⟨p, 0, none⟩ (.slice A2 ds.length c2)).setCell ⟨p, 1, none⟩ (.int .i64 hd)).setCell ⟨p, 2, none⟩ (.int .i64 ((sz : Int) - 1))).alloc (.cells X.cs 26) = w5 at *
      have HS5 := HS3
      have HY5 := HY3
      have HB5 := Lib.hid (show w2.heap.size ≤ w5.heap.size from Nat.le_of_lt HY5.out.1)
      obtain ⟨y, hy⟩ : ∃ y, y = w2.heap.size := ⟨_, rfl⟩
      rw [← hy] at HY5 HYS ⊢
      clear hy r0 r1 r2 r3 r4 r5 hpl HS3 HY3
      obtain ⟨⟨r0, r1, r2, r3, r4, r5, hpl⟩, ⟨t0, t1, t2, t3, t4, t5, hrl⟩, ⟨⟨v0, v1, v2, v3, v4, v5, v6⟩, f0, f1, f2, f3, f4, f5, f6, hsl⟩⟩ := HS5.out.facts
      have hrs : r ≠ s := by have := HS5.out.old; omega
      have hsr : s ≠ r := fun e => hrs e.symm
      have HRP := Lib.hid (show r ≠ p by have := HS5.out.old; omega)
      have HSP := Lib.hid (show s ≠ p by have := HS5.out.old; omega)
      have HRY := Lib.hid (show r ≠ y by have := HS5.out.old; have := HYS.out; omega)
      have HSY := Lib.hid (show s ≠ y by have := HYS.out; omega)
      have HSA := Lib.hid (s10_of HS5.out.rb.drew (MAt.drew' HY5.out))
      have HSB := Lib.hid (s10_of (HS5.out.rb.set3 HRP.out (.slice A2 ds.length c2) (.int .i64 hd) (.int .i64 ((sz : Int) - 1))).drew (MAt.drew' (HY5.out.set3 HRY.out (.slice A2 ds.length c2) (.int .i64 hd) (.int .i64 ((sz : Int) - 1)))))
      have HSC := Lib.hid (s10_of (HS5.out.rb.lit7 HSP.out X).drew (MAt.drew' (HY5.out.lit7 HSY.out X)))
      have HSD := Lib.hid (s10_of ((HS5.out.rb.set3 HRP.out (.slice A2 ds.length c2) (.int .i64 hd) (.int .i64 ((sz : Int) - 1))).lit7 HSP.out X).drew (MAt.drew' ((HY5.out.set3 HRY.out (.slice A2 ds.length c2) (.int .i64 hd) (.int .i64 ((sz : Int) - 1))).lit7 HSY.out X)))
      have HSE := Lib.hid (s10_of ((HS5.out.rb.lit7 HSP.out X).set3 HRP.out (.slice A2 ds.length c2) (.int .i64 hd) (.int .i64 ((sz : Int) - 1))).drew (MAt.drew' ((HY5.out.lit7 HSY.out X).set3 HRY.out (.slice A2 ds.length c2) (.int .i64 hd) (.int .i64 ((sz : Int) - 1)))))
      go_region_held3 (fun W => W.cell? ⟨p, 0, none⟩ = some (.slice A2 ds.length c2) ∧ W.cell? ⟨p, 1, none⟩ = some (.int .i64 hd) ∧ W.cell? ⟨p, 2, none⟩ = some (.int .i64 ((sz : Int) - 1)) ∧ W.cell? ⟨y, 0, none⟩ = some (.int .i64 X.id) ∧ W.cell? ⟨y, 1, none⟩ = some (.int .i64 X.rt) ∧ W.cell? ⟨y, 2, none⟩ = some (.int .i64 X.ep) ∧ W.cell? ⟨y, 3, none⟩ = some (.int .i64 X.ct) ∧ W.cell? ⟨y, 4, none⟩ = some (.int .i64 X.gn) ∧ W.cell? ⟨y, 5, none⟩ = some (.int .i64 X.st) ∧ W.cell? ⟨y, 6, none⟩ = some (.string X.bd))
        (first | with_reducible exact HSA.out | with_reducible exact HSB.out | with_reducible exact HSC.out | with_reducible exact HSD.out | with_reducible exact HSE.out)
        ((fail))
      have HL := Lib.hid ((((HL3.out.off3 HNW.out HS1L.out.2.1 (.slice A2 ds.length c2) (.int .i64 hd) (.int .i64 ((sz : Int) - 1))).off7 HNW.out HS1L.out.2.2 X).drew).more (show w2.heap.size ≤ (((((((((((w5.setCell ⟨r, 0, none⟩ (.slice A2 ds.length c2)).setCell ⟨r, 1, none⟩ (.int .i64 hd)).setCell ⟨r, 2, none⟩ (.int .i64 ((sz : Int) - 1))).setCell ⟨s, 0, none⟩ (.int .i64 X.id)).setCell ⟨s, 1, none⟩ (.int .i64 X.rt)).setCell ⟨s, 2, none⟩ (.int .i64 X.ep)).setCell ⟨s, 3, none⟩ (.int .i64 X.ct)).setCell ⟨s, 4, none⟩ (.int .i64 X.gn)).setCell ⟨s, 5, none⟩ (.int .i64 X.st)).setCell ⟨s, 6, none⟩ (.string X.bd))).drew.heap.size from by simpa using HB5.out))
      have HB := Lib.hid (Below.drew (HS5.out.end1 (.slice A2 ds.length c2) (.int .i64 hd) (.int .i64 ((sz : Int) - 1)) X))
      clear HSA HSB HSC HSD HSE
      go_wp2
      exact bodyPost_ret (v := .tuple #[.agg #[(.slice A2 ds.length c2), (.int .i64 hd), (.int .i64 ((sz : Int) - 1))], X.v, .int .i64 0]) (by simp only [results, Try.results28]; go_simp <;> rfl) rfl ⟨A2, c2, by rw [HE1.out, HE2.out], nw_low HNW.out HS1.out.bel.size, HL.out, HB.out⟩
  · have hE : rmE cs hd sz id = rgV cs hd sz := if_pos h0
    have HC := Lib.hid (show rmC cs hd sz id = [] from if_neg (by rw [hE]; exact h0))
    have HE1 := Lib.hid (show ifE (rgV cs hd sz) hd = 0 from if_neg h0)
    have HE2 := Lib.hid (show ifE (rgV cs hd sz) (sz - 1) = 0 from if_neg h0)
    have HE3 := Lib.hid (show rmM cs hd sz id = zM from if_neg (by rw [hE]; exact h0))
    have hne : (rgV cs hd sz != 0) = true := bne_iff_ne.2 h0
    rw [hE]
    clear hE
    generalize rgV cs hd sz = x at *
    generalize rmC cs hd sz id = ds at *
    generalize rmM cs hd sz id = Y at *
    clear h0
    go_enter Try.func28, Try.ntmps28
    go_wp2_with fail
    have HS := Lib.hid (PoAt.start w A cs.length c hd sz 24 26)
    obtain ⟨p, hp⟩ : ∃ p, p = w.heap.size := ⟨_, rfl⟩
    obtain ⟨r, hr⟩ : ∃ r, r = w.heap.size + 1 := ⟨_, rfl⟩
    obtain ⟨s, hs⟩ : ∃ s, s = w.heap.size + 1 + 1 := ⟨_, rfl⟩
    rw [← hs, ← hr, ← hp] at HS ⊢
    clear hp hr hs
    refine (HG.out _ (HV.out.up HS.out.bel)).mono ?_
    rintro e w1 ⟨rfl, hb⟩
    have HS1 := Lib.hid (HS.out.below hb)
    obtain ⟨_, ⟨t0, t1, t2, t3, t4, t5, hrl⟩, ⟨⟨v0, v1, v2, v3, v4, v5, v6⟩, f0, f1, f2, f3, f4, f5, f6, hsl⟩⟩ := HS1.out.facts
    have hrs : r ≠ s := by have := HS1.out.old; omega
    have hsr : s ≠ r := fun e => hrs e.symm
    have HB := Lib.hid (HS1.out.end1 (.slice none 0 0) (.int .i64 0) (.int .i64 0) zM)
    clear hb HS
    go_wp2
    exact bodyPost_ret (v := .tuple #[.agg #[.slice none 0 0, .int .i64 0, .int .i64 0], .agg #[.int .i64 0, .int .i64 0, .int .i64 0, .int .i64 0, .int .i64 0, .int .i64 0, .string ByteArray.empty], .int .i64 x]) (by simp only [results, Try.results28]; go_simp <;> rfl) rfl ⟨none, 0, by rw [HC.out, HE1.out, HE2.out, HE3.out]; rfl, nw_none, by rw [HC.out]; exact Ls.nil, HB.out⟩
end Go.Proofs.Ytiklkagkmcapnaa
namespace Go.Proofs.Ytiklkagkmcapnaa
open Go.RowKit
set_option linter.unusedVariables false

theorem rindex_any (A : Option Addr) (n c : Nat) (l : List Msg) (id : Int) (w : World) (B : Nat) (hv : Ls w B (.slice A n c) l) :
    Calls Try.prog 60 #[.slice A n c, .int .i64 id] w fun e w' => e = .returned (.int .i64 (ixF l id)) ∧ w = w' := by
  obtain ⟨rfl, hm1, hm2⟩ := hv.len
  have hL : l.length ≤ 9223372036854775807 := by unfold maxLen at hm2; omega
  have HV := Lib.hid hv
  clear hv hm1 hm2
  go_enter Try.func60, Try.ntmps60
  go_wp2
  go_loop [5] (fun i => ∃ k : Nat, k ≤ l.length ∧ i = .int .i64 k ∧ ∀ j (hj : j < l.length), j < k → l[j].id ≠ id) (fun i => l.length - (intOf i).toNat)
  case atStart => exact ⟨0, by omega, rfl, fun j _ h => absurd h (by omega)⟩
  case round =>
    obtain ⟨k, hk, rfl, hno⟩ := hrel
    have HN := Lib.hid hno
    clear hno
    by_cases hlt : k < l.length
    · obtain ⟨b, o, rfl, hb, c0, -⟩ := HV.out.at_ hlt
      by_cases he : l[k].id = id
      · have HR := Lib.hid (ixF_hit hlt he HN.out)
        have hd : (l[k].id == id) = true := by simpa using he
        clear he
        go_wp2
        go_ret
        exact ⟨by rw [HR.out]; rfl, rfl⟩
      · have hd : (l[k].id == id) = false := by simpa using he
        have HE := Lib.hid he
        clear he
        go_wp2
        go_round
        case rel => exact ⟨k + 1, by omega, by go_num, fun j hj h => by
          by_cases e : j = k
          · subst e; exact HE.out
          · exact HN.out j hj (by omega)⟩
        case measure => simp [intOf]; omega
    · have HR := Lib.hid (ixF_none (id := id) (fun j hj => HN.out j hj (by omega)))
      go_wp2
      go_ret
      exact ⟨by rw [HR.out]; rfl, rfl⟩
end Go.Proofs.Ytiklkagkmcapnaa
