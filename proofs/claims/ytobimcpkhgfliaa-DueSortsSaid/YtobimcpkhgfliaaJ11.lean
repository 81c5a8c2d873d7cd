/- What is proved here: shardqueueref05.Pop and Remove by contracts; shardqueueref05.Until by a contract; (plain) an append of a slice that is read, as a step of a region that draws its order. -/
import Derived.Test.YtobimcpkhgfliaaJ10
import Derived.Test.YtobimcpkhgfliaaJ08
import Derived.Test.YtobimcpkhgfliaaJ09
import Derived.Deep.AppendLies
import Derived.Test.YtobimcpkhgfliaaJ01
namespace Go.Proofs.Ytobimcpkhgfliaa
open Go.RowKit
set_option linter.unusedVariables false

theorem rix5b_any (A : Option Addr) (n c : Nat) (l : List Du) (id : Int) (w : World) (hv : Dl w w.heap.size (.slice A n c) l) :
    Calls Try.prog 41 #[.slice A n c, .int .i64 id] w fun e w' => e = .returned (.int .i64 (ixD l id)) ∧ Below w.heap.size w w' :=
  (rix5_any A n c l id w _ hv).mono fun e w' ⟨h, hw⟩ => ⟨h, hw ▸ Below.refl _ _⟩
set_option maxHeartbeats 4000000 in
set_option maxRecDepth 20000 in
theorem rpop5_any (A : Option Addr) (n c : Nat) (l : List Du) (w : World) (hv : Dl w w.heap.size (.slice A n c) l) :
    Calls Try.prog 25 #[.slice A n c] w (DlX w (poR l) (poX l) (poE l)) := by
  obtain ⟨rfl, hm1, hm2⟩ := hv.len
  have HB := Lib.hid ((Below.refl w.heap.size w).alloc (Nat.le_refl _) (.cells #[.int .i64 0, .int .i64 0] 24))
  have HV0 := Lib.hid ((hv.alloc (Nat.le_refl _) (.cells #[.int .i64 0, .int .i64 0] 24)).more (show w.heap.size ≤ (w.alloc (.cells #[.int .i64 0, .int .i64 0] 24)).heap.size by simp))
  have HD0 := Lib.hid (show D2F (w.alloc (.cells #[.int .i64 0, .int .i64 0] 24)) w.heap.size zD from D2F.start w zD _)
  have HV := Lib.hid hv
  have HVA := Lib.hid (fun w1 hv => rvalid5_any A l.length c l w1 hv)
  clear hv hm1 hm2
  by_cases h0 : vaF l = 0
  · by_cases hl0 : l.length = 0
    · have hE : poE l = 4 := by unfold poE; rw [if_neg (by simpa using h0), if_pos hl0]
      have HR := Lib.hid (And.intro (show poR l = [] by unfold poR; rw [hE]; rfl) (show poX l = zD by unfold poX; rw [hE]; rfl))
      have hl := List.length_eq_zero_iff.1 hl0
      rw [h0] at HVA
      rw [hE]
      clear h0 hE
      subst hl
      clear hl0
      simp only [List.length_nil] at HVA HV0 HV ⊢
      go_enter Try.func25, Try.ntmps25
      go_wp2_with fail
      obtain ⟨p, hp⟩ : ∃ p, p = w.heap.size := ⟨_, rfl⟩
      have HPP := Lib.hid hp
      rw [← hp] at HD0 ⊢
      clear hp
      refine (HVA.out _ HV0.out).mono ?_
      rintro e w1 ⟨rfl, hb⟩
      have HB1 := Lib.hid (HB.out.trans (hb.mono HB.out.size))
      obtain ⟨c0, c1, f0, f1, hpl⟩ := HD0.out.below hb (by have := HPP.out; simp; omega)
      have HB2 := Lib.hid ((HB1.out.setCell (p := ⟨p, 0, none⟩) (by have := HPP.out; show _ ≤ p; omega) (.int .i64 0)).setCell (p := ⟨p, 1, none⟩) (by have := HPP.out; show _ ≤ p; omega) (.int .i64 0))
      clear hb
      go_wp2
      exact bodyPost_ret (v := .tuple #[.slice none 0 0, .agg #[.int .i64 0, .int .i64 0], .int .i64 4]) (by simp only [results, Try.results25]; go_simp <;> rfl) rfl ⟨none, 0, by rw [HR.out.1, HR.out.2]; rfl, nw_none, by rw [HR.out.1]; exact Dl.nil, HB2.out⟩
    · have hE : poE l = 0 := by unfold poE; rw [if_neg (by simpa using h0), if_neg hl0]
      obtain ⟨m, hm⟩ : ∃ m, l.length = m + 1 := ⟨l.length - 1, by omega⟩
      have HR := Lib.hid (And.intro (show poR l = cuF l 0 by unfold poR; rw [if_pos hE]) (show poX l = ge l 0 by unfold poX; rw [if_pos hE]))
      have h12 := (vaF_zero h0).1
      rw [h0] at HVA
      rw [hE]
      have HLEN := Lib.hid hm
      rw [hm] at HVA HV0 HV ⊢
      have HW := Lib.hid (fun w1 hv => (show Calls Try.prog 43 #[.slice A (m + 1) c, .int .i64 0] w1 (DlV w1 (cuF l 0)) from rcut_any A m c 0 l w1 hv (Nat.zero_le _) (by omega)))
      have hm9 : (m : Int) ≤ 99 := by omega
      clear h0 hE hl0 hm
      obtain ⟨b, o, rfl, hbl, c0, c1⟩ := HV.out.atg (k := 0) (by have := HLEN.out; omega)
      obtain ⟨X, hX⟩ : ∃ X, ge l 0 = X := ⟨_, rfl⟩
      rw [hX] at c0 c1 HR
      have HC := Lib.hid (And.intro c0 c1)
      have HBW := Lib.hid hbl
      clear hX c0 c1 hbl
      go_enter Try.func25, Try.ntmps25
      go_wp2_with fail
      obtain ⟨p, hp⟩ : ∃ p, p = w.heap.size := ⟨_, rfl⟩
      have HPP := Lib.hid hp
      rw [← hp] at HD0 ⊢
      clear hp
      refine (HVA.out _ HV0.out).mono ?_
      rintro e w1 ⟨rfl, hb⟩
      have HB1 := Lib.hid (HB.out.trans (hb.mono HB.out.size))
      have HD1 := Lib.hid (HD0.out.below hb (by have := HPP.out; simp; omega))
      clear hb
      have d0 : w1.cell? ⟨b, o, none⟩ = some (.int .i64 X.dl) := by have := (HB1.out.cell (p := ⟨b, o + 0 * 2, none⟩) HBW.out).trans HC.out.1; simpa using this
      have d1 : w1.cell? ⟨b, o + 1, none⟩ = some (.int .i64 X.id) := by have := (HB1.out.cell (p := ⟨b, o + 0 * 2 + 1, none⟩) HBW.out).trans HC.out.2; simpa using this
      have HVW := Lib.hid (show Dl w1.drew w1.drew.heap.size (.slice (some ⟨b, o, none⟩) (m + 1) c) l from HV.out.up HB1.out.drew)
      have HS0 := Lib.hid (show w1.drew.cell? ⟨b, o, none⟩ = some (.int .i64 X.dl) ∧ w1.drew.cell? ⟨b, o + 1, none⟩ = some (.int .i64 X.id) from ⟨d0, d1⟩)
      have HPB := Lib.hid (show b < p from by have := HPP.out; have := HBW.out; omega)
      have HAF := Lib.hid (fun (w2 : World) (hb : Below w1.drew.heap.size w1.drew w2) => show (w2.cell? ⟨b, o, none⟩ = some (.int .i64 X.dl) ∧ w2.cell? ⟨b, o + 1, none⟩ = some (.int .i64 X.id)) ∧ D2F w2 p zD ∧ Below w.heap.size w w2 from
        ⟨⟨(hb.cell (p := ⟨b, o, none⟩) (Nat.lt_of_lt_of_le HBW.out HB1.out.size)).trans d0, (hb.cell (p := ⟨b, o + 1, none⟩) (Nat.lt_of_lt_of_le HBW.out HB1.out.size)).trans d1⟩, D2F.below (W := w1.drew) HD1.out hb HD1.out.2.2.2.2, HB1.out.trans ((drew_bel hb).mono HB1.out.size)⟩)
      have HAG := Lib.hid (fun (w2 : World) (hs : w2.cell? ⟨b, o, none⟩ = some (.int .i64 X.dl) ∧ w2.cell? ⟨b, o + 1, none⟩ = some (.int .i64 X.id)) => show ((w2.setCell ⟨p, 0, none⟩ (.int .i64 X.dl)).setCell ⟨p, 1, none⟩ (.int .i64 X.id)).cell? ⟨b, o, none⟩ = some (.int .i64 X.dl) ∧ ((w2.setCell ⟨p, 0, none⟩ (.int .i64 X.dl)).setCell ⟨p, 1, none⟩ (.int .i64 X.id)).cell? ⟨b, o + 1, none⟩ = some (.int .i64 X.id) from by
        have := HPB.out
        refine ⟨?_, ?_⟩
        · show ((w2.setCell ⟨p, 0, none⟩ (.int .i64 X.dl)).setCell ⟨p, 1, none⟩ (.int .i64 X.id)).cell? ⟨b, o, none⟩ = _
          rw [World.cell?_setCell_other _ _ _ _ (fun e => by injection e with e _ _; omega), World.cell?_setCell_other _ _ _ _ (fun e => by injection e with e _ _; omega)]; exact hs.1
        · show ((w2.setCell ⟨p, 0, none⟩ (.int .i64 X.dl)).setCell ⟨p, 1, none⟩ (.int .i64 X.id)).cell? ⟨b, o + 1, none⟩ = _
          rw [World.cell?_setCell_other _ _ _ _ (fun e => by injection e with e _ _; omega), World.cell?_setCell_other _ _ _ _ (fun e => by injection e with e _ _; omega)]; exact hs.2)
      go_wp2_with fail
      go_region_held3 (fun W => W.cell? ⟨b, o, none⟩ = some (.int .i64 X.dl) ∧ W.cell? ⟨b, o + 1, none⟩ = some (.int .i64 X.id))
        (first | with_reducible exact HS0.out | with_reducible exact HS1.out | with_reducible exact HS2.out)
        ((go_at_call 43; (with_reducible refine (HW.out _ HVW.out).mono ?_); rintro e w2 ⟨A2, c2, rfl, hnw, hl2, hb2⟩; obtain ⟨hs2, hd2, hbw2⟩ := HAF.out _ hb2; have HS1 := Lib.hid hs2; have HS2 := Lib.hid (HAG.out _ hs2); have HB2 := Lib.hid hbw2; have HL2 := Lib.hid hl2; have HNW := Lib.hid hnw; obtain ⟨x0, x1, f0, f1, hpl⟩ := hd2; clear hs2 hbw2 hl2 hnw hb2))
      have HPW := Lib.hid (show p < w1.heap.size from HD1.out.2.2.2.2)
      have HL3 := Lib.hid (((HL2.out.off HNW.out (p := ⟨p, 0, none⟩) HPW.out (.int .i64 X.dl)).off HNW.out (p := ⟨p, 1, none⟩) HPW.out (.int .i64 X.id)).more (show w2.heap.size ≤ ((w2.setCell ⟨p, 0, none⟩ (.int .i64 X.dl)).setCell ⟨p, 1, none⟩ (.int .i64 X.id)).heap.size by simp))
      have HB3 := Lib.hid ((HB2.out.setCell (p := ⟨p, 0, none⟩) (by have := HPP.out; show _ ≤ p; omega) (.int .i64 X.dl)).setCell (p := ⟨p, 1, none⟩) (by have := HPP.out; show _ ≤ p; omega) (.int .i64 X.id))
      have HN3 := Lib.hid (nw_low HNW.out (show w.heap.size ≤ w1.drew.heap.size from HB1.out.size))
      have hq0 : ((w2.setCell ⟨p, 0, none⟩ (.int .i64 X.dl)).setCell ⟨p, 1, none⟩ (.int .i64 X.id)).cell? ⟨p, 0, none⟩ = some (.int .i64 X.dl) := by
        rw [World.cell?_setCell_other _ _ _ _ (fun e => by injection e with _ e _; cases e), World.cell?_setCell_same' _ _ _ (by rw [x0]; rfl)]
      have hq1 : ((w2.setCell ⟨p, 0, none⟩ (.int .i64 X.dl)).setCell ⟨p, 1, none⟩ (.int .i64 X.id)).cell? ⟨p, 1, none⟩ = some (.int .i64 X.id) := by
        rw [World.cell?_setCell_same' _ _ _ (by rw [World.cell?_setCell_other _ _ _ _ (fun e => by injection e with _ e _; cases e), x1]; rfl)]
      clear x0 x1 f0 f1 hpl
      generalize ((w2.setCell ⟨p, 0, none⟩ (.int .i64 X.dl)).setCell ⟨p, 1, none⟩ (.int .i64 X.id)) = w3 at *
      go_wp2
      exact bodyPost_ret (v := .tuple #[.slice A2 (cuF l 0).length c2, .agg #[.int .i64 X.dl, .int .i64 X.id], .int .i64 0]) (by simp only [results, Try.results25]; go_simp <;> rfl) rfl ⟨A2, c2, by rw [HR.out.1, HR.out.2], HN3.out, by rw [HR.out.1]; exact HL3.out, HB3.out⟩
  · have hE : poE l = vaF l := by unfold poE; rw [if_pos h0]
    have hE0 : poE l ≠ 0 := by rw [hE]; exact h0
    have HR := Lib.hid (And.intro (show poR l = [] by unfold poR; rw [if_neg hE0]) (show poX l = zD by unfold poX; rw [if_neg hE0]))
    have hne : (vaF l != 0) = true := bne_iff_ne.2 h0
    rw [hE]
    generalize vaF l = x at *
    clear h0 hE hE0
    go_enter Try.func25, Try.ntmps25
    go_wp2_with fail
    obtain ⟨p, hp⟩ : ∃ p, p = w.heap.size := ⟨_, rfl⟩
    have HPP := Lib.hid hp
    rw [← hp] at HD0 ⊢
    clear hp
    refine (HVA.out _ HV0.out).mono ?_
    rintro e w1 ⟨rfl, hb⟩
    have HB1 := Lib.hid (HB.out.trans (hb.mono HB.out.size))
    obtain ⟨c0, c1, f0, f1, hpl⟩ := HD0.out.below hb (by have := HPP.out; simp; omega)
    have HB2 := Lib.hid ((HB1.out.setCell (p := ⟨p, 0, none⟩) (by have := HPP.out; show _ ≤ p; omega) (.int .i64 0)).setCell (p := ⟨p, 1, none⟩) (by have := HPP.out; show _ ≤ p; omega) (.int .i64 0))
    clear hb
    go_wp2
    exact bodyPost_ret (v := .tuple #[.slice none 0 0, .agg #[.int .i64 0, .int .i64 0], .int .i64 x]) (by simp only [results, Try.results25]; go_simp <;> rfl) rfl ⟨none, 0, by rw [HR.out.1, HR.out.2]; rfl, nw_none, by rw [HR.out.1]; exact Dl.nil, HB2.out⟩

set_option maxHeartbeats 2000000 in
theorem rremove5_any (A : Option Addr) (n c : Nat) (l : List Du) (id : Int) (w : World) (hv : Dl w w.heap.size (.slice A n c) l) :
    Calls Try.prog 26 #[.slice A n c, .int .i64 id] w (DlE w (rmR l id) (rmE l id)) := by
  obtain ⟨rfl, hm1, hm2⟩ := hv.len
  have HV := Lib.hid hv
  have HVA := Lib.hid (fun w1 hv => rvalid5_any A l.length c l w1 hv)
  have HFI := Lib.hid (fun w1 hv => rix5b_any A l.length c l id w1 hv)
  clear hv hm1 hm2
  by_cases h0 : vaF l = 0
  · have h12 := (vaF_zero h0).1
    by_cases hi : ixD l id < 0
    · have hE : rmE l id = 4 := by unfold rmE; rw [if_neg (by simpa using h0), if_pos hi]
      have HR := Lib.hid (show rmR l id = [] by unfold rmR; rw [hE]; rfl)
      rw [h0] at HVA
      rw [hE]
      generalize ixD l id = r at *
      clear h0 hE
      go_enter Try.func26, Try.ntmps26
      go_wp2_with fail
      refine (HVA.out _ HV.out).mono ?_
      rintro e w1 ⟨rfl, hb⟩
      have HB1 := Lib.hid hb
      clear hb
      go_wp2_with fail
      refine (HFI.out _ (HV.out.up HB1.out)).mono ?_
      rintro e w2 ⟨rfl, hb⟩
      have HB2 := Lib.hid (HB1.out.trans (hb.mono HB1.out.size))
      clear hb
      go_wp2
      exact bodyPost_ret (v := .tuple #[.slice none 0 0, .int .i64 4]) (by simp only [results, Try.results26]; go_simp <;> rfl) rfl ⟨none, 0, by rw [HR.out]; rfl, nw_none, by rw [HR.out]; exact Dl.nil, HB2.out⟩
    · have hE : rmE l id = 0 := by unfold rmE; rw [if_neg (by simpa using h0), if_neg hi]
      obtain ⟨_, k, hk, hke, _⟩ := rmE_zero hE
      obtain ⟨m, hm⟩ : ∃ m, l.length = m + 1 := ⟨l.length - 1, by omega⟩
      have HR := Lib.hid (show rmR l id = cuF l k by unfold rmR; rw [if_pos hE, hke]; rfl)
      rw [h0] at HVA
      rw [hE]
      rw [hke] at HFI
      rw [hm] at HVA HFI HV ⊢
      have HW := Lib.hid (fun w1 hv => rcut_any A m c k l w1 hv (by omega) (by omega))
      have hk0 : ¬ ((k : Int) < 0) := by omega
      clear h0 hE hi hk hke hm h12
      go_enter Try.func26, Try.ntmps26
      go_wp2_with fail
      refine (HVA.out _ HV.out).mono ?_
      rintro e w1 ⟨rfl, hb⟩
      have HB1 := Lib.hid hb
      clear hb
      go_wp2_with fail
      refine (HFI.out _ (HV.out.up HB1.out)).mono ?_
      rintro e w2 ⟨rfl, hb⟩
      have HB2 := Lib.hid (HB1.out.trans (hb.mono HB1.out.size))
      clear hb
      go_wp2_with fail
      refine (HW.out _ (HV.out.up HB2.out)).mono ?_
      rintro e w3 ⟨A3, c3, rfl, hnw, hl, hb⟩
      have HB3 := Lib.hid (HB2.out.trans (hb.mono HB2.out.size))
      have HN := Lib.hid (nw_low hnw HB2.out.size)
      have HL := Lib.hid hl
      clear hb hnw hl
      go_wp2
      exact bodyPost_ret (v := .tuple #[.slice A3 (cuF l k).length c3, .int .i64 0]) (by simp only [results, Try.results26]; go_simp <;> rfl) rfl ⟨A3, c3, by rw [HR.out], HN.out, by rw [HR.out]; exact HL.out, HB3.out⟩
  · have hE : rmE l id = vaF l := by unfold rmE; rw [if_pos h0]
    have HR := Lib.hid (show rmR l id = [] by unfold rmR; rw [if_neg (by rw [hE]; exact h0)])
    have hne : (vaF l != 0) = true := bne_iff_ne.2 h0
    rw [hE]
    generalize vaF l = x at *
    clear h0 hE
    go_enter Try.func26, Try.ntmps26
    go_wp2_with fail
    refine (HVA.out _ HV.out).mono ?_
    rintro e w1 ⟨rfl, hb⟩
    have HB1 := Lib.hid hb
    clear hb
    go_wp2
    exact bodyPost_ret (v := .tuple #[.slice none 0 0, .int .i64 x]) (by simp only [results, Try.results26]; go_simp <;> rfl) rfl ⟨none, 0, by rw [HR.out]; rfl, nw_none, by rw [HR.out]; exact Dl.nil, HB1.out⟩
end Go.Proofs.Ytobimcpkhgfliaa
namespace Go.Proofs.Ytobimcpkhgfliaa
open Go.RowKit
set_option linter.unusedVariables false

theorem unR_bad {g : List Du} {now : Int} (h : vaF g ≠ 0) : unR g now = [] := if_neg h
theorem unR_nil {g : List Du} {now : Int} (h : g.length = 0) : unR g now = [] := by
  unfold unR
  split
  · rw [unF, dif_neg (fun hc => by omega)]
  · rfl
theorem unR_late {g : List Du} {now : Int} (h : ¬ (ge g 0).dl ≤ now) : unR g now = [] := by
  unfold unR
  split
  · rw [unF, dif_neg (fun hc => h hc.2)]
  · rfl
theorem unR_step {g : List Du} {now : Int} (hv : vaF g = 0) (h0 : 0 < g.length) (h : (ge g 0).dl ≤ now) : unR g now = (ge g 0).id :: unR (cuF g 0) now := by
  unfold unR
  rw [if_pos hv, if_pos (vaF_cut hv h0), unF, dif_pos ⟨h0, h⟩]
/-- The state of Until's loop. -/
structure UnAt (w : World) (A : Option Addr) (n c : Nat) (g : List Du) (v : Value) (acc : List Int) (W : World) : Prop where
  dl : Dl W W.heap.size (.slice A n c) g
  own : W.ownsRow w.heap.size 3 1 v acc.length (acc.map i64v)
  off : ∀ q, v.ownBlock = some q → ∀ a, A = some a → a.block ≠ q
  bel : Below w.heap.size w W
theorem own_up {W W' : World} {base n : Nat} {e : TypeId} {size : Nat} {v : Value} {xs : List Value} (h : W.ownsRow base e size v n xs) (hb : Below W.heap.size W W') : W'.ownsRow base e size v n xs := by
  rcases h.2 with ⟨hv, h0⟩ | ⟨q, cap, cur, hv, hq, hh, r⟩
  · exact ⟨h.1, .inl ⟨hv, h0⟩⟩
  · exact ⟨h.1, .inr ⟨q, cap, cur, hv, hq, (hb.block q (Array.getElem?_eq_some_iff.1 hh).1).trans hh, r⟩⟩
theorem Dl.keepb {w w' : World} {B : Nat} {A : Option Addr} {n c : Nat} {l : List Du} (h : Dl w B (.slice A n c) l) (hk : ∀ a, A = some a → ∀ o, w'.cell? ⟨a.block, o, none⟩ = w.cell? ⟨a.block, o, none⟩) : Dl w' B (.slice A n c) l := by
  obtain ⟨A', c', e, hl, hm, hr⟩ := h
  injection e with e1 e2 e3
  subst e1; subst e3
  refine ⟨A, c, by rw [e2], hl, hm, hr.1, fun h0 => ?_⟩
  obtain ⟨b, o, e, hb, hc⟩ := hr.2 h0
  exact ⟨b, o, e, hb, fun j u hu => (hk _ e (o + j)).trans (hc j u hu)⟩
theorem UnAt.below {w W W' : World} {A : Option Addr} {n c : Nat} {g : List Du} {v : Value} {acc : List Int} (h : UnAt w A n c g v acc W) (hb : Below W.heap.size W W') : UnAt w A n c g v acc W' := by
  exact ⟨h.dl.up hb, own_up h.own hb, h.off, h.bel.trans (hb.mono h.bel.size)⟩
/-- One round. -/
theorem UnAt.next {w w1 w4 w5 : World} {b o n c g6 cap6 : Nat} {g : List Du} {v : Value} {acc : List Int} {x : Int} {A5 : Option Addr} {n5 c5 : Nat} {l5 : List Du} (h : UnAt w (some ⟨b, o, none⟩) n c g v acc w1) (hbl : b < w1.heap.size) {ob : Obj}
    (hown : w4.ownsRow w.heap.size 3 1 (.slice (some ⟨g6, 0, none⟩) (acc.length + 1) cap6) (acc.length + 1) (acc.map i64v ++ [i64v x])) (hg : (w1.alloc ob).grownBy w4 v.ownBlock) (hlt : g6 < w4.heap.size) :
    Dl w4 w4.heap.size (.slice (some ⟨b, o, none⟩) n c) g ∧ (Nw w4.heap.size A5 → Dl w5 w5.heap.size (.slice A5 n5 c5) l5 → Below w4.heap.size w4 w5 → UnAt w A5 n5 c5 l5 (.slice (some ⟨g6, 0, none⟩) (acc.length + 1) cap6) (acc ++ [x]) w5) := by
  have hne : some b ≠ v.ownBlock := fun e => h.off b e.symm _ rfl rfl
  have hsz : w1.heap.size ≤ w4.heap.size := by have := hg.size; simp at this; omega
  have hb4 : Below w.heap.size w w4 := (h.bel.alloc h.bel.size ob).grown hg (by have := h.bel.size; simp; omega) (fun k e => (h.own.lt k e).1)
  refine ⟨((h.dl.alloc (Nat.le_refl _) ob).keepb fun a e o' => ?_).more hsz, fun hnw hd hb => ⟨hd, ?_, fun q e a ea => ?_, hb4.trans (hb.mono hb4.size)⟩⟩
  · injection e with e
    subst e
    exact hg.cell_far ⟨b, o', none⟩ (by simp; omega) hne
  · have h2 := own_up hown hb
    rw [List.map_append, List.length_append]
    exact h2
  · have := hnw a ea
    simp [Value.ownBlock] at e
    omega

set_option maxHeartbeats 8000000 in
set_option maxRecDepth 20000 in
theorem runtil_any (A : Option Addr) (n c : Nat) (l : List Du) (now : Int) (w : World) (hv : Dl w w.heap.size (.slice A n c) l) :
    Calls Try.prog 22 #[.slice A n c, .int .i64 now] w (NrP w (unR l now)) := by
  have HU := Lib.hid (show UnAt w A n c l (.slice none 0 0) [] w from ⟨hv, World.ownsRow_nil _ _ _ _, fun q e => by simp [Value.ownBlock] at e, Below.refl _ _⟩)
  obtain ⟨i0, hi0, hz0⟩ := Option.map_eq_some_iff.1 info_int5
  simp only [Prod.mk.injEq] at hz0
  have HI := Lib.hid hi0
  have HZ := Lib.hid hz0
  clear hv hi0 hz0
  go_enter Try.func22, Try.ntmps22
  go_wp2
  go_loopw [0, 5] (fun hv vv wr => ∃ (A' : Option Addr) (n' c' : Nat) (g : List Du) (acc : List Int), hv = .slice A' n' c' ∧ UnAt w A' n' c' g vv acc wr ∧ acc ++ unR g now = unR l now ∧ (acc = [] ∨ acc.length + g.length ≤ 12)) (fun hv _ _ => match hv with | .slice _ k _ => k | _ => 0)
  case atStart => exact ⟨A, n, c, l, [], rfl, HU.out, rfl, .inl rfl⟩
  case round =>
    obtain ⟨A', n', c', g, acc, rfl, hun, hacc, hlen⟩ := hrel
    have HUN := Lib.hid hun
    have HAC := Lib.hid hacc
    have HLE := Lib.hid hlen
    obtain ⟨hn', hm1, hm2⟩ := hun.dl.len
    have HN := Lib.hid (And.intro hn' (And.intro hm1 hm2))
    have HVA := Lib.hid (rvalid5_any A' n' c' g wr hun.dl)
    have hmx : (n' : Int) ≤ 9223372036854775807 := by unfold maxLen at hm2; omega
    clear hun hacc hlen hn' hm1 hm2
    by_cases h0 : vaF g = 0
    · rw [h0] at HVA
      have HV0 := Lib.hid h0
      clear h0
      by_cases hn0 : 0 < n'
      · have hn0' : (0 : Int) < (n' : Int) := by omega
        obtain ⟨b, o, rfl, hbl, c0, c1⟩ := HUN.out.dl.atg (k := 0) (by have := HN.out.1; omega)
        obtain ⟨X, hX⟩ : ∃ X, ge g 0 = X := ⟨_, rfl⟩
        have HX := Lib.hid hX
        rw [hX] at c0 c1
        have HC := Lib.hid (And.intro c0 c1)
        have HBL := Lib.hid hbl
        clear hX c0 c1 hbl
        by_cases hle : X.dl ≤ now
        · have HST := Lib.hid (show unR g now = X.id :: unR (cuF g 0) now by rw [← HX.out]; exact unR_step HV0.out (by have := HN.out.1; omega) (by rw [HX.out]; exact hle))
          have hg12 := (vaF_zero HV0.out).1
          have HAL := Lib.hid (show acc.length + g.length ≤ 12 by rcases HLE.out with e | e; · rw [e]; simpa using hg12
                                                                  · exact e)
          clear hg12
          obtain ⟨m, hm⟩ : ∃ m, n' = m + 1 := ⟨n' - 1, by omega⟩
          subst hm
          have HCU := Lib.hid (fun w1 hv => (show Calls Try.prog 43 #[.slice (some ⟨b, o, none⟩) (m + 1) c', .int .i64 0] w1 (DlV w1 (cuF g 0)) from rcut_any (some ⟨b, o, none⟩) m c' 0 g w1 hv (Nat.zero_le _) (by have := HN.out.1; have := HAL.out; omega)))
          go_wp2_with fail
          refine HVA.out.mono ?_
          rintro e w1 ⟨rfl, hb⟩
          have HU1 := Lib.hid (HUN.out.below hb)
          have d0 : w1.cell? ⟨b, o, none⟩ = some (.int .i64 X.dl) := by have := (hb.cell (p := ⟨b, o + 0 * 2, none⟩) HBL.out).trans HC.out.1; simpa using this
          have d1 : w1.cell? ⟨b, o + 1, none⟩ = some (.int .i64 X.id) := by have := (hb.cell (p := ⟨b, o + 0 * 2 + 1, none⟩) HBL.out).trans HC.out.2; simpa using this
          have HO2 := Lib.hid (HU1.out.own.alloc (.cells #[.int .i64 X.id] 3))
          have HN2 := Lib.hid (show ∀ j u, ([i64v X.id] : List Value)[j]? = some u → (w1.alloc (.cells #[.int .i64 X.id] 3)).cell? ((⟨w1.heap.size, 0, none⟩ : Addr).add j) = some u from fun j u hu => by
            rw [add_mk, Nat.zero_add, World.cell?_alloc_new, ← hu]
            simp [i64v])
          have HWS := Lib.hid (show w.heap.size ≤ w1.heap.size from HU1.out.bel.size)
          have HBS := Lib.hid hb.size
          clear hb
          go_wp2_with (at_builtin; refine wpList_append_lies _ rfl _ _ 27 rfl w.heap.size 3 i0 _ 1 8 Try.underlying27 HI.out HZ.out.1 HZ.out.2.1 HZ.out.2.2 rfl (by omega) _ acc.length (acc.map i64v) rfl HO2.out ⟨w1.heap.size, 0, none⟩ 1 1 [i64v X.id] rfl rfl HN2.out (by simp [i64v, Value.oneCell']) (by omega) (by have := HAL.out; unfold maxLen; omega) (by have := HAL.out; omega) (by have := HWS.out; simp; omega) _ rfl ?_; intro g6 cap6 w4 hown6 hgrow6 hat6 hlt6; have HNX := Lib.hid (fun w5 A5 n5 c5 l5 => HU1.out.next (w5 := w5) (A5 := A5) (n5 := n5) (c5 := c5) (l5 := l5) (Nat.lt_of_lt_of_le HBL.out HBS.out) hown6 hgrow6 hlt6); clear hown6 hgrow6 hat6 hlt6)
          refine (HCU.out _ (HNX.out w4 none 0 0 []).1).mono ?_
          rintro e w5 ⟨A5, c5, rfl, hnw5, hl5, hb5⟩
          have HU5 := Lib.hid ((HNX.out w5 A5 (cuF g 0).length c5 (cuF g 0)).2 hnw5 hl5 hb5)
          have HCL := Lib.hid (show (cuF g 0).length = m by rw [cuF_len (by have := HN.out.1; omega)]; have := HN.out.1; omega)
          clear hnw5 hl5 hb5 d0 d1
          go_wp2
          go_roundw
          case rel => exact ⟨A5, (cuF g 0).length, c5, cuF g 0, acc ++ [X.id], rfl, HU5.out, by rw [List.append_assoc, ← HAC.out, HST.out]; rfl, .inr (by rw [List.length_append, HCL.out]; have := HAL.out; have := HN.out.1; simp; omega)⟩
          case measure => have := HCL.out; simp; omega
        · have HE := Lib.hid (unR_late (g := g) (now := now) (by rw [HX.out]; exact hle))
          go_wp2_with fail
          refine HVA.out.mono ?_
          rintro e w1 ⟨rfl, hb⟩
          have HU1 := Lib.hid (HUN.out.below hb)
          have d0 : w1.cell? ⟨b, o, none⟩ = some (.int .i64 X.dl) := by have := (hb.cell (p := ⟨b, o + 0 * 2, none⟩) HBL.out).trans HC.out.1; simpa using this
          clear hb
          go_wp2
          go_ret
          exact ⟨_, rfl, by rw [← HAC.out, HE.out, List.append_nil]; exact Nr.of_own HU1.out.own, HU1.out.bel⟩
      · have HE := Lib.hid (unR_nil (g := g) (now := now) (by have := HN.out.1; omega))
        have hn0' : ¬ (0 : Int) < (n' : Int) := by omega
        go_wp2_with fail
        refine HVA.out.mono ?_
        rintro e w1 ⟨rfl, hb⟩
        have HU1 := Lib.hid (HUN.out.below hb)
        clear hb
        go_wp2
        go_ret
        exact ⟨_, rfl, by rw [← HAC.out, HE.out, List.append_nil]; exact Nr.of_own HU1.out.own, HU1.out.bel⟩
    · have HE := Lib.hid (unR_bad (g := g) (now := now) h0)
      have hne : (vaF g == 0) = false := by simpa using h0
      generalize vaF g = x at *
      clear h0
      go_wp2_with fail
      refine HVA.out.mono ?_
      rintro e w1 ⟨rfl, hb⟩
      have HU1 := Lib.hid (HUN.out.below hb)
      clear hb
      go_wp2
      go_ret
      exact ⟨_, rfl, by rw [← HAC.out, HE.out, List.append_nil]; exact Nr.of_own HU1.out.own, HU1.out.bel⟩
end Go.Proofs.Ytobimcpkhgfliaa
namespace Go.Proofs.Ytobimcpkhgfliaa
open Go.RowKit

/-- The step of an append of a list that reads, in a region that draws its order. -/
theorem step_append_rd {P : Program} (w : World) {ops : Array Oper} {o : Oper} {a : Act} {K : Act → World → Prop} {Q : Exit → Act → World → Prop} {E : Prop} (hgd : o.guard = none) (s x : Operand) (t : TypeId)
    (ho : o.op = .call { callee := .builtin .append, args := #[s, x], argTypes := #[t, t] })
    (base : Nat) (e : TypeId) (i : TypeInfo) (z : Value) (size bytes : Nat) (ht : P.underlying t = some (.slice e)) (hi : P.info? e = some i) (hz : i.zero = some z)
    (hsize : i.size = size) (hby : i.bytes = bytes) (hzs : z.cells.size = size) (hsz : 0 < size)
    (v : Value) (n : Nat) (xs : List Value) (hs : a.eval s = v) (hown : w.ownsRow base e size v n xs)
    (B : Nat) (A : Option Addr) (m c : Nat) (news : List Value) (hx : a.eval x = .slice A m c) (hr : Rd w B size A m news) (h1 : ∀ u ∈ news, u.oneCell' = true)
    (h63 : n + m ≤ maxLen) (hbytes : (n + m) * bytes ≤ 140737488355328) (hbase : base ≤ w.heap.size)
    (h : ∀ v' w', w'.ownsRow base e size v' (n + m) (xs ++ news) → w.grownBy w' v.ownBlock → (v'.ownBlock = v.ownBlock ∨ v'.ownBlock = some w.heap.size) → K (a.put o.dst v') w') :
    if Region.wanted o (yielded ops a.tmps) = true then Oper.wp P o a w K Q else E := by
  have hw : Region.wanted o (yielded ops a.tmps) = true := by simp [Region.wanted, hgd]
  rw [if_pos hw]
  exact wp_append_rd w s x t ho base e i z size bytes ht hi hz hsize hby hzs hsz v n xs hs hown B A m c news hx hr h1 h63 hbytes hbase h
end Go.Proofs.Ytobimcpkhgfliaa
