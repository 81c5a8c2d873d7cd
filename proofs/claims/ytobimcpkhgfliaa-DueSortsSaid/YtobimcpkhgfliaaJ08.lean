/- What is proved here: slices.SortedFunc of at most twelve deadlines; due.Pop and due.Remove by contracts; (plain) the source of numbers that the statements' base reads from: what lies at its block, and how it is kept. -/
import Derived.Test.YtobimcpkhgfliaaJ05
import Derived.Test.YtobimcpkhgfliaaJ06
import Derived.Test.YtobimcpkhgfliaaJ07
import Derived.Test.YtobimcpkhgfliaaJ01
import Derived.Deep.AppendLies
import Derived.Maps.AppendAt
namespace Go.Proofs.Ytobimcpkhgfliaa
open Go.RowKit
set_option linter.unusedVariables false

/-! Of nothing: nothing happens. -/
set_option maxHeartbeats 4000000 in
theorem isort_nil (w : World) : Calls Try.prog 62 #[.slice none 0 0, .int .i64 0, .int .i64 0, .func (.func 39) #[] #[]] w (fun e w' => e = .returned (.tuple #[]) ∧ w = w') := by
  go_enter Try.func62, Try.ntmps62
  go_wp2
  go_loopw [8] (fun iv wr => iv = .int .i64 1 ∧ wr = w) (fun _ _ => 0)
  case atStart => exact ⟨rfl, rfl⟩
  case round =>
    obtain ⟨rfl, rfl⟩ := hrel
    go_wp2
    go_end0
    exact ⟨rfl, rfl⟩
set_option maxHeartbeats 4000000 in
set_option maxRecDepth 20000 in
theorem pdq_nil (lim : Int) (w : World) : Calls Try.prog 59 #[.slice none 0 0, .int .i64 0, .int .i64 0, .int .i64 lim, .func (.func 39) #[] #[]] w (fun e w' => e = .returned (.tuple #[]) ∧ w = w') := by
  have HI := Lib.hid (isort_nil w)
  go_enter Try.func59, Try.ntmps59
  go_wp2
  go_loopw [1, 2, 3, 10, 11] (fun a b l x y wr => a = .int .i64 0 ∧ b = .int .i64 0 ∧ l = .int .i64 lim ∧ x = .bool true ∧ y = .bool true ∧ wr = w) (fun _ _ _ _ _ _ => 0)
  case atStart => exact ⟨rfl, rfl, rfl, rfl, rfl, rfl⟩
  case round =>
    obtain ⟨rfl, rfl, rfl, rfl, rfl, rfl⟩ := hrel
    go_wp2_with fail
    refine HI.out.mono ?_
    rintro e w1 ⟨rfl, rfl⟩
    go_wp2
    refine bodyPost_ret (results_none rfl _ _ _) rfl ?_
    exact ⟨rfl, rfl⟩
set_option maxHeartbeats 2000000 in
theorem sortfunc_nil (w : World) : Calls Try.prog 52 #[.slice none 0 0, .func (.func 39) #[] #[]] w (fun e w' => e = .returned (.tuple #[]) ∧ w = w') := by
  have HI := Lib.hid (fun lim => pdq_nil lim w)
  have HL := Lib.hid (fun w => (show Calls Try.prog 60 #[.int .u64 0] w (LnP w) from len_any 0 (Nat.zero_le _) w))
  go_enter Try.func52, Try.ntmps52
  go_wp2_with fail
  refine (HL.out _).mono ?_
  rintro e w1 ⟨r, rfl, rfl⟩
  go_wp2_with fail
  refine (HI.out _).mono ?_
  rintro e w1 ⟨rfl, rfl⟩
  go_wp2
  go_end0
  exact ⟨rfl, rfl⟩

/-- A sorted list of the same elements. -/
def SdP (w : World) (zs : List Du) (e : Ending) (w' : World) : Prop := ∃ A c g, e = .returned (.slice A zs.length c) ∧ g.Perm zs ∧ Srt g ∧ Dl w' w'.heap.size (.slice A zs.length c) g ∧ Below w.heap.size w w'
set_option maxHeartbeats 2000000 in
theorem sorted_any (Bs : Nat) (A : Option Addr) (c : Nat) (zs : List Du) (hl1 : zs.length ≤ 12) (w : World) (hBs : Bs < w.heap.size) (hc : w.cell? ⟨Bs, 0, none⟩ = some (.slice A zs.length c)) (hI : Dl w w.heap.size (.slice A zs.length c) zs) :
    Calls Try.prog 37 #[.func (.func 53) #[] #[.pointer (some ⟨Bs, 0, none⟩)], .func (.func 39) #[] #[]] w (SdP w zs) := by
  have HC := Lib.hid (dcollect_any Bs A c zs (by omega) w hBs hc hI)
  have HS := Lib.hid (fun q cap w1 hr => sortfunc_any q zs.length cap zs w1 hr rfl hl1)
  have HN := Lib.hid (fun w1 => sortfunc_nil w1)
  clear hBs hc hI hl1
  go_enter Try.func37, Try.ntmps37
  go_wp2_with fail
  refine HC.out.mono ?_
  rintro e w1 ⟨v, rfl, ho, hb⟩
  have HB1 := Lib.hid hb
  clear hb
  rcases ho.2 with ⟨hv, h0⟩ | ⟨q, cap, cur, hv, hq, hh, hle, hmx, hr⟩
  · subst hv
    have hz : zs = [] := List.length_eq_zero_iff.1 h0
    subst hz
    clear ho h0
    go_wp2_with fail
    refine (HN.out _).mono ?_
    rintro e w2 ⟨rfl, rfl⟩
    go_wp2
    go_ret
    exact ⟨none, 0, [], rfl, List.Perm.refl _, List.Pairwise.nil, Dl.nil, HB1.out⟩
  · subst hv
    have HSQ := Lib.hid (HS.out q cap w1 (DRow.of_own ho))
    have HM := Lib.hid (And.intro hle hmx)
    have HQ := Lib.hid hq
    clear ho hle hmx hh hq hr
    go_wp2_with fail
    refine HSQ.out.mono ?_
    rintro e w2 ⟨rfl, g, hp, hs, hra⟩
    have HF := Lib.hid (show SdP w zs (.returned (.slice (some ⟨q, 0, none⟩) zs.length cap)) w2 from ⟨some ⟨q, 0, none⟩, cap, g, rfl, hp, hs, hra.row.dl' hra.len HM.out.1 HM.out.2, HB1.out.trans (hra.bel.mono HQ.out)⟩)
    clear hp hs hra
    go_wp2
    go_ret
    exact HF.out
end Go.Proofs.Ytobimcpkhgfliaa
namespace Go.Proofs.Ytobimcpkhgfliaa
open Go.RowKit
set_option linter.unusedVariables false

/-- A store before a list of elements leaves it. -/
theorem Dl.off {W : World} {B lo n c : Nat} {A : Option Addr} {l : List Du} (h : Dl W B (.slice A n c) l) (hA : Nw lo A) {p : Addr} (hp : p.block < lo) (v : Value) : Dl (W.setCell p v) B (.slice A n c) l := by
  obtain ⟨A', c', e, hl, hm, hr⟩ := h
  injection e with e1 e2 e3
  subst e1; subst e3
  refine ⟨A, c, by rw [e2], hl, hm, hr.1, fun h0 => ?_⟩
  obtain ⟨b, o, e, hb, hc⟩ := hr.2 h0
  have hlo := hA _ e
  exact ⟨b, o, e, hb, fun j u hu => (World.cell?_setCell_other W _ _ v (fun e' => by have e2 := congrArg Addr.block e'; simp at e2 hlo; omega)).trans (hc j u hu)⟩
/-- A heap, an element and an error, as a result: the heap is new. -/
def DlX (w : World) (l : List Du) (X : Du) (x : Int) (e : Ending) (w' : World) : Prop := ∃ A c, e = .returned (.tuple #[.slice A l.length c, X.v, .int .i64 x]) ∧ Nw w.heap.size A ∧ Dl w' w'.heap.size (.slice A l.length c) l ∧ Below w.heap.size w w'
/-- A box of an element that may be written. -/
abbrev D2F (W : World) (p : Nat) (d : Du) : Prop := W.cell? ⟨p, 0, none⟩ = some (.int .i64 d.dl) ∧ W.cell? ⟨p, 1, none⟩ = some (.int .i64 d.id) ∧ W.frozen? ⟨p, 0, none⟩ = false ∧ W.frozen? ⟨p, 1, none⟩ = false ∧ p < W.heap.size
theorem D2F.below {B : Nat} {W W' : World} {p : Nat} {d : Du} (h : D2F W p d) (hb : Below B W W') (hp : p < B) : D2F W' p d :=
  ⟨(hb.cell (p := ⟨p, 0, none⟩) hp).trans h.1, (hb.cell (p := ⟨p, 1, none⟩) hp).trans h.2.1, (hb.frozen (p := ⟨p, 0, none⟩) hp).trans h.2.2.1, (hb.frozen (p := ⟨p, 1, none⟩) hp).trans h.2.2.2.1, Nat.lt_of_lt_of_le h.2.2.2.2 hb.size⟩
theorem D2F.start (w : World) (d : Du) (t : TypeId) : D2F (w.alloc (.cells #[.int .i64 d.dl, .int .i64 d.id] t)) w.heap.size d := by
  have h := D2.start w d t
  exact ⟨h.1, h.2, by simp [go_sem], by simp [go_sem], by simp⟩

set_option maxHeartbeats 4000000 in
set_option maxRecDepth 20000 in
theorem dpop_any (A : Option Addr) (n c : Nat) (l : List Du) (w : World) (hv : Dl w w.heap.size (.slice A n c) l) :
    Calls Try.prog 17 #[.slice A n c] w (DlX w (poR l) (poX l) (poE l)) := by
  obtain ⟨rfl, hm1, hm2⟩ := hv.len
  have HB := Lib.hid ((Below.refl w.heap.size w).alloc (Nat.le_refl _) (.cells #[.int .i64 0, .int .i64 0] 24))
  have HV0 := Lib.hid ((hv.alloc (Nat.le_refl _) (.cells #[.int .i64 0, .int .i64 0] 24)).more (show w.heap.size ≤ (w.alloc (.cells #[.int .i64 0, .int .i64 0] 24)).heap.size by simp))
  have HD0 := Lib.hid (show D2F (w.alloc (.cells #[.int .i64 0, .int .i64 0] 24)) w.heap.size zD from D2F.start w zD _)
  have HV := Lib.hid hv
  have HVA := Lib.hid (fun w1 hv => dvalid_any A l.length c l w1 hv)
  clear hv hm1 hm2
  by_cases h0 : vaF l = 0
  · by_cases hl0 : l.length = 0
    · have hE : poE l = 4 := by unfold poE; rw [if_neg (by simpa using h0), if_pos hl0]
      have HR := Lib.hid (And.intro (show poR l = [] by unfold poR; rw [hE]; rfl) (show poX l = zD by unfold poX; rw [hE]; rfl))
      have hl := List.length_eq_zero_iff.1 hl0
      rw [h0] at HVA
      rw [hE]
      clear h0 hE
      subst hl
      clear hl0
      simp only [List.length_nil] at HVA HV0 HV ⊢
      go_enter Try.func17, Try.ntmps17
      go_wp2_with fail
      obtain ⟨p, hp⟩ : ∃ p, p = w.heap.size := ⟨_, rfl⟩
      have HPP := Lib.hid hp
      rw [← hp] at HD0 ⊢
      clear hp
      refine (HVA.out _ HV0.out).mono ?_
      rintro e w1 ⟨rfl, hb⟩
      have HB1 := Lib.hid (HB.out.trans (hb.mono HB.out.size))
      obtain ⟨c0, c1, f0, f1, hpl⟩ := HD0.out.below hb (by have := HPP.out; simp; omega)
      have HB2 := Lib.hid ((HB1.out.setCell (p := ⟨p, 0, none⟩) (by have := HPP.out; show _ ≤ p; omega) (.int .i64 0)).setCell (p := ⟨p, 1, none⟩) (by have := HPP.out; show _ ≤ p; omega) (.int .i64 0))
      clear hb
      go_wp2
      exact bodyPost_ret (v := .tuple #[.slice none 0 0, .agg #[.int .i64 0, .int .i64 0], .int .i64 4]) (by simp only [results, Try.results17]; go_simp <;> rfl) rfl ⟨none, 0, by rw [HR.out.1, HR.out.2]; rfl, nw_none, by rw [HR.out.1]; exact Dl.nil, HB2.out⟩
    · have hE : poE l = 0 := by unfold poE; rw [if_neg (by simpa using h0), if_neg hl0]
      obtain ⟨m, hm⟩ : ∃ m, l.length = m + 1 := ⟨l.length - 1, by omega⟩
      have HR := Lib.hid (And.intro (show poR l = cuF l 0 by unfold poR; rw [if_pos hE]) (show poX l = ge l 0 by unfold poX; rw [if_pos hE]))
      have h12 := (vaF_zero h0).1
      rw [h0] at HVA
      rw [hE]
      have HLEN := Lib.hid hm
      rw [hm] at HVA HV0 HV ⊢
      have HW := Lib.hid (fun w1 hv => (show Calls Try.prog 35 #[.slice A (m + 1) c, .int .i64 0] w1 (DlV w1 (cuF l 0)) from without_any A m c 0 l w1 hv (Nat.zero_le _) (by omega)))
      have hm9 : (m : Int) ≤ 99 := by omega
      clear h0 hE hl0 hm
      obtain ⟨b, o, rfl, hbl, c0, c1⟩ := HV.out.atg (k := 0) (by have := HLEN.out; omega)
      obtain ⟨X, hX⟩ : ∃ X, ge l 0 = X := ⟨_, rfl⟩
      rw [hX] at c0 c1 HR
      have HC := Lib.hid (And.intro c0 c1)
      have HBW := Lib.hid hbl
      clear hX c0 c1 hbl
      go_enter Try.func17, Try.ntmps17
      go_wp2_with fail
      obtain ⟨p, hp⟩ : ∃ p, p = w.heap.size := ⟨_, rfl⟩
      have HPP := Lib.hid hp
      rw [← hp] at HD0 ⊢
      clear hp
      refine (HVA.out _ HV0.out).mono ?_
      rintro e w1 ⟨rfl, hb⟩
      have HB1 := Lib.hid (HB.out.trans (hb.mono HB.out.size))
      have HD1 := Lib.hid (HD0.out.below hb (by have := HPP.out; simp; omega))
      clear hb
      have d0 : w1.cell? ⟨b, o, none⟩ = some (.int .i64 X.dl) := by have := (HB1.out.cell (p := ⟨b, o + 0 * 2, none⟩) HBW.out).trans HC.out.1; simpa using this
      have d1 : w1.cell? ⟨b, o + 1, none⟩ = some (.int .i64 X.id) := by have := (HB1.out.cell (p := ⟨b, o + 0 * 2 + 1, none⟩) HBW.out).trans HC.out.2; simpa using this
      have HVW := Lib.hid (show Dl w1.drew w1.drew.heap.size (.slice (some ⟨b, o, none⟩) (m + 1) c) l from HV.out.up HB1.out.drew)
      have HS0 := Lib.hid (show w1.drew.cell? ⟨b, o, none⟩ = some (.int .i64 X.dl) ∧ w1.drew.cell? ⟨b, o + 1, none⟩ = some (.int .i64 X.id) from ⟨d0, d1⟩)
      have HPB := Lib.hid (show b < p from by have := HPP.out; have := HBW.out; omega)
      have HAF := Lib.hid (fun (w2 : World) (hb : Below w1.drew.heap.size w1.drew w2) => show (w2.cell? ⟨b, o, none⟩ = some (.int .i64 X.dl) ∧ w2.cell? ⟨b, o + 1, none⟩ = some (.int .i64 X.id)) ∧ D2F w2 p zD ∧ Below w.heap.size w w2 from
        ⟨⟨(hb.cell (p := ⟨b, o, none⟩) (Nat.lt_of_lt_of_le HBW.out HB1.out.size)).trans d0, (hb.cell (p := ⟨b, o + 1, none⟩) (Nat.lt_of_lt_of_le HBW.out HB1.out.size)).trans d1⟩, D2F.below (W := w1.drew) HD1.out hb HD1.out.2.2.2.2, HB1.out.trans ((drew_bel hb).mono HB1.out.size)⟩)
      have HAG := Lib.hid (fun (w2 : World) (hs : w2.cell? ⟨b, o, none⟩ = some (.int .i64 X.dl) ∧ w2.cell? ⟨b, o + 1, none⟩ = some (.int .i64 X.id)) => show ((w2.setCell ⟨p, 0, none⟩ (.int .i64 X.dl)).setCell ⟨p, 1, none⟩ (.int .i64 X.id)).cell? ⟨b, o, none⟩ = some (.int .i64 X.dl) ∧ ((w2.setCell ⟨p, 0, none⟩ (.int .i64 X.dl)).setCell ⟨p, 1, none⟩ (.int .i64 X.id)).cell? ⟨b, o + 1, none⟩ = some (.int .i64 X.id) from by
        have := HPB.out
        refine ⟨?_, ?_⟩
        · show ((w2.setCell ⟨p, 0, none⟩ (.int .i64 X.dl)).setCell ⟨p, 1, none⟩ (.int .i64 X.id)).cell? ⟨b, o, none⟩ = _
          rw [World.cell?_setCell_other _ _ _ _ (fun e => by injection e with e _ _; omega), World.cell?_setCell_other _ _ _ _ (fun e => by injection e with e _ _; omega)]; exact hs.1
        · show ((w2.setCell ⟨p, 0, none⟩ (.int .i64 X.dl)).setCell ⟨p, 1, none⟩ (.int .i64 X.id)).cell? ⟨b, o + 1, none⟩ = _
          rw [World.cell?_setCell_other _ _ _ _ (fun e => by injection e with e _ _; omega), World.cell?_setCell_other _ _ _ _ (fun e => by injection e with e _ _; omega)]; exact hs.2)
      go_wp2_with fail
      go_region_held3 (fun W => W.cell? ⟨b, o, none⟩ = some (.int .i64 X.dl) ∧ W.cell? ⟨b, o + 1, none⟩ = some (.int .i64 X.id))
        (first | with_reducible exact HS0.out | with_reducible exact HS1.out | with_reducible exact HS2.out)
        ((go_at_call 35; (with_reducible refine (HW.out _ HVW.out).mono ?_); rintro e w2 ⟨A2, c2, rfl, hnw, hl2, hb2⟩; obtain ⟨hs2, hd2, hbw2⟩ := HAF.out _ hb2; have HS1 := Lib.hid hs2; have HS2 := Lib.hid (HAG.out _ hs2); have HB2 := Lib.hid hbw2; have HL2 := Lib.hid hl2; have HNW := Lib.hid hnw; obtain ⟨x0, x1, f0, f1, hpl⟩ := hd2; clear hs2 hbw2 hl2 hnw hb2))
      have HPW := Lib.hid (show p < w1.heap.size from HD1.out.2.2.2.2)
      have HL3 := Lib.hid (((HL2.out.off HNW.out (p := ⟨p, 0, none⟩) HPW.out (.int .i64 X.dl)).off HNW.out (p := ⟨p, 1, none⟩) HPW.out (.int .i64 X.id)).more (show w2.heap.size ≤ ((w2.setCell ⟨p, 0, none⟩ (.int .i64 X.dl)).setCell ⟨p, 1, none⟩ (.int .i64 X.id)).heap.size by simp))
      have HB3 := Lib.hid ((HB2.out.setCell (p := ⟨p, 0, none⟩) (by have := HPP.out; show _ ≤ p; omega) (.int .i64 X.dl)).setCell (p := ⟨p, 1, none⟩) (by have := HPP.out; show _ ≤ p; omega) (.int .i64 X.id))
      have HN3 := Lib.hid (nw_low HNW.out (show w.heap.size ≤ w1.drew.heap.size from HB1.out.size))
      have hq0 : ((w2.setCell ⟨p, 0, none⟩ (.int .i64 X.dl)).setCell ⟨p, 1, none⟩ (.int .i64 X.id)).cell? ⟨p, 0, none⟩ = some (.int .i64 X.dl) := by
        rw [World.cell?_setCell_other _ _ _ _ (fun e => by injection e with _ e _; cases e), World.cell?_setCell_same' _ _ _ (by rw [x0]; rfl)]
      have hq1 : ((w2.setCell ⟨p, 0, none⟩ (.int .i64 X.dl)).setCell ⟨p, 1, none⟩ (.int .i64 X.id)).cell? ⟨p, 1, none⟩ = some (.int .i64 X.id) := by
        rw [World.cell?_setCell_same' _ _ _ (by rw [World.cell?_setCell_other _ _ _ _ (fun e => by injection e with _ e _; cases e), x1]; rfl)]
      clear x0 x1 f0 f1 hpl
      generalize ((w2.setCell ⟨p, 0, none⟩ (.int .i64 X.dl)).setCell ⟨p, 1, none⟩ (.int .i64 X.id)) = w3 at *
      go_wp2
      exact bodyPost_ret (v := .tuple #[.slice A2 (cuF l 0).length c2, .agg #[.int .i64 X.dl, .int .i64 X.id], .int .i64 0]) (by simp only [results, Try.results17]; go_simp <;> rfl) rfl ⟨A2, c2, by rw [HR.out.1, HR.out.2], HN3.out, by rw [HR.out.1]; exact HL3.out, HB3.out⟩
  · have hE : poE l = vaF l := by unfold poE; rw [if_pos h0]
    have hE0 : poE l ≠ 0 := by rw [hE]; exact h0
    have HR := Lib.hid (And.intro (show poR l = [] by unfold poR; rw [if_neg hE0]) (show poX l = zD by unfold poX; rw [if_neg hE0]))
    have hne : (vaF l != 0) = true := bne_iff_ne.2 h0
    rw [hE]
    generalize vaF l = x at *
    clear h0 hE hE0
    go_enter Try.func17, Try.ntmps17
    go_wp2_with fail
    obtain ⟨p, hp⟩ : ∃ p, p = w.heap.size := ⟨_, rfl⟩
    have HPP := Lib.hid hp
    rw [← hp] at HD0 ⊢
    clear hp
    refine (HVA.out _ HV0.out).mono ?_
    rintro e w1 ⟨rfl, hb⟩
    have HB1 := Lib.hid (HB.out.trans (hb.mono HB.out.size))
    obtain ⟨c0, c1, f0, f1, hpl⟩ := HD0.out.below hb (by have := HPP.out; simp; omega)
    have HB2 := Lib.hid ((HB1.out.setCell (p := ⟨p, 0, none⟩) (by have := HPP.out; show _ ≤ p; omega) (.int .i64 0)).setCell (p := ⟨p, 1, none⟩) (by have := HPP.out; show _ ≤ p; omega) (.int .i64 0))
    clear hb
    go_wp2
    exact bodyPost_ret (v := .tuple #[.slice none 0 0, .agg #[.int .i64 0, .int .i64 0], .int .i64 x]) (by simp only [results, Try.results17]; go_simp <;> rfl) rfl ⟨none, 0, by rw [HR.out.1, HR.out.2]; rfl, nw_none, by rw [HR.out.1]; exact Dl.nil, HB2.out⟩

set_option maxHeartbeats 2000000 in
theorem dremove_any (A : Option Addr) (n c : Nat) (l : List Du) (id : Int) (w : World) (hv : Dl w w.heap.size (.slice A n c) l) :
    Calls Try.prog 18 #[.slice A n c, .int .i64 id] w (DlE w (rmR l id) (rmE l id)) := by
  obtain ⟨rfl, hm1, hm2⟩ := hv.len
  have HV := Lib.hid hv
  have HVA := Lib.hid (fun w1 hv => dvalid_any A l.length c l w1 hv)
  have HFI := Lib.hid (fun w1 hv => dfind_any A l.length c l id w1 hv)
  clear hv hm1 hm2
  by_cases h0 : vaF l = 0
  · have h12 := (vaF_zero h0).1
    by_cases hi : ixD l id < 0
    · have hE : rmE l id = 4 := by unfold rmE; rw [if_neg (by simpa using h0), if_pos hi]
      have HR := Lib.hid (show rmR l id = [] by unfold rmR; rw [hE]; rfl)
      rw [h0] at HVA
      rw [hE]
      generalize ixD l id = r at *
      clear h0 hE
      go_enter Try.func18, Try.ntmps18
      go_wp2_with fail
      refine (HVA.out _ HV.out).mono ?_
      rintro e w1 ⟨rfl, hb⟩
      have HB1 := Lib.hid hb
      clear hb
      go_wp2_with fail
      refine (HFI.out _ (HV.out.up HB1.out)).mono ?_
      rintro e w2 ⟨rfl, hb⟩
      have HB2 := Lib.hid (HB1.out.trans (hb.mono HB1.out.size))
      clear hb
      go_wp2
      exact bodyPost_ret (v := .tuple #[.slice none 0 0, .int .i64 4]) (by simp only [results, Try.results18]; go_simp <;> rfl) rfl ⟨none, 0, by rw [HR.out]; rfl, nw_none, by rw [HR.out]; exact Dl.nil, HB2.out⟩
    · have hE : rmE l id = 0 := by unfold rmE; rw [if_neg (by simpa using h0), if_neg hi]
      obtain ⟨_, k, hk, hke, _⟩ := rmE_zero hE
      obtain ⟨m, hm⟩ : ∃ m, l.length = m + 1 := ⟨l.length - 1, by omega⟩
      have HR := Lib.hid (show rmR l id = cuF l k by unfold rmR; rw [if_pos hE, hke]; rfl)
      rw [h0] at HVA
      rw [hE]
      rw [hke] at HFI
      rw [hm] at HVA HFI HV ⊢
      have HW := Lib.hid (fun w1 hv => without_any A m c k l w1 hv (by omega) (by omega))
      have hk0 : ¬ ((k : Int) < 0) := by omega
      clear h0 hE hi hk hke hm h12
      go_enter Try.func18, Try.ntmps18
      go_wp2_with fail
      refine (HVA.out _ HV.out).mono ?_
      rintro e w1 ⟨rfl, hb⟩
      have HB1 := Lib.hid hb
      clear hb
      go_wp2_with fail
      refine (HFI.out _ (HV.out.up HB1.out)).mono ?_
      rintro e w2 ⟨rfl, hb⟩
      have HB2 := Lib.hid (HB1.out.trans (hb.mono HB1.out.size))
      clear hb
      go_wp2_with fail
      refine (HW.out _ (HV.out.up HB2.out)).mono ?_
      rintro e w3 ⟨A3, c3, rfl, hnw, hl, hb⟩
      have HB3 := Lib.hid (HB2.out.trans (hb.mono HB2.out.size))
      have HN := Lib.hid (nw_low hnw HB2.out.size)
      have HL := Lib.hid hl
      clear hb hnw hl
      go_wp2
      exact bodyPost_ret (v := .tuple #[.slice A3 (cuF l k).length c3, .int .i64 0]) (by simp only [results, Try.results18]; go_simp <;> rfl) rfl ⟨A3, c3, by rw [HR.out], HN.out, by rw [HR.out]; exact HL.out, HB3.out⟩
  · have hE : rmE l id = vaF l := by unfold rmE; rw [if_pos h0]
    have HR := Lib.hid (show rmR l id = [] by unfold rmR; rw [if_neg (by rw [hE]; exact h0)])
    have hne : (vaF l != 0) = true := bne_iff_ne.2 h0
    rw [hE]
    generalize vaF l = x at *
    clear h0 hE
    go_enter Try.func18, Try.ntmps18
    go_wp2_with fail
    refine (HVA.out _ HV.out).mono ?_
    rintro e w1 ⟨rfl, hb⟩
    have HB1 := Lib.hid hb
    clear hb
    go_wp2
    exact bodyPost_ret (v := .tuple #[.slice none 0 0, .int .i64 x]) (by simp only [results, Try.results18]; go_simp <;> rfl) rfl ⟨none, 0, by rw [HR.out]; rfl, nw_none, by rw [HR.out]; exact Dl.nil, HB1.out⟩
end Go.Proofs.Ytobimcpkhgfliaa
namespace Go.Proofs.Ytobimcpkhgfliaa
open Go.RowKit
set_option linter.unusedVariables false

/-- A number of 64 bits as a cell. -/
def i64v (z : Int) : Value := .int .i64 z

/-- Block g, from B on, is a source: a list that lies below B, and a position in it. -/
def SrcAt (W : World) (B g : Nat) : Prop := B ≤ g ∧ g < W.heap.size ∧ ∃ (A : Option Addr) (n c k : Nat) (zs : List Int),
  k ≤ n ∧ n ≤ 4000 ∧ n ≤ c ∧ c ≤ maxLen ∧ W.cell? ⟨g, 0, none⟩ = some (.slice A n c) ∧ W.cell? ⟨g, 1, none⟩ = some (.int .i64 k) ∧ W.frozen? ⟨g, 1, none⟩ = false ∧ Rd W B 1 A n (zs.map i64v) ∧ ∀ z ∈ zs, -9223372036854775808 ≤ z ∧ z ≤ 9223372036854775807

section
variable {W W' : World} {B g h : Nat}
theorem SrcAt.keep (s : SrcAt W B g) (hs : W.heap.size ≤ W'.heap.size) (h0 : ∀ o, W'.cell? ⟨g, o, none⟩ = W.cell? ⟨g, o, none⟩) (h1 : ∀ o, W'.frozen? ⟨g, o, none⟩ = W.frozen? ⟨g, o, none⟩) (hk : ∀ p : Addr, p.block < B → W'.cell? p = W.cell? p) : SrcAt W' B g := by
  obtain ⟨hB, hg, A, n, c, k, zs, a1, a2, a3, a4, a5, a6, a7, a8, a9⟩ := s
  exact ⟨hB, by omega, A, n, c, k, zs, a1, a2, a3, a4, (h0 0).trans a5, (h0 1).trans a6, (h1 1).trans a7, a8.keep hk, a9⟩
theorem SrcAt.grown (s : SrcAt W B g) (hg : W.grownBy W' (some h)) (hne : h ≠ g) (hB : B ≤ h) : SrcAt W' B g :=
  s.keep hg.size (fun o => hg.cell_far _ s.2.1 (fun e => hne (by injection e with e; exact e.symm))) (fun o => hg.frozen_far _ s.2.1 (fun e => hne (by injection e with e; exact e.symm)))
    (fun p hp => hg.cell_far p (by have := s.1; have := s.2.1; omega) (fun e => by injection e with e; omega))
theorem SrcAt.below (s : SrcAt W B g) (hb : Below W.heap.size W W') : SrcAt W' B g :=
  s.keep hb.size (fun o => hb.cell s.2.1) (fun o => hb.frozen s.2.1) (fun p hp => hb.cell (by have := s.1; have := s.2.1; omega))
theorem SrcAt.alloc (s : SrcAt W B g) (o : Obj) : SrcAt (W.alloc o) B g := s.below ((Below.refl _ _).alloc (Nat.le_refl _) o)
theorem SrcAt.drew (s : SrcAt W B g) : SrcAt W.drew B g := s
theorem SrcAt.drewN (s : SrcAt W B g) (n : Nat) : SrcAt (W.drewN n) B g := s
theorem SrcAt.other (s : SrcAt W B g) {p : Addr} (hp : p.block ≠ g) (hB : B ≤ p.block) (v : Value) : SrcAt (W.setCell p v) B g :=
  s.keep (by simp) (fun o => World.cell?_setCell_other W p _ v (fun e => hp (by rw [e]))) (fun o => by rw [World.frozen?_setCell]) (fun q hq => World.cell?_setCell_other W p q v (fun e => by rw [e] at hB; omega))

theorem SrcAt.next (s : SrcAt W B g) {A : Option Addr} {n c k : Nat} (h0 : W.cell? ⟨g, 0, none⟩ = some (.slice A n c)) (h1 : W.cell? ⟨g, 1, none⟩ = some (.int .i64 k)) (hk : k < n) : SrcAt (W.setCell ⟨g, 1, none⟩ (.int .i64 ((k : Int) + 1))) B g := by
  obtain ⟨hB, hg, A', n', c', k', zs, a1, a2, a3, a4, a5, a6, a7, a8, a9⟩ := s
  rw [h0] at a5
  injection a5 with a5
  injection a5 with e1 e2 e3
  subst e1; subst e2; subst e3
  refine ⟨hB, by simpa using hg, A, n, c, k + 1, zs, by omega, a2, a3, a4, (World.cell?_setCell_other W _ _ _ (fun e => by injection e; omega)).trans h0, ?_, by rw [World.frozen?_setCell]; exact a7, a8.setCell hB _, a9⟩
  simp [go_sem, h1]

theorem only_drewN {a w : World} {row : Option Nat} (h : a.grownBy w row) (n : Nat) : a.grownBy (w.drewN n) row := ⟨h.os, h.tape, h.output, h.size, h.block⟩
theorem only_drew {a w : World} {row : Option Nat} (h : a.grownBy w row) : a.grownBy w.drew row := ⟨h.os, h.tape, h.output, h.size, h.block⟩
theorem gdrew {w w' : World} {row : Option Nat} (h : w.drew.grownBy w' row) : w.grownBy w' row := ⟨h.os, h.tape, h.output, h.size, h.block⟩
theorem only_alloc {a w : World} {row : Option Nat} (h : a.grownBy w row) (o : Obj) : a.grownBy (w.alloc o) row :=
  ⟨h.os, h.tape, h.output, Nat.le_trans h.size (by simp), fun i hi hne => (Below.heap_alloc w o i (Nat.lt_of_lt_of_le hi h.size)).trans (h.block i hi hne)⟩
theorem only_set {a w : World} {g : Nat} (h : a.grownBy w (some g)) {p : Addr} (hp : p.block = g ∨ a.heap.size ≤ p.block) (u : Value) : a.grownBy (w.setCell p u) (some g) :=
  ⟨h.os, h.tape, h.output, by simpa [World.setCell] using h.size, fun i hi hne => (Below.heap_setCell w p u i (by
    rintro rfl
    rcases hp with hp | hp
    · exact hne (by rw [hp])
    · omega)).trans (h.block i hi hne)⟩
theorem only_below {a w w' : World} {g : Nat} (h : a.grownBy w (some g)) (hb : Below w.heap.size w w') : a.grownBy w' (some g) :=
  ⟨hb.os.trans h.os, hb.tape.trans h.tape, hb.output.trans h.output, Nat.le_trans h.size hb.size, fun i hi hne => (hb.block i (Nat.lt_of_lt_of_le hi h.size)).trans (h.block i hi hne)⟩
/-- A source lies behind B: what is below stays. -/
theorem below_only {B g : Nat} {a w w' : World} (h : Below B a w) (hg : w.grownBy w' (some g)) (hB : B ≤ g) (hz : B ≤ a.heap.size) : Below B a w' :=
  h.grown hg (Nat.le_trans hz h.size) (fun k hk => by injection hk with hk; omega)
end

/-- A call that reads a number of a source. -/
def SrInt (B g : Nat) (lo hi : Int) (w : World) (e : Ending) (w' : World) : Prop := ∃ x, e = .returned (.int .i64 x) ∧ lo ≤ x ∧ x ≤ hi ∧ SrcAt w' B g ∧ w.grownBy w' (some g)
end Go.Proofs.Ytobimcpkhgfliaa
