/- What is proved here: shardqueueref05.Push by a contract; in the statements of layer 5, agrees is true of every heap; awake is true; a deadline and a list of deadlines among the arguments opened to what lies in memory, a deadline shut again. -/
import Derived.Test.YtobimcpkhgfliaaJ10
import Derived.Test.YtobimcpkhgfliaaJ11
import Derived.Test.YtobimcpkhgfliaaJ09
import Derived.Test.YtobimcpkhgfliaaJ06
import Derived.Lib.SmallJoins
import Derived.ChangeSame
import Derived.Deep.Slices
import Derived.Deep.Fields
namespace Go.Proofs.Ytobimcpkhgfliaa
open Go.RowKit
set_option linter.unusedVariables false

set_option maxHeartbeats 8000000 in
set_option maxRecDepth 20000 in
theorem rpush5_ok (A : Option Addr) (n c : Nat) (l : List Du) (d : Du) (w : World) (hv : Dl w w.heap.size (.slice A n c) l) (h0 : puE l d = 0) :
    Calls Try.prog 23 #[.slice A n c, d.v] w (DlE w (puF l d) 0) := by
  obtain ⟨rfl, hm1, hm2⟩ := hv.len
  have HB := Lib.hid ((Below.refl w.heap.size w).alloc (Nat.le_refl _) (.cells #[.int .i64 d.dl, .int .i64 d.id] 24))
  have HV0 := Lib.hid ((hv.alloc (Nat.le_refl _) (.cells #[.int .i64 d.dl, .int .i64 d.id] 24)).more (show w.heap.size ≤ (w.alloc (.cells #[.int .i64 d.dl, .int .i64 d.id] 24)).heap.size by simp))
  have HD0 := Lib.hid (D2.start w d 24)
  have HV := Lib.hid hv
  have HVA := Lib.hid (fun w1 hv => rvalid5_any A l.length c l w1 hv)
  have HO := Lib.hid (fun w1 => rsound_any d w1)
  have HF := Lib.hid (fun w1 (hv : Dl w1 w1.heap.size (.slice A l.length c) l) => rix5_any A l.length c l d.id w1 _ hv)
  obtain ⟨hva, hsn, hl12, hid⟩ := puE_zero h0
  have hix : ixD l d.id = -1 := ixD_neg (fun h => by obtain ⟨x, hx, e⟩ := (ixD_ge _ _).1 h; exact hid x hx e)
  rw [hva] at HVA
  rw [hsn] at HO
  rw [hix] at HF
  have HUP := Lib.hid (fun lo g cap w1 hd hlo hn => rup_any lo (some ⟨g, 0, none⟩) (l.length + 1) cap l.length (l ++ [d]) w1 hd hlo hn (by omega) (by omega))
  have HL12 := Lib.hid hl12
  have hl100 : (l.length : Int) ≤ 100 := by omega
  have h12' : ((l.length : Int) == 12) = false := by simp; omega
  obtain ⟨i0, hi0, hz0⟩ := Option.map_eq_some_iff.1 info_due
  simp only [Prod.mk.injEq] at hz0
  have HI := Lib.hid hi0
  have HZ := Lib.hid hz0
  clear hv hm1 hm2 h0 hva hsn hl12 hid hix hi0 hz0
  go_enter Try.func23, Try.ntmps23
  go_wp2_with fail
  obtain ⟨p, hp⟩ : ∃ p, p = w.heap.size := ⟨_, rfl⟩
  have HPP := Lib.hid hp
  rw [← hp] at HD0 ⊢
  clear hp
  refine (HVA.out _ HV0.out).mono ?_
  rintro e w1 ⟨rfl, hb⟩
  have HB1 := Lib.hid (HB.out.trans (hb.mono HB.out.size))
  have HD1 := Lib.hid (HD0.out.below hb (by have := HPP.out; simp; omega))
  obtain ⟨c0, c1⟩ := HD1.out
  have HPL := Lib.hid (World.block_lt_of_cell? w1 ⟨p, 0, none⟩ c0)
  clear hb
  go_wp2_with fail
  refine (HO.out _).mono ?_
  rintro e w2 ⟨rfl, hb⟩
  have HB2 := Lib.hid (HB1.out.trans (hb.mono HB1.out.size))
  have HD2 := Lib.hid (HD1.out.below hb HPL.out)
  have HPL2 := Lib.hid (Nat.lt_of_lt_of_le HPL.out hb.size)
  clear hb c0 c1
  obtain ⟨c0, c1⟩ := HD2.out
  go_wp2_with fail
  refine (HF.out _ (HV.out.up HB2.out)).mono ?_
  rintro e w3 ⟨rfl, rfl⟩
  have HS0 := Lib.hid (show D2 w2.drew p d from HD2.out)
  have HS1 := Lib.hid (HD2.out.below (W' := (w2.alloc (.cells #[.int .i64 d.dl, .int .i64 d.id] 24)).drew) (((Below.refl w2.heap.size w2).alloc (Nat.le_refl _) _).drew) HPL2.out)
  have HA0 := Lib.hid (show Rd w2.drew w2.drew.heap.size 2 A l.length (dcs l) from (HV.out.up HB2.out.drew).rd)
  have HA1 := Lib.hid (show Rd (w2.alloc (.cells #[.int .i64 d.dl, .int .i64 d.id] 24)).drew (w2.alloc (.cells #[.int .i64 d.dl, .int .i64 d.id] 24)).drew.heap.size 2 A l.length (dcs l) from (HV.out.up ((HB2.out.alloc HB2.out.size _).drew)).rd)
  have HP0 := Lib.hid (fun w3 v (ho : w3.ownsRow w2.drew.heap.size 24 2 v (0 + l.length) ([] ++ dcs l)) (hg : w2.drew.grownBy w3 (Value.ownBlock (.slice none 0 0))) => push_pre0 (w := w) (w1 := w2) (w2 := w3) (l := l) (d := d) (p := p) (v := v) HB2.out HPL2.out HS0.out (by rw [Nat.zero_add, List.nil_append] at ho; exact ho) ((Below.refl _ w2.drew).grown hg (Nat.le_refl _) (fun k e => by simp [Value.ownBlock] at e)))
  have HP1 := Lib.hid (fun w3 v (ho : w3.ownsRow (w2.alloc (.cells #[.int .i64 d.dl, .int .i64 d.id] 24)).drew.heap.size 24 2 v (0 + l.length) ([] ++ dcs l)) (hg : (w2.alloc (.cells #[.int .i64 d.dl, .int .i64 d.id] 24)).drew.grownBy w3 (Value.ownBlock (.slice none 0 0))) => push_pre1 (w := w) (w1 := w2) (w2 := w3) (l := l) (d := d) (p := p) (v := v) HB2.out HPL2.out HS1.out (by rw [Nat.zero_add, List.nil_append] at ho; exact ho) ((Below.refl _ _).grown hg (Nat.le_refl _) (fun k e => by simp [Value.ownBlock] at e)))
  have hgd : ¬ ((0 : Int) ≤ -1) := by decide
  go_wp2_with fail
  go_region_held3 (fun W => W.cell? ⟨p, 0, none⟩ = some (.int .i64 d.dl) ∧ W.cell? ⟨p, 1, none⟩ = some (.int .i64 d.id))
    (first | with_reducible exact HS0.out | with_reducible exact HS1.out | with_reducible exact HS2.out | with_reducible exact HS3.out | with_reducible exact HS4.out | with_reducible exact HS5.out)
    (first
    | (refine step_append_lies _ (by rfl) _ _ _ (by rfl) w2.heap.size 24 i0 _ 2 16 Try.underlying22 HI.out HZ.out.1 HZ.out.2.1 HZ.out.2.2 rfl (by omega) v4 l.length (dcs l) (by rfl) HOW.out ⟨w4.heap.size, 0, none⟩ 1 1 d.l (by rfl) (by simp [Du.l_len]) HN.out (du_one d) (by omega) (by have := HL12.out; unfold maxLen; omega) (by have := HL12.out; omega) HBS.out _ rfl ?_; intro g1 cap1 w5 hown1 hgrow1 hat1 hlt1; have HFN := Lib.hid (push_end HBF.out HOW.out HB2.out.size hown1 hgrow1); have HS4 := Lib.hid (HS3.out.grown HOW.out HPL2.out HBS.out hgrow1); have HDL := Lib.hid (HFN.out.1.dl' (by simp) HFN.out.2.2.1 HFN.out.2.2.2.1); clear hown1 hgrow1 hat1 hlt1)
    | (refine step_append_lies _ (by rfl) _ _ _ (by rfl) w2.heap.size 24 i0 _ 2 16 Try.underlying22 HI.out HZ.out.1 HZ.out.2.1 HZ.out.2.2 rfl (by omega) v4 l.length (dcs l) (by rfl) HOW.out ⟨w2.heap.size, 0, none⟩ 1 1 d.l (by rfl) (by simp [Du.l_len]) HN.out (du_one d) (by omega) (by have := HL12.out; unfold maxLen; omega) (by have := HL12.out; omega) HBS.out _ rfl ?_; intro g1 cap1 w5 hown1 hgrow1 hat1 hlt1; have HFN := Lib.hid (push_end HBF.out HOW.out HB2.out.size hown1 hgrow1); have HS4 := Lib.hid (HS3.out.grown HOW.out HPL2.out HBS.out hgrow1); have HDL := Lib.hid (HFN.out.1.dl' (by simp) HFN.out.2.2.1 HFN.out.2.2.2.1); clear hown1 hgrow1 hat1 hlt1)
    | (refine step_append_rd _ (by rfl) _ _ _ (by rfl) _ 24 i0 _ 2 16 Try.underlying22 HI.out HZ.out.1 HZ.out.2.1 HZ.out.2.2 rfl (by omega) (.slice none 0 0) 0 [] (by rfl) (World.ownsRow_nil _ _ _ _) _ A l.length c (dcs l) (by rfl) HA0.out (dcs_one l) (by have := HL12.out; unfold maxLen; omega) (by have := HL12.out; omega) (Nat.le_refl _) ?_; intro v4 w4 hown4 hgrow4 hat4; obtain ⟨hs2, hs3, ho3, hbs, hbf, hn⟩ := HP0.out _ _ hown4 hgrow4; have HS2 := Lib.hid hs2; have HS3 := Lib.hid hs3; have HOW := Lib.hid ho3; have HBS := Lib.hid hbs; have HBF := Lib.hid hbf; have HN := Lib.hid hn; clear hown4 hgrow4 hat4 hs2 hs3 ho3 hbs hbf hn)
    | (refine step_append_rd _ (by rfl) _ _ _ (by rfl) _ 24 i0 _ 2 16 Try.underlying22 HI.out HZ.out.1 HZ.out.2.1 HZ.out.2.2 rfl (by omega) (.slice none 0 0) 0 [] (by rfl) (World.ownsRow_nil _ _ _ _) _ A l.length c (dcs l) (by rfl) HA1.out (dcs_one l) (by have := HL12.out; unfold maxLen; omega) (by have := HL12.out; omega) (Nat.le_refl _) ?_; intro v4 w4 hown4 hgrow4 hat4; obtain ⟨hs3, ho3, hbs, hbf, hn⟩ := HP1.out _ _ hown4 hgrow4; have HS3 := Lib.hid hs3; have HOW := Lib.hid ho3; have HBS := Lib.hid hbs; have HBF := Lib.hid hbf; have HN := Lib.hid hn; clear hown4 hgrow4 hat4 hs3 ho3 hbs hbf hn)
    | (go_at_call 44; (with_reducible refine (HUP.out w.heap.size g1 cap1 w5 HDL.out HFN.out.2.2.2.2.size (nw_some HFN.out.2.1)).mono ?_); rintro e w6 ⟨v6, rfl, hla⟩; have HLA := Lib.hid hla; have HS5 := Lib.hid (HS4.out.below hla.bel (World.block_lt_of_cell? w5 ⟨p, 0, none⟩ HS4.out.1)); clear hla))
  all_goals
    obtain ⟨A6, c6, hv6, _, _⟩ := HLA.out.dl.form
    subst hv6
    have HNW := Lib.hid (nwv_of HLA.out.nw)
    have HD6 := Lib.hid HLA.out.dl
    have HB6 := Lib.hid (HFN.out.2.2.2.2.trans (HLA.out.bel.mono HFN.out.2.2.2.2.size))
    have hpf : upF (l ++ [d]) l.length = puF l d := rfl
    rw [hpf] at HD6 ⊢
    clear hpf
    go_wp2
    exact bodyPost_ret (v := .tuple #[.slice A6 (puF l d).length c6, .int .i64 0]) (by simp only [results, Try.results23]; go_simp <;> rfl) rfl ⟨A6, c6, rfl, HNW.out, HD6.out, HB6.out⟩

set_option maxHeartbeats 4000000 in
theorem rpush5_any (A : Option Addr) (n c : Nat) (l : List Du) (d : Du) (w : World) (hv : Dl w w.heap.size (.slice A n c) l) :
    Calls Try.prog 23 #[.slice A n c, d.v] w (DlE w (puR l d) (puE l d)) := by
  by_cases h00 : puE l d = 0
  · rw [h00, show puR l d = puF l d from if_pos h00]
    exact rpush5_ok A n c l d w hv h00
  · have HC := Lib.hid (show puR l d = [] from if_neg h00)
    obtain ⟨rfl, hm1, hm2⟩ := hv.len
    have HB := Lib.hid ((Below.refl w.heap.size w).alloc (Nat.le_refl _) (.cells #[.int .i64 d.dl, .int .i64 d.id] 24))
    have HV0 := Lib.hid ((hv.alloc (Nat.le_refl _) (.cells #[.int .i64 d.dl, .int .i64 d.id] 24)).more (show w.heap.size ≤ (w.alloc (.cells #[.int .i64 d.dl, .int .i64 d.id] 24)).heap.size by simp))
    have HD0 := Lib.hid (D2.start w d 24)
    have HV := Lib.hid hv
    have HVA := Lib.hid (fun w1 hv => rvalid5_any A l.length c l w1 hv)
    have HO := Lib.hid (fun w1 => rsound_any d w1)
    have HF := Lib.hid (fun w1 (hv : Dl w1 w1.heap.size (.slice A l.length c) l) => rix5_any A l.length c l d.id w1 _ hv)
    clear hv hm1 hm2
    by_cases h0 : vaF l = 0
    · rw [h0] at HVA
      have hl := (vaF_zero h0).1
      have hpu : puE l d = if snd d = false then 1 else if l.length = 12 then 3 else if 0 ≤ ixD l d.id then 10 else 0 := by
        unfold puE; rw [if_neg (by simpa using h0)]
      clear h0
      cases hs : snd d with
      | false =>
        have hR : puE l d = 1 := by rw [hpu, if_pos hs]
        rw [hs] at HO
        rw [hR]
        clear hpu hs hR h00
        go_enter Try.func23, Try.ntmps23
        go_wp2_with fail
        refine (HVA.out _ HV0.out).mono ?_
        rintro e w1 ⟨rfl, hb⟩
        have HB1 := Lib.hid (HB.out.trans (hb.mono HB.out.size))
        obtain ⟨c0, c1⟩ := HD0.out.below hb (by simp)
        clear hb
        go_wp2_with fail
        refine (HO.out _).mono ?_
        rintro e w2 ⟨rfl, hb⟩
        have HB2 := Lib.hid (HB1.out.trans (hb.mono HB1.out.size))
        clear hb c0 c1
        go_wp2
        exact bodyPost_ret (v := .tuple #[.slice none 0 0, .int .i64 1]) (by simp only [results, Try.results23]; go_simp <;> rfl) rfl ⟨none, 0, by rw [HC.out]; rfl, nw_none, by rw [HC.out]; exact Dl.nil, HB2.out⟩
      | true =>
        rw [hs] at HO
        by_cases h12 : l.length = 12
        · have hR : puE l d = 3 := by rw [hpu, if_neg (by simp [hs]), if_pos h12]
          have h12' : ((l.length : Int) == 12) = true := by simp; omega
          rw [hR]
          clear hpu hs hR h00 h12
          go_enter Try.func23, Try.ntmps23
          go_wp2_with fail
          refine (HVA.out _ HV0.out).mono ?_
          rintro e w1 ⟨rfl, hb⟩
          have HB1 := Lib.hid (HB.out.trans (hb.mono HB.out.size))
          obtain ⟨c0, c1⟩ := HD0.out.below hb (by simp)
          clear hb
          go_wp2_with fail
          refine (HO.out _).mono ?_
          rintro e w2 ⟨rfl, hb⟩
          have HB2 := Lib.hid (HB1.out.trans (hb.mono HB1.out.size))
          clear hb c0 c1
          go_wp2
          exact bodyPost_ret (v := .tuple #[.slice none 0 0, .int .i64 3]) (by simp only [results, Try.results23]; go_simp <;> rfl) rfl ⟨none, 0, by rw [HC.out]; rfl, nw_none, by rw [HC.out]; exact Dl.nil, HB2.out⟩
        · have h12' : ((l.length : Int) == 12) = false := by simp; omega
          have hge : 0 ≤ ixD l d.id := Decidable.byContradiction fun hx => h00 (by rw [hpu, if_neg (by simp [hs]), if_neg h12, if_neg hx])
          have hR : puE l d = 10 := by rw [hpu, if_neg (by simp [hs]), if_neg h12, if_pos hge]
          rw [hR]
          clear hpu hs hR h00 h12
          generalize ixD l d.id = r at *
          go_enter Try.func23, Try.ntmps23
          go_wp2_with fail
          refine (HVA.out _ HV0.out).mono ?_
          rintro e w1 ⟨rfl, hb⟩
          have HB1 := Lib.hid (HB.out.trans (hb.mono HB.out.size))
          have HD1 := Lib.hid (HD0.out.below hb (by simp))
          obtain ⟨c0, c1⟩ := HD1.out
          have HPL := Lib.hid (World.block_lt_of_cell? w1 ⟨w.heap.size, 0, none⟩ c0)
          clear hb
          go_wp2_with fail
          refine (HO.out _).mono ?_
          rintro e w2 ⟨rfl, hb⟩
          have HB2 := Lib.hid (HB1.out.trans (hb.mono HB1.out.size))
          clear c0 c1
          obtain ⟨c0, c1⟩ := HD1.out.below hb HPL.out
          clear hb
          go_wp2_with fail
          refine (HF.out _ (HV.out.up HB2.out)).mono ?_
          rintro e w3 ⟨rfl, rfl⟩
          clear c0 c1
          go_wp2
          exact bodyPost_ret (v := .tuple #[.slice none 0 0, .int .i64 10]) (by simp only [results, Try.results23]; go_simp <;> rfl) rfl ⟨none, 0, by rw [HC.out]; rfl, nw_none, by rw [HC.out]; exact Dl.nil, HB2.out⟩
    · have hR : puE l d = vaF l := by unfold puE; rw [if_pos h0]
      have hne : (vaF l != 0) = true := bne_iff_ne.2 h0
      rw [hR]
      generalize vaF l = x at *
      clear h0 hR h00
      go_enter Try.func23, Try.ntmps23
      go_wp2_with fail
      refine (HVA.out _ HV0.out).mono ?_
      rintro e w1 ⟨rfl, hb⟩
      have HB1 := Lib.hid (HB.out.trans (hb.mono HB.out.size))
      clear hb
      go_wp2
      exact bodyPost_ret (v := .tuple #[.slice none 0 0, .int .i64 x]) (by simp only [results, Try.results23]; go_simp <;> rfl) rfl ⟨none, 0, by rw [HC.out]; rfl, nw_none, by rw [HC.out]; exact Dl.nil, HB1.out⟩
end Go.Proofs.Ytobimcpkhgfliaa
namespace Go.Proofs.Ytobimcpkhgfliaa
open Go.RowKit
set_option linter.unusedVariables false

/-- The heap and the element of a statement. -/
structure AgAt (w : World) (p : Nat) (d : Du) (A : Option Addr) (n c : Nat) (l : List Du) (W : World) : Prop where
  dl : Dl W W.heap.size (.slice A n c) l
  d2 : D2 W p d
  bel : Below w.heap.size w W
  lt : p < W.heap.size
theorem AgAt.below {w W W' : World} {p : Nat} {d : Du} {A : Option Addr} {n c : Nat} {l : List Du} (h : AgAt w p d A n c l W) (hb : Below W.heap.size W W') : AgAt w p d A n c l W' :=
  ⟨h.dl.up hb, h.d2.below hb h.lt, h.bel.trans (hb.mono h.bel.size), Nat.lt_of_lt_of_le h.lt hb.size⟩
theorem AgAt.box {w W : World} {p : Nat} {d : Du} {A : Option Addr} {n c : Nat} {l : List Du} (h : AgAt w p d A n c l W) (X : Du) (t : TypeId) : AgAt w p d A n c l (W.alloc (.cells #[.int .i64 X.dl, .int .i64 X.id] t)) := h.below ((Below.refl _ _).alloc (Nat.le_refl _) _)

theorem W10 (W : World) (X : Du) (t : TypeId) : Below W.heap.size W (W.alloc (.cells #[.int .i64 X.dl, .int .i64 X.id] t)) := (Below.refl _ _).alloc (Nat.le_refl _) _
set_option maxHeartbeats 16000000 in
set_option maxRecDepth 20000 in
theorem agrees5_any (A : Option Addr) (n c : Nat) (l : List Du) (d : Du) (id now : Int) (w : World) (hv : Dl w w.heap.size (.slice A n c) l) :
    Calls Try.prog 9 #[.slice A n c, d.v, .int .i64 id, .int .i64 now] w fun e w' => e = .returned (.bool true) ∧ Below w.heap.size w w' := by
  have H0 := Lib.hid (show AgAt w w.heap.size d A n c l (w.alloc (.cells #[.int .i64 d.dl, .int .i64 d.id] 24)) from
    ⟨(hv.alloc (Nat.le_refl _) _).more (by simp), D2.start w d _, (Below.refl _ _).alloc (Nat.le_refl _) _, by simp⟩)
  have C1 := Lib.hid (fun W h => dvalid_any A n c l W h)
  have C2 := Lib.hid (fun W h => rvalid5_any A n c l W h)
  have C3 := Lib.hid (fun W h => duntil_any A n c l now W h)
  have C4 := Lib.hid (fun W h => runtil_any A n c l now W h)
  have C5 := Lib.hid (fun A A' n n' c c' W B B' h h' => rsamei_yes A A' n n' c c' (unR l now) W B B' h h')
  have C6 := Lib.hid (fun W h => dpush_any A n c l d W h)
  have C7 := Lib.hid (fun W h => rpush5_any A n c l d W h)
  have C8 := Lib.hid (fun A A' n n' c c' l W B B' h h' => rsame5_yes A A' n n' c c' l W B B' h h')
  have C9 := Lib.hid (fun W h => dpop_any A n c l W h)
  have C10 := Lib.hid (fun W h => rpop5_any A n c l W h)
  have C11 := Lib.hid (fun W h => dremove_any A n c l id W h)
  have C12 := Lib.hid (fun W h => rremove5_any A n c l id W h)
  generalize vaF l = x0 at *
  generalize unR l now = U at *
  generalize puE l d = x1 at *
  generalize puR l d = L1 at *
  generalize poE l = x2 at *
  generalize poR l = L2 at *
  generalize poX l = X2 at *
  generalize rmE l id = x3 at *
  generalize rmR l id = L3 at *
  have q0 : (x0 != x0) = false := by simp
  have q1 : (x1 != x1) = false := by simp
  have q2 : (x2 != x2) = false := by simp
  have q3 : (x3 == x3) = true := by simp
  have hneq := neqd_no X2
  clear hv
  go_enter Try.func9, Try.ntmps9
  go_wp2_with fail
  obtain ⟨p, hp⟩ : ∃ p, p = w.heap.size := ⟨_, rfl⟩
  rw [← hp] at H0 ⊢
  clear hp
  refine (C1.out _ H0.out.dl).mono ?_
  rintro e w1 ⟨rfl, hb⟩
  have H1 := Lib.hid (H0.out.below hb)
  clear hb
  go_wp2_with fail
  refine (C2.out _ H1.out.dl).mono ?_
  rintro e w2 ⟨rfl, hb⟩
  have H2 := Lib.hid (H1.out.below hb)
  clear hb
  go_wp2_with fail
  refine (C3.out _ H2.out.dl).mono ?_
  rintro e w3 ⟨v3, rfl, hn3, hb⟩
  have H3 := Lib.hid (H2.out.below hb)
  obtain ⟨A3, c3, rfl⟩ := hn3.form
  have N3 := Lib.hid hn3
  clear hb hn3
  go_wp2_with fail
  refine (C4.out _ H3.out.dl).mono ?_
  rintro e w4 ⟨v4, rfl, hn4, hb⟩
  have H4 := Lib.hid (H3.out.below hb)
  have N4 := Lib.hid (N3.out.up hb)
  obtain ⟨A4, c4, rfl⟩ := hn4.form
  have M4 := Lib.hid hn4
  clear hb hn4
  go_wp2_with fail
  refine (C5.out _ _ _ _ _ _ _ _ _ N4.out M4.out).mono ?_
  rintro e w5 ⟨rfl, hb⟩
  have H5 := Lib.hid (H4.out.below hb)
  obtain ⟨c0, c1⟩ := H5.out.d2
  clear hb
  go_wp2_with fail
  refine (C6.out _ H5.out.dl).mono ?_
  rintro e w6 ⟨A6, c6, rfl, _, hl6, hb⟩
  have H6 := Lib.hid (H5.out.below hb)
  have L6 := Lib.hid hl6
  clear hb hl6 c0 c1
  obtain ⟨c0, c1⟩ := H6.out.d2
  go_wp2_with fail
  refine (C7.out _ H6.out.dl).mono ?_
  rintro e w7 ⟨A7, c7, rfl, _, hl7, hb⟩
  have H7 := Lib.hid (H6.out.below hb)
  have L67 := Lib.hid (L6.out.up hb)
  have L7 := Lib.hid hl7
  clear hb hl7 c0 c1
  go_wp2_with fail
  refine (C8.out _ _ _ _ _ _ _ _ _ _ L67.out L7.out).mono ?_
  rintro e w8 ⟨rfl, hb⟩
  have H8 := Lib.hid (H7.out.below hb)
  clear hb
  go_wp2_with fail
  refine (C9.out _ H8.out.dl).mono ?_
  rintro e w9 ⟨A9, c9, rfl, _, hl9, hb⟩
  have H9 := Lib.hid ((H8.out.below hb).box X2 24)
  have L9 := Lib.hid ((hl9.alloc (Nat.le_refl _) (.cells #[.int .i64 X2.dl, .int .i64 X2.id] 24)).more (show w9.heap.size ≤ (w9.alloc (.cells #[.int .i64 X2.dl, .int .i64 X2.id] 24)).heap.size by simp))
  have B9 := Lib.hid (And.intro (D2.start w9 X2 24) (show w9.heap.size < (w9.alloc (.cells #[.int .i64 X2.dl, .int .i64 X2.id] 24)).heap.size by simp))
  clear hb hl9
  go_wp2_with fail
  obtain ⟨p9, hp9⟩ : ∃ p9, p9 = w9.heap.size := ⟨_, rfl⟩
  rw [← hp9] at B9 ⊢
  clear hp9
  refine (C10.out _ H9.out.dl).mono ?_
  rintro e w10 ⟨A10, c10, rfl, _, hl10, hb⟩
  have H10 := Lib.hid ((H9.out.below hb).box X2 24)
  have L910 := Lib.hid ((L9.out.up hb).up (W10 w10 X2 24))
  have L10 := Lib.hid (hl10.up (W10 w10 X2 24))
  have B910 := Lib.hid ((B9.out.1.below hb B9.out.2).below (W10 w10 X2 24) (Nat.lt_of_lt_of_le B9.out.2 hb.size))
  have B10 := Lib.hid (D2.start w10 X2 24)
  clear hb hl10
  obtain ⟨d0, d1⟩ := B910.out
  go_wp2_with fail
  refine (C8.out _ _ _ _ _ _ _ _ _ _ L910.out L10.out).mono ?_
  rintro e w11 ⟨rfl, hb⟩
  have H11 := Lib.hid (H10.out.below hb)
  clear hb d0 d1
  go_wp2_with fail
  refine (C11.out _ H11.out.dl).mono ?_
  rintro e w12 ⟨A12, c12, rfl, _, hl12, hb⟩
  have H12 := Lib.hid (H11.out.below hb)
  have L12 := Lib.hid hl12
  clear hb hl12
  go_wp2_with fail
  refine (C12.out _ H12.out.dl).mono ?_
  rintro e w13 ⟨A13, c13, rfl, _, hl13, hb⟩
  have H13 := Lib.hid (H12.out.below hb)
  have L1213 := Lib.hid (L12.out.up hb)
  have L13 := Lib.hid hl13
  clear hb hl13
  go_wp2_with fail
  refine (C8.out _ _ _ _ _ _ _ _ _ _ L1213.out L13.out).mono ?_
  rintro e w14 ⟨rfl, hb⟩
  have H14 := Lib.hid (H13.out.below hb)
  clear hb
  go_wp2
  go_ret
  exact ⟨rfl, H14.out.bel⟩

def aw1 : Du := ⟨5, 1⟩
def aw2 : Du := ⟨3, 2⟩
theorem aw_va0 : vaF [] = 0 := vaF_ok (by simp) (by simp) (by rintro ⟨i, j, _, h, _⟩; simp at h) (fun j _ h => by simp at h)
theorem aw_p1 : puE [] aw1 = 0 ∧ puR [] aw1 = [aw1] := by
  have h : puE [] aw1 = 0 := by
    unfold puE
    rw [if_neg (by simpa using aw_va0), if_neg (by decide), if_neg (by simp), if_neg (by decide)]
  refine ⟨h, ?_⟩
  unfold puR
  rw [if_pos h]
  unfold puF
  rw [List.length_nil, upF_zero]
  rfl
theorem aw_p2 : puE [aw1] aw2 = 0 ∧ puR [aw1] aw2 = [aw2, aw1] := by
  have hv : vaF [aw1] = 0 := by
    have := vaF_push (h := []) (d := aw1) aw_va0 (by decide) (by simp) (by simp)
    unfold puF at this
    rw [List.length_nil, upF_zero] at this
    exact this
  have h : puE [aw1] aw2 = 0 := by
    unfold puE
    rw [if_neg (by simpa using hv), if_neg (by decide), if_neg (by simp), if_neg (by decide)]
  refine ⟨h, ?_⟩
  unfold puR
  rw [if_pos h]
  unfold puF
  rw [upF_step (by simp) (by decide), show ([aw1].length - 1) / 2 = 0 by simp, upF_zero]
  rfl
set_option maxHeartbeats 4000000 in
theorem awake5_any (w : World) : Calls Try.prog 10 #[] w fun e w' => e = .returned (.bool true) ∧ Below w.heap.size w w' := by
  have HP1 := Lib.hid (fun W => (show Calls Try.prog 15 #[.slice none 0 0, .agg #[.int .i64 5, .int .i64 1]] W (DlE W [aw1] 0) from by
    have h := dpush_any none 0 0 [] aw1 W Dl.nil
    rw [aw_p1.1, aw_p1.2] at h
    exact h))
  have HP2 := Lib.hid (fun A c W (hd : Dl W W.heap.size (.slice A 1 c) [aw1]) => (show Calls Try.prog 15 #[.slice A 1 c, .agg #[.int .i64 3, .int .i64 2]] W (DlE W [aw2, aw1] 0) from by
    have h := dpush_any A 1 c [aw1] aw2 W hd
    rw [aw_p2.1, aw_p2.2] at h
    exact h))
  go_enter Try.func10, Try.ntmps10
  go_wp2_with fail
  refine (HP1.out _).mono ?_
  rintro e w1 ⟨A1, c1, rfl, _, hl, hb⟩
  have H1 := Lib.hid (show Dl w1 w1.heap.size (.slice A1 1 c1) [aw1] from hl)
  have HB1 := Lib.hid hb
  rw [show [aw1].length = 1 from rfl]
  clear hl hb
  go_wp2_with fail
  refine (HP2.out _ _ _ H1.out).mono ?_
  rintro e w2 ⟨A2, c2, rfl, _, hl, hb⟩
  have H2 := Lib.hid (show Dl w2 w2.heap.size (.slice A2 2 c2) [aw2, aw1] from hl)
  have HB2 := Lib.hid (HB1.out.trans (hb.mono HB1.out.size))
  rw [show [aw2, aw1].length = 2 from rfl]
  clear hl hb
  obtain ⟨b, o, rfl, _, c0, c1⟩ := H2.out.atg (k := 0) (by decide)
  have c0' : w2.cell? ⟨b, o, none⟩ = some (.int .i64 3) := by simpa [ge, aw2] using c0
  have c1' : w2.cell? ⟨b, o + 1, none⟩ = some (.int .i64 2) := by simpa [ge, aw2] using c1
  clear c0 c1
  go_wp2
  go_ret
  exact ⟨rfl, HB2.out⟩
end Go.Proofs.Ytobimcpkhgfliaa
namespace Go.Proofs.Ytobimcpkhgfliaa
open Go.Joins Go.ChangeShapes Go.WideShapes Go.RowKit Go.Deep
set_option linter.unusedVariables false

/-- The element as data. -/
def Du.d {H : Type} (x : Du) : DataW H := .agg [.lit (.int .i64 x.dl), .lit (.int .i64 x.id)]
/-- Its numbers are numbers of 64 bits. -/
def Du.wf (x : Du) : Prop := (Lit.int .i64 x.dl).wf = true ∧ (Lit.int .i64 x.id).wf = true
theorem due_cells : Try.prog.cellsOf 24 = 2 := by kernel_rfl

section
variable {H : Type} {enc : TypeId × Value → H} {w : World} {base : Nat} {spare : Nat → Bool} {held : Bool}
theorem open_due {r : Reach} {b0 : Nat} {v : Value} {d : DataW H} {p : List MemPlace} (hv : Value.okWide Try.prog w r b0 24 v) (h : DataW.Trod enc Try.prog w base spare held 24 v d p) :
    ∃ x : Du, v = x.v ∧ d = x.d ∧ p = [] ∧ x.wf := by
  obtain ⟨c0, c1, y0, y1, n, rfl, rfl, rfl, hy0, hy1⟩ := open_agg2 Try.underlying24 (by kernel_rfl) due_cells hv h
  obtain ⟨a0, e0, rfl, w0⟩ := DataW.trod_int Try.underlying3 hy0
  obtain ⟨a1, e1, rfl, w1⟩ := DataW.trod_int Try.underlying3 hy1
  simp at e0 e1
  subst e0 e1
  exact ⟨⟨a0, a1⟩, rfl, rfl, rfl, w0, w1⟩
theorem shut_due (x : Du) (h : x.wf) : DataW.Trod enc Try.prog w base spare held 24 x.v x.d [] :=
  shut_agg2 (y0 := (.lit (.int .i64 x.dl), [])) (y1 := (.lit (.int .i64 x.id), [])) Try.underlying24 (by kernel_rfl) due_cells
    ⟨1, by simp [DataW.trod, Try.underlying3, h.1]⟩ ⟨1, by simp [DataW.trod, Try.underlying3, h.2]⟩
theorem cells2 {P : Program} {t : TypeId} {f0 f1 : Field} {fuel : Nat} {cs : List Value} {x : DataW H × List MemPlace} (hs : P.underlying t = some (.struct #[f0, f1])) (hone : oneCellFields P #[f0, f1] = true)
    (hl : cs.length = 2) (h : DataW.trod enc P w base spare held fuel t cs = some x) :
    ∃ (v0 v1 : Value) (y0 y1 : DataW H × List MemPlace) (n : Nat), cs = [v0, v1] ∧
      DataW.trod enc P w base spare held n f0.type [v0] = some y0 ∧ DataW.trod enc P w base spare held n f1.type [v1] = some y1 := by
  match cs, hl with
  | [c0, c1], _ =>
    obtain ⟨xs, n, _, hx, _, hlen, hg⟩ := DataW.trod_struct hs h
    obtain ⟨o0, k0⟩ := hone_of hone 0 f0 rfl
    obtain ⟨o1, k1⟩ := hone_of hone 1 f1 rfl
    match xs, hlen with
    | [y0, y1], _ =>
      exact ⟨c0, c1, y0, y1, n, rfl, by simpa [o0, k0] using hg 0 f0 rfl, by simpa [o1, k1] using hg 1 f1 rfl⟩
theorem due_one {fuel : Nat} {cs : List Value} {x : DataW H × List MemPlace} (h : DataW.trod enc Try.prog w base spare held fuel 24 cs = some x) (hl : cs.length = 2) :
    ∃ d : Du, cs = d.l := by
  obtain ⟨c0, c1, y0, y1, n, rfl, g0, g1⟩ := cells2 Try.underlying24 (by kernel_rfl) hl h
  obtain ⟨a0, z0, _, _⟩ := DataW.trod_int Try.underlying3 g0
  obtain ⟨a1, z1, _, _⟩ := DataW.trod_int Try.underlying3 g1
  simp at z0 z1
  subst z0 z1
  exact ⟨⟨a0, a1⟩, rfl⟩

theorem open_dues {fuel : Nat} {cs : List Value} {x : DataW H × List MemPlace} (h : DataW.trod enc Try.prog w base spare held fuel 22 cs = some x) :
    ∃ (A : Option Addr) (n c : Nat) (l : List Du), cs = [.slice A n c] ∧ Dl w w.heap.size (.slice A n c) l := by
  rcases open_slice Try.underlying22 h with ⟨rfl, _⟩ | ⟨a, len, cap, m, n, D, Pl, rfl, _, hl, hm, hmm, _, hi⟩
  · exact ⟨none, 0, 0, [], rfl, Dl.nil⟩
  · have hlm : len ≤ m := by rw [hmm]; split <;> omega
    rw [due_cells] at hi
    have hM : ∀ i, i < len → ∃ d : Du, ∀ j, j < 2 → w.cell? (a.add (i * 2 + j)) = d.l[j]? := fun i hil => by
      obtain ⟨cs', hc, ht⟩ := hi i (by omega)
      obtain ⟨_, hcl, hat⟩ := World.cells?_some hc
      obtain ⟨d, rfl⟩ := due_one ht hcl
      refine ⟨d, fun j hj => ?_⟩
      have g := hat j hj
      rw [← Go.Deep.add_add]
      exact g
    by_cases h0 : len = 0
    · subst h0
      exact ⟨some a, 0, cap, [], rfl, some a, cap, rfl, hl, hm, Rd.nil _⟩
    · let f : Nat → Du := fun i => if h : i < len then (hM i h).choose else zD
      have hfs : ∀ i, i < len → ∀ j, j < 2 → w.cell? (a.add (i * 2 + j)) = (f i).l[j]? := fun i hil j hj => by
        show _ = (if h : i < len then (hM i h).choose else zD).l[j]?
        rw [dif_pos hil]
        exact (hM i hil).choose_spec j hj
      obtain ⟨b, o, spot⟩ := a
      have c0 := hfs 0 (by omega) 0 (by omega)
      have c0' : w.cell? (Addr.add ⟨b, o, spot⟩ (0 * 2 + 0)) = some (.int .i64 (f 0).dl) := c0
      have hspot : spot = none := by simpa [Addr.add] using World.cell?_spot c0'
      subst hspot
      have hb : b < w.heap.size := World.block_lt_of_cell? w ⟨b, o, none⟩ (by simpa [Addr.add] using c0')
      have hll : ((List.range len).map f).length = len := by simp
      refine ⟨some ⟨b, o, none⟩, len, cap, (List.range len).map f, rfl, some ⟨b, o, none⟩, cap, by rw [hll], by rw [hll]; exact hl, hm, by rw [dcs_len, hll], fun _ => ⟨b, o, rfl, hb, fun i u hu => ?_⟩⟩
      have hi2 : i < len * 2 := by have := (List.getElem?_eq_some_iff.1 hu).1; rw [dcs_len, hll] at this; exact this
      have e : i = i / 2 * 2 + i % 2 := by omega
      have hlt : i / 2 < len := by omega
      rw [e] at hu ⊢
      rw [dcs_at _ _ _ (by rw [hll]; exact hlt) (by omega)] at hu
      have g := hfs (i / 2) hlt (i % 2) (by omega)
      rw [add_mk] at g
      rw [g, ← hu]
      simp
end
end Go.Proofs.Ytobimcpkhgfliaa
