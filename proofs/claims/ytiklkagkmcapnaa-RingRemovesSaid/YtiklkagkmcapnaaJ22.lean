/- What is proved here: the sanity check at the end of the statements about rings is true. -/
import Derived.Test.YtiklkagkmcapnaaJ11
namespace Go.Proofs.Ytiklkagkmcapnaa
open Go.RowKit
set_option linter.unusedVariables false

def oneM : Msg := ⟨1, 0, 0, 0, 0, 0, ByteArray.empty⟩
theorem aw_new : nwC 3 = fil 3 0 [] ∧ nwE 3 = 0 := nwC_fil (k := 3) (by omega) (by omega) 0 (by omega)
theorem aw_vf : vf oneM = 0 := by decide
theorem aw_push : puE (fil 3 0 []) 0 0 oneM = 0 ∧ pfC (fil 3 0 []) 0 0 oneM = fil 3 2 [oneM] ∧ pfH (fil 3 0 []) 0 0 oneM = 2 :=
  ⟨puE_fil (n := 3) (hd := 0) (l := []) (by omega) (by omega) (by omega) (by simp) gd_nil aw_vf (by simp), pfC_fil (n := 3) (hd := 0) (l := []) (by omega) (by omega) (by omega) (by simp) gd_nil aw_vf (by simp)⟩
theorem aw_list : lsF (fil 3 2 [oneM]) 2 1 = [oneM] := lsF_fil (n := 3) (hd := 2) (l := [oneM]) (by omega) (by omega) (by omega) (by simp) (gd_front gd_nil aw_vf (by simp))

set_option maxHeartbeats 4000000 in
theorem awake4_any (w : World) : Calls Try.prog 12 #[] w fun e w' => e = .returned (.bool true) ∧ Below w.heap.size w w' := by
  obtain ⟨hn, he⟩ := aw_new
  obtain ⟨hp0, hp1, hp2⟩ := aw_push
  have HN := Lib.hid (show Calls Try.prog 8 #[.int .i64 3] w (RP w (fil 3 0 []) 0 0 0) by rw [← hn]; have := gnew_any 3 w; rw [he] at this; exact this)
  have HP := Lib.hid (fun A c w1 (h : Ls w1 w1.heap.size (.slice A 3 c) (fil 3 0 [])) => (show Calls Try.prog 21 #[.agg #[.slice A 3 c, .int .i64 0, .int .i64 0], oneM.v] w1 (RP w1 (fil 3 2 [oneM]) 2 1 0) by
    have := pfront_any A 3 c (fil 3 0 []) 0 0 oneM w1 h
    rw [hp0, hp1, hp2, show ifE 0 ((0 : Int) + 1) = 1 from rfl] at this
    exact this))
  have HL := Lib.hid (fun A c w1 (h : Ls w1 w1.heap.size (.slice A 3 c) (fil 3 2 [oneM])) => (show Calls Try.prog 25 #[.agg #[.slice A 3 c, .int .i64 2, .int .i64 1]] w1 (LsP [oneM] w1) by
    have := glist_any A 3 c (fil 3 2 [oneM]) 2 1 w1 h
    rw [aw_list] at this
    exact this))
  have HF0 := Lib.hid (fil_len 3 0 [])
  have HF2 := Lib.hid (fil_len 3 2 [oneM])
  have HB0 := Lib.hid (Below.refl w.heap.size w)
  clear hn he hp0 hp1 hp2
  generalize fil 3 0 [] = c0 at *
  generalize fil 3 2 [oneM] = c2 at *
  go_enter Try.func12, Try.ntmps12
  go_wp2_with fail
  refine HN.out.mono ?_
  rintro e w1 ⟨A1, k1, rfl, hnw, hl, hb⟩
  rw [HF0.out] at hl ⊢
  have HL1 := Lib.hid hl
  have HB1 := Lib.hid (HB0.out.trans hb)
  have HR1 := Lib.hid (RB.fresh w1 A1 3 k1 0 0 24)
  clear hnw hl hb
  go_wp2_with fail
  refine (HP.out A1 k1 _ ((HL1.out.alloc (Nat.le_refl _) _).more (by simp))).mono ?_
  rintro e w2 ⟨A2, k2, rfl, hnw, hl, hb⟩
  rw [HF2.out] at hl ⊢
  have HB2 := Lib.hid ((HB1.out.alloc HB1.out.size (.cells #[.slice A1 3 k1, .int .i64 0, .int .i64 0] 24)).trans (hb.mono (by have := HB1.out.size; simp; omega)))
  have HR2 := Lib.hid (HR1.out.below hb (by simp))
  have HRL := Lib.hid (show w.heap.size ≤ w1.heap.size from HB1.out.size)
  have hplt : w1.heap.size < (w1.alloc (.cells #[.slice A1 3 k1, .int .i64 0, .int .i64 0] 24)).heap.size := by simp
  have HL2 := Lib.hid (((hl.off hnw (p := ⟨w1.heap.size, 0, none⟩) hplt (.slice A2 3 k2)).off hnw (p := ⟨w1.heap.size, 1, none⟩) hplt (.int .i64 2)).off hnw (p := ⟨w1.heap.size, 2, none⟩) hplt (.int .i64 1))
  obtain ⟨p, hp⟩ : ∃ p, p = w1.heap.size := ⟨_, rfl⟩
  rw [← hp] at HR2 HRL HL2 ⊢
  obtain ⟨r0, r1, r2, r3, r4, r5, hpl⟩ := HR2.out.facts
  have HB3 := Lib.hid (((HB2.out.setCell (p := ⟨p, 0, none⟩) HRL.out (.slice A2 3 k2)).setCell (p := ⟨p, 1, none⟩) HRL.out (.int .i64 2)).setCell (p := ⟨p, 2, none⟩) HRL.out (.int .i64 1))
  clear hnw hl hb hp hplt
  go_wp2_with fail
  refine (HL.out A2 k2 _ (HL2.out.more (by simp))).mono ?_
  rintro e w3 ⟨v, rfl, _, hl, hb⟩
  obtain ⟨A3, k3, rfl, _, _⟩ := hl.form
  have HB4 := Lib.hid (HB3.out.trans (hb.mono HB3.out.size))
  clear hl hb
  go_wp2
  go_ret
  exact ⟨rfl, HB4.out⟩
end Go.Proofs.Ytiklkagkmcapnaa
