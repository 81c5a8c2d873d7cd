/- What is proved here: the sanity check at the end of the statements about rings is true; ring.Detach by a contract; ring.Absorb by a contract. -/
import Derived.Test.YtiklkagkmcapnaaJ11
import Derived.Test.YtiklkagkmcapnaaJ14
import Derived.Test.YtiklkagkmcapnaaJ07
import Derived.Test.YtiklkagkmcapnaaJ19
namespace Go.Proofs.Ytiklkagkmcapnaa
open Go.RowKit
set_option linter.unusedVariables false

def oneM : Msg := ⟨1, 0, 0, 0, 0, 0, ByteArray.empty⟩
theorem aw_new : nwC 3 = fil 3 0 [] ∧ nwE 3 = 0 := nwC_fil (k := 3) (by omega) (by omega) 0 (by omega)
theorem aw_vf : vf oneM = 0 := by decide
theorem aw_push : puE (fil 3 0 []) 0 0 oneM = 0 ∧ pfC (fil 3 0 []) 0 0 oneM = fil 3 2 [oneM] ∧ pfH (fil 3 0 []) 0 0 oneM = 2 :=
  ⟨puE_fil (n := 3) (hd := 0) (l := []) (by omega) (by omega) (by omega) (by simp) gd_nil aw_vf (by simp), pfC_fil (n := 3) (hd := 0) (l := []) (by omega) (by omega) (by omega) (by simp) gd_nil aw_vf (by simp)⟩
theorem aw_list : lsF (fil 3 2 [oneM]) 2 1 = [oneM] := lsF_fil (n := 3) (hd := 2) (l := [oneM]) (by omega) (by omega) (by omega) (by simp) (gd_front gd_nil aw_vf (by simp))

set_option maxHeartbeats 4000000 in
theorem awake4_any (w : World) : Calls Try.prog 12 #[] w fun e w' => e = .returned (.bool true) ∧ Below w.heap.size w w' := by
  obtain ⟨hn, he⟩ := aw_new
  obtain ⟨hp0, hp1, hp2⟩ := aw_push
  have HN := Lib.hid (show Calls Try.prog 8 #[.int .i64 3] w (RP w (fil 3 0 []) 0 0 0) by rw [← hn]; have := gnew_any 3 w; rw [he] at this; exact this)
  have HP := Lib.hid (fun A c w1 (h : Ls w1 w1.heap.size (.slice A 3 c) (fil 3 0 [])) => (show Calls Try.prog 21 #[.agg #[.slice A 3 c, .int .i64 0, .int .i64 0], oneM.v] w1 (RP w1 (fil 3 2 [oneM]) 2 1 0) by
    have := pfront_any A 3 c (fil 3 0 []) 0 0 oneM w1 h
    rw [hp0, hp1, hp2, show ifE 0 ((0 : Int) + 1) = 1 from rfl] at this
    exact this))
  have HL := Lib.hid (fun A c w1 (h : Ls w1 w1.heap.size (.slice A 3 c) (fil 3 2 [oneM])) => (show Calls Try.prog 25 #[.agg #[.slice A 3 c, .int .i64 2, .int .i64 1]] w1 (LsP [oneM] w1) by
    have := glist_any A 3 c (fil 3 2 [oneM]) 2 1 w1 h
    rw [aw_list] at this
    exact this))
  have HF0 := Lib.hid (fil_len 3 0 [])
  have HF2 := Lib.hid (fil_len 3 2 [oneM])
  have HB0 := Lib.hid (Below.refl w.heap.size w)
  clear hn he hp0 hp1 hp2
  generalize fil 3 0 [] = c0 at *
  generalize fil 3 2 [oneM] = c2 at *
  go_enter Try.func12, Try.ntmps12
  go_wp2_with fail
  refine HN.out.mono ?_
  rintro e w1 ⟨A1, k1, rfl, hnw, hl, hb⟩
  rw [HF0.out] at hl ⊢
  have HL1 := Lib.hid hl
  have HB1 := Lib.hid (HB0.out.trans hb)
  have HR1 := Lib.hid (RB.fresh w1 A1 3 k1 0 0 24)
  clear hnw hl hb
  go_wp2_with fail
  refine (HP.out A1 k1 _ ((HL1.out.alloc (Nat.le_refl _) _).more (by simp))).mono ?_
  rintro e w2 ⟨A2, k2, rfl, hnw, hl, hb⟩
  rw [HF2.out] at hl ⊢
  have HB2 := Lib.hid ((HB1.out.alloc HB1.out.size (.cells #[.slice A1 3 k1, .int .i64 0, .int .i64 0] 24)).trans (hb.mono (by have := HB1.out.size; simp; omega)))
  have HR2 := Lib.hid (HR1.out.below hb (by simp))
  have HRL := Lib.hid (show w.heap.size ≤ w1.heap.size from HB1.out.size)
  have hplt : w1.heap.size < (w1.alloc (.cells #[.slice A1 3 k1, .int .i64 0, .int .i64 0] 24)).heap.size := by simp
  have HL2 := Lib.hid (((hl.off hnw (p := ⟨w1.heap.size, 0, none⟩) hplt (.slice A2 3 k2)).off hnw (p := ⟨w1.heap.size, 1, none⟩) hplt (.int .i64 2)).off hnw (p := ⟨w1.heap.size, 2, none⟩) hplt (.int .i64 1))
  obtain ⟨p, hp⟩ : ∃ p, p = w1.heap.size := ⟨_, rfl⟩
  rw [← hp] at HR2 HRL HL2 ⊢
  obtain ⟨r0, r1, r2, r3, r4, r5, hpl⟩ := HR2.out.facts
  have HB3 := Lib.hid (((HB2.out.setCell (p := ⟨p, 0, none⟩) HRL.out (.slice A2 3 k2)).setCell (p := ⟨p, 1, none⟩) HRL.out (.int .i64 2)).setCell (p := ⟨p, 2, none⟩) HRL.out (.int .i64 1))
  clear hnw hl hb hp hplt
  go_wp2_with fail
  refine (HL.out A2 k2 _ (HL2.out.more (by simp))).mono ?_
  rintro e w3 ⟨v, rfl, _, hl, hb⟩
  obtain ⟨A3, k3, rfl, _, _⟩ := hl.form
  have HB4 := Lib.hid (HB3.out.trans (hb.mono HB3.out.size))
  clear hl hb
  go_wp2
  go_ret
  exact ⟨rfl, HB4.out⟩
end Go.Proofs.Ytiklkagkmcapnaa
namespace Go.Proofs.Ytiklkagkmcapnaa
open Go.RowKit
set_option linter.unusedVariables false

/-- The work of Detach: the ring, the result. -/
structure DtAt (w : World) (p r : Nat) (A : Option Addr) (n c : Nat) (hd sz : Int) (W : World) : Prop where
  rb : RB W p A n c hd sz
  rs : RB W r none 0 0 0 0
  bel : Below w.heap.size w W
  old : w.heap.size ≤ p ∧ p < r
section
variable {w W W' : World} {p r n c : Nat} {A : Option Addr} {hd sz : Int}
theorem DtAt.below (h : DtAt w p r A n c hd sz W) (hb : Below W.heap.size W W') : DtAt w p r A n c hd sz W' :=
  ⟨h.rb.below hb h.rb.lt, h.rs.below hb h.rs.lt, h.bel.trans (hb.mono h.bel.size), h.old⟩
theorem DtAt.drew (h : DtAt w p r A n c hd sz W) : DtAt w p r A n c hd sz W.drew := ⟨h.rb.drew, h.rs.drew, h.bel.drew, h.old⟩
theorem DtAt.setA (h : DtAt w p r A n c hd sz W) (A' : Option Addr) (n' c' : Nat) : DtAt w p r A' n' c' hd sz (W.setCell ⟨p, 0, none⟩ (.slice A' n' c')) :=
  ⟨h.rb.setA A' n' c', h.rs.other (a := ⟨p, 0, none⟩) (show p ≠ r by have := h.old; omega) _, h.bel.setCell (p := ⟨p, 0, none⟩) h.old.1 _, h.old⟩
theorem DtAt.setS (h : DtAt w p r A n c hd sz W) (x : Int) : DtAt w p r A n c hd x (W.setCell ⟨p, 2, none⟩ (.int .i64 x)) :=
  ⟨h.rb.setS x, h.rs.other (a := ⟨p, 2, none⟩) (show p ≠ r by have := h.old; omega) _, h.bel.setCell (p := ⟨p, 2, none⟩) h.old.1 _, h.old⟩
theorem DtAt.start (w : World) (A : Option Addr) (n c : Nat) (hd sz : Int) (t : TypeId) : DtAt w w.heap.size (w.heap.size + 1) A n c hd sz ((w.alloc (.cells #[.slice A n c, .int .i64 hd, .int .i64 sz] t)).alloc (.cells #[.slice none 0 0, .int .i64 0, .int .i64 0] t)) := by
  have e : (w.alloc (.cells #[.slice A n c, .int .i64 hd, .int .i64 sz] t)).heap.size = w.heap.size + 1 := by simp
  have k := RB.fresh (w.alloc (.cells #[.slice A n c, .int .i64 hd, .int .i64 sz] t)) none 0 0 0 0 t
  rw [e] at k
  exact ⟨(RB.fresh w A n c hd sz t).alloc _, k, ((Below.refl _ _).alloc (Nat.le_refl _) _).alloc (by omega) _, Nat.le_refl _, Nat.lt_succ_self _⟩
theorem DtAt.end1 (h : DtAt w p r A n c hd sz W) (x y z : Value) : Below w.heap.size w (((W.setCell ⟨r, 0, none⟩ x).setCell ⟨r, 1, none⟩ y).setCell ⟨r, 2, none⟩ z) := by
  have hr : w.heap.size ≤ r := by have := h.old; omega
  exact ((h.bel.setCell (p := ⟨r, 0, none⟩) hr _).setCell (p := ⟨r, 1, none⟩) hr _).setCell (p := ⟨r, 2, none⟩) hr _
end
/-- With the new cells and the messages that are taken off. -/
structure DuAt (w : World) (p r z : Nat) (n cap : Nat) (hd sz : Int) (f : Nat → Msg) (A5 : Option Addr) (n5 c5 : Nat) (P : List Msg) (W : World) : Prop where
  dt : DtAt w p r (some ⟨z, 0, none⟩) n cap hd sz W
  row : MRow W z n f
  l5 : Ls W z (.slice A5 n5 c5) P
  old : r < z
section
variable {w W W' : World} {p r z n cap n5 c5 : Nat} {hd sz : Int} {f : Nat → Msg} {A5 : Option Addr} {P : List Msg}
theorem DuAt.below (h : DuAt w p r z n cap hd sz f A5 n5 c5 P W) (hb : Below W.heap.size W W') : DuAt w p r z n cap hd sz f A5 n5 c5 P W' := ⟨h.dt.below hb, h.row.below hb h.row.1, h.l5.below (hb.mono (Nat.le_of_lt h.row.1)), h.old⟩
theorem DuAt.drew (h : DuAt w p r z n cap hd sz f A5 n5 c5 P W) : DuAt w p r z n cap hd sz f A5 n5 c5 P W.drew := ⟨h.dt.drew, h.row, h.l5, h.old⟩
theorem DuAt.put0 (h : DuAt w p r z n cap hd sz f A5 n5 c5 P W) {k : Nat} (hk : k < n) : DuAt w p r z n cap hd sz (fun i => if i = k then zM else f i) A5 n5 c5 P (((((((W.setCell ⟨z, k * 7, none⟩ (.int .i64 0)).setCell ⟨z, k * 7 + 1, none⟩ (.int .i64 0)).setCell ⟨z, k * 7 + 2, none⟩ (.int .i64 0)).setCell ⟨z, k * 7 + 3, none⟩ (.int .i64 0)).setCell ⟨z, k * 7 + 4, none⟩ (.int .i64 0)).setCell ⟨z, k * 7 + 5, none⟩ (.int .i64 0)).setCell ⟨z, k * 7 + 6, none⟩ (.string ⟨#[]⟩)) :=
  ⟨⟨h.dt.rb.sets (b := z) (by have := h.old; have := h.dt.old; omega) (k * 7) zM.l, h.dt.rs.sets (b := z) (by have := h.old; omega) (k * 7) zM.l, sets_below (b := z) (by have := h.old; have := h.dt.old; omega) zM.l (k * 7) W h.dt.bel, h.dt.old⟩, h.row.put7n hk zM, h.l5.sets (Nat.le_refl z) (k * 7) zM.l, h.old⟩
theorem DuAt.s3 (h : DuAt w p r z n cap hd sz f A5 n5 c5 P W) : W.cell? ⟨p, 0, none⟩ = some (.slice (some ⟨z, 0, none⟩) n cap) ∧ W.cell? ⟨p, 1, none⟩ = some (.int .i64 hd) ∧ W.cell? ⟨p, 2, none⟩ = some (.int .i64 sz) := ⟨h.dt.rb.c0, h.dt.rb.c1, h.dt.rb.c2⟩
theorem DuAt.at1 (h : DuAt w p r z n cap hd sz f A5 n5 c5 P W) {k : Nat} (hk : k < n) : C7 W z (k * 7) (f k) ∧ (W.frozen? ⟨z, k * 7, none⟩ = false ∧ W.frozen? ⟨z, k * 7 + 1, none⟩ = false ∧ W.frozen? ⟨z, k * 7 + 2, none⟩ = false ∧ W.frozen? ⟨z, k * 7 + 3, none⟩ = false ∧ W.frozen? ⟨z, k * 7 + 4, none⟩ = false ∧ W.frozen? ⟨z, k * 7 + 5, none⟩ = false ∧ W.frozen? ⟨z, k * 7 + 6, none⟩ = false) ∧ p < W.heap.size ∧ z < W.heap.size ∧ z ≠ p ∧ p ≠ z :=
  ⟨h.row.c7 hk, h.row.free _, h.dt.rb.lt, h.row.1, by have := h.old; have := h.dt.old; omega, by have := h.old; have := h.dt.old; omega⟩
end

attribute [local go_sem ↓] Go.wp_at_zero Go.wp_at_succ
set_option maxHeartbeats 8000000 in
set_option maxRecDepth 20000 in
theorem detach_any (A : Option Addr) (n c : Nat) (cs : List Msg) (hd sz k : Int) (w : World) (hv : Ls w w.heap.size (.slice A n c) cs) :
    Calls Try.prog 26 #[.agg #[.slice A n c, .int .i64 hd, .int .i64 sz], .int .i64 k] w (RLP w (dtC cs hd sz k) (ifE (dtE cs hd sz k) hd) (ifE (dtE cs hd sz k) (sz - k)) (dtL cs hd sz k) (dtE cs hd sz k)) := by
  obtain ⟨rfl, _, _⟩ := hv.len
  have HV := Lib.hid hv
  have HG := Lib.hid (fun w1 (h : Ls w1 w1.heap.size (.slice A cs.length c) cs) => gvalid_any A cs.length c cs hd sz w1 h)
  have HWI := Lib.hid (fun w => gwithin_any k 0 sz w)
  clear hv
  by_cases h0 : rgV cs hd sz = 0
  · cases hw : wi k 0 sz with
    | true =>
      have hE : dtE cs hd sz k = 0 := by unfold dtE; rw [if_neg (by simpa using h0), if_pos hw]
      have hk := wi_of hw
      obtain ⟨hn, hz, _, _⟩ := rgV_zero h0
      obtain ⟨⟨n1, n2⟩, ⟨k1, k2⟩, ⟨s1, s2⟩⟩ := nm_of hn
      obtain ⟨hd, rfl⟩ := Int.eq_ofNat_of_zero_le k1
      obtain ⟨sz, rfl⟩ := Int.eq_ofNat_of_zero_le s1
      obtain ⟨k, rfl⟩ := Int.eq_ofNat_of_zero_le hk.1
      have hks : k ≤ sz := by omega
      simp only [Int.toNat_natCast] at hz
      have hsk : ((sz : Int) - (k : Int)).toNat = sz - k := by omega
      have HC := Lib.hid (show dtC cs hd sz k = fil cs.length hd ((ord cs hd sz).take (sz - k)) by unfold dtC; rw [if_pos hE, hsk]; simp only [Int.toNat_natCast])
      have HL := Lib.hid (show dtL cs hd sz k = (ord cs hd sz).drop (sz - k) by unfold dtL; rw [if_pos hE, hsk]; simp only [Int.toNat_natCast])
      have HE1 := Lib.hid (show ifE 0 (hd : Int) = hd from if_pos rfl)
      have HE2 := Lib.hid (show ifE 0 ((sz : Int) - (k : Int)) = (sz : Int) - (k : Int) from if_pos rfl)
      have HO := Lib.hid (fun w1 (h : Ls w1 w1.heap.size (.slice A cs.length c) cs) => ordered_any A cs.length c cs hd sz w1 h hn)
      have HOL := Lib.hid (ord_len cs hd sz)
      have HDC := Lib.hid (fun (g : Nat → Msg) => detach_cells (cs := cs) (hd := hd) (sz := sz) (x := sz - k) (g := g) (by omega) (by omega) (by omega) hz)
      have HFL := Lib.hid (fil_len cs.length hd ((ord cs hd sz).take (sz - k)))
      have HCL := Lib.hid (fun w1 (h : Ls w1 w1.heap.size (.slice A cs.length c) cs) => clone_any A cs.length c cs w1 h (by omega) (by omega))
      rw [h0] at HG
      rw [hw] at HWI
      rw [hE]
      obtain ⟨x, hx⟩ : ∃ x, x = sz - k := ⟨_, rfl⟩
      rw [← hx] at HC HL HDC HFL
      have hxi : (sz : Int) - (k : Int) = (x : Int) := by omega
      have hxw : IntKind.i64.wrap ((sz : Int) - (k : Int)) = (x : Int) := by rw [hxi]; exact IntWalk.i64_in _ (by omega)
      have hx12 : (x : Int) ≤ 12 := by omega
      have hk12 : (k : Int) ≤ 12 := by omega
      have HXS := Lib.hid (show x + k = sz by omega)
      have hs12 : (sz : Int) ≤ 12 := by omega
      have HCD := Lib.hid hxi
      rw [hxi] at HE2 ⊢
      have HN0 := Lib.hid (show 0 < cs.length by omega)
      have HN12 := Lib.hid n2
      have HSN := Lib.hid (show sz ≤ cs.length by omega)
      have HHN := Lib.hid (show hd < cs.length by omega)
      have hcl12 : (cs.length : Int) ≤ 12 := by omega
      clear h0 hn hz hw hk hE hsk n1 n2 k1 k2 s1 s2 hx hxi
      go_enter Try.func26, Try.ntmps26
      go_wp2_with fail
      have HS := Lib.hid (DtAt.start w A cs.length c hd sz 24)
      obtain ⟨p, hp⟩ : ∃ p, p = w.heap.size := ⟨_, rfl⟩
      obtain ⟨r, hr⟩ : ∃ r, r = w.heap.size + 1 := ⟨_, rfl⟩
      rw [← hr, ← hp] at HS ⊢
      clear hp hr
      refine (HG.out _ (HV.out.up HS.out.bel)).mono ?_
      rintro e w1 ⟨rfl, hb⟩
      have HS1 := Lib.hid (HS.out.below hb)
      obtain ⟨r0, r1, r2, r3, r4, r5, hpl⟩ := HS1.out.rb.facts
      clear hb HS
      go_wp2_with fail
      refine (HWI.out _).mono ?_
      rintro e w2 ⟨rfl, rfl⟩
      go_wp2_with fail
      refine (HO.out _ (HV.out.up HS1.out.bel)).mono ?_
      rintro e w2 ⟨v, rfl, hnw, hl, hb⟩
      obtain ⟨A3, c3, rfl, hc3, _⟩ := hl.form
      have HS2 := Lib.hid (HS1.out.below hb)
      rw [HOL.out] at hl hnw hc3 ⊢
      obtain ⟨A5, hA5, hcut⟩ := run_lcut A3 sz c3 .i64 x (by have := HXS.out; omega)
      have hl5 := hl.cut x (by have := HXS.out; omega)
      rw [← hA5] at hl5
      have HL5 := Lib.hid hl5
      have HN5 := Lib.hid (show Nw w1.heap.size A5 by rw [hA5]; exact nw_cut (nwv_of hnw) _ _ _)
      have HP1 := Lib.hid (And.intro HS1.out.rb.lt HS1.out.bel.size)
      have HR1 := Lib.hid HS1.out.rs.lt
      have HPL := Lib.hid (show ((ord cs hd sz).drop x).length = sz - x by rw [List.length_drop, HOL.out])
      clear r0 r1 r2 r3 r4 r5 hpl hb hl hnw hA5 hl5
      generalize (ord cs hd sz).drop x = P at *
      obtain ⟨r0, r1, r2, r3, r4, r5, hpl⟩ := HS2.out.rb.facts
      have hxc : (x : Int) ≤ (sz : Int) := by have := HXS.out; omega
      clear HS1
      go_wp2_with fail
      refine (HCL.out _ (HV.out.up HS2.out.bel)).mono ?_
      rintro e w3 ⟨z, cap, rfl, hcl, hcm, hzl, hrow, hb⟩
      have HCP := Lib.hid (And.intro hcl hcm)
      have HS3 := Lib.hid (HS2.out.below hb)
      have HRZ := Lib.hid (show r < z by have := HS2.out.rs.lt; omega)
      have HU3 := Lib.hid (DuAt.mk (f := fun i => cs.getD i zM) (HS3.out.setA (some ⟨z, 0, none⟩) cs.length cap) (hrow.other (p := ⟨p, 0, none⟩) (show p ≠ z by have := HS2.out.old; have := HRZ.out; omega) (.slice (some ⟨z, 0, none⟩) cs.length cap)) (((HL5.out.below hb).off HN5.out (p := ⟨p, 0, none⟩) HP1.out.1 (.slice (some ⟨z, 0, none⟩) cs.length cap)).more hzl) HRZ.out)
      clear r0 r1 r2 r3 r4 r5 hpl hcl hcm hzl hrow hb
      obtain ⟨r0, r1, r2, r3, r4, r5, hpl⟩ := HS3.out.rb.facts
      go_wp2
      clear r0 r1 r2 r3 r4 r5 hpl
      go_loopw [36] (fun i wr => ∃ (j : Nat) (f : Nat → Msg), j ≤ k ∧ i = .int .i64 j ∧ DuAt w p r z cs.length cap hd sz f A5 (sz - x) (c3 - x) P wr ∧ ∀ m, m < cs.length → f ((hd + m) % cs.length) = if x ≤ m ∧ m < x + j then zM else cel cs hd m) (fun i _ => k - (intOf i).toNat)
      case atStart => exact ⟨0, _, Nat.zero_le _, rfl, HU3.out, fun m hm => by rw [if_neg (by omega)]; rfl⟩
      case round =>
        obtain ⟨j, f, hjk, rfl, hu, hf⟩ := hrel
        have HU := Lib.hid hu
        have HF := Lib.hid hf
        clear hu hf
        by_cases hlt : j < k
        · have hn0 := HN0.out
          have hxj : x + j < cs.length := by have := HXS.out; have := HSN.out; omega
          obtain ⟨m1, hm1⟩ : ∃ m1, m1 = (hd + (x + j)) % cs.length := ⟨_, rfl⟩
          have hl1 : m1 < cs.length := by rw [hm1]; exact Nat.mod_lt _ hn0
          have hi1 : ((hd : Int) + ((x : Int) + (j : Int))) % (cs.length : Int) = (m1 : Int) := by rw [hm1]; simp
          have hl1' : (m1 : Int) < (cs.length : Int) := by omega
          have hj12 : (j : Int) ≤ 12 := by omega
          have hjw : IntKind.i64.wrap ((x : Int) + (j : Int)) = (x : Int) + (j : Int) := IntWalk.i64_in _ (by omega)
          have HQ1 := Lib.hid (fun w => place_any (some ⟨z, 0, none⟩) cs.length cap hd sz ((x : Int) + (j : Int)) (by omega) (by have := HHN.out; omega) (by omega) (by omega) (by omega) (by have := HN12.out; omega) w)
          rw [hi1] at HQ1
          have HFM := Lib.hid (show ∀ m, m < cs.length → (fun i => if i = m1 then zM else f i) ((hd + m) % cs.length) = if x ≤ m ∧ m < x + (j + 1) then zM else cel cs hd m from fun m hm => by
            show (if (hd + m) % cs.length = m1 then zM else f ((hd + m) % cs.length)) = _
            by_cases e : m = x + j
            · subst e
              rw [if_pos hm1.symm, if_pos (by omega)]
            · rw [if_neg (fun h => e (mod_inj hm hxj (h.trans hm1))), HF.out m hm]
              by_cases h2 : x ≤ m ∧ m < x + j
              · rw [if_pos h2, if_pos (by omega)]
              · rw [if_neg h2, if_neg (by omega)])
          have HL1 := Lib.hid hl1
          obtain ⟨r0, r1, r2⟩ := HU.out.s3
          have hpl := HU.out.dt.rb.lt
          have HSA := Lib.hid HU.out.drew.s3
          clear hm1 hi1
          go_wp2
          go_region_held3 (fun W => W.cell? ⟨p, 0, none⟩ = some (.slice (some ⟨z, 0, none⟩) cs.length cap) ∧ W.cell? ⟨p, 1, none⟩ = some (.int .i64 hd) ∧ W.cell? ⟨p, 2, none⟩ = some (.int .i64 sz))
            (first | with_reducible exact HSA.out | with_reducible exact HSC.out | with_reducible exact HSD.out)
            (first
            | (go_at_call 49; (with_reducible refine (HQ1.out _).mono ?_); rintro e w5 ⟨rfl, hb⟩; have HU5 := Lib.hid (HU.out.drew.below hb); have HSC := Lib.hid HU5.out.s3; have HSD := Lib.hid ((HU5.out.put0 HL1.out).s3); obtain ⟨⟨e0, e1, e2, e3, e4, e5, e6⟩, ⟨g0, g1, g2, g3, g4, g5, g6⟩, q0, q1, q2, q3⟩ := HU5.out.at1 HL1.out; clear hb))
          have HU6 := Lib.hid (HU5.out.put0 HL1.out)
          clear e0 e1 e2 e3 e4 e5 e6 g0 g1 g2 g3 g4 g5 g6 HSA HSC HSD
          go_wp2
          go_roundw
          case rel => exact ⟨j + 1, _, by omega, by go_num, HU6.out, HFM.out⟩
          case measure => simp [intOf]; omega
        · obtain rfl : j = k := by omega
          have HFM := Lib.hid (HDC.out f (fun m hm => by
            rw [HF.out m hm]
            have := HXS.out
            by_cases h2 : x ≤ m ∧ m < x + j
            · rw [if_pos h2, if_pos (by omega)]
            · rw [if_neg h2, if_neg (by omega)]))
          obtain ⟨r0, r1, r2, r3, r4, r5, hpl⟩ := HU.out.dt.rb.facts
          obtain ⟨t0, t1, t2, t3, t4, t5, hrl⟩ := HU.out.dt.rs.facts
          have hrp : r ≠ p := by have := HU.out.dt.old; omega
          have hpr : p ≠ r := fun e => hrp e.symm
          have hpz : p ≠ z := by have := HU.out.dt.old; have := HU.out.old; omega
          have hrz : r ≠ z := by have := HU.out.old; omega
          have HB := Lib.hid ((HU.out.dt.setS x).end1 (.slice (some ⟨z, 0, none⟩) cs.length cap) (.int .i64 hd) (.int .i64 x))
          have HLC := Lib.hid (((HU.out.row.other (p := ⟨p, 2, none⟩) hpz (.int .i64 x)).set3 (r := r) hrz (.slice (some ⟨z, 0, none⟩) cs.length cap) (.int .i64 hd) (.int .i64 x)).ls' HFM.out HCP.out.1 HCP.out.2)
          have HLP := Lib.hid ((((HU.out.l5.off HN5.out (p := ⟨p, 2, none⟩) HP1.out.1 (.int .i64 x)).off3 HN5.out HR1.out (.slice (some ⟨z, 0, none⟩) cs.length cap) (.int .i64 hd) (.int .i64 x))).more (show z ≤ ((((wr.setCell ⟨p, 2, none⟩ (.int .i64 x)).setCell ⟨r, 0, none⟩ (.slice (some ⟨z, 0, none⟩) cs.length cap)).setCell ⟨r, 1, none⟩ (.int .i64 hd)).setCell ⟨r, 2, none⟩ (.int .i64 x)).heap.size from by have := HU.out.row.1; simp; omega))
          have HNP := Lib.hid (nw_low HN5.out HP1.out.2)
          have HNZ := Lib.hid (show w.heap.size ≤ z by have := HU.out.dt.old; have := HU.out.old; omega)
          go_wp2
          exact bodyPost_ret (v := .tuple #[.agg #[.slice (some ⟨z, 0, none⟩) cs.length cap, .int .i64 hd, .int .i64 x], .slice A5 (sz - x) (c3 - x), .int .i64 0]) (by simp only [results, Try.results26]; go_simp <;> rfl) rfl ⟨some ⟨z, 0, none⟩, cap, A5, c3 - x, by rw [HC.out, HL.out, HE1.out, HE2.out, HPL.out, HFL.out], nw_some HNZ.out, HNP.out, by rw [HC.out, HFL.out]; exact HLC.out, by rw [HL.out, HPL.out]; exact HLP.out, HB.out⟩
    | false =>
      have hE : dtE cs hd sz k = 1 := by unfold dtE; rw [if_neg (by simpa using h0), if_neg (by simp [hw])]
      have HC := Lib.hid (show dtC cs hd sz k = [] from if_neg (by rw [hE]; decide))
      have HL := Lib.hid (show dtL cs hd sz k = [] from if_neg (by rw [hE]; decide))
      have HE1 := Lib.hid (show ifE 1 hd = 0 from if_neg (by decide))
      have HE2 := Lib.hid (show ifE 1 (sz - k) = 0 from if_neg (by decide))
      rw [h0] at HG
      rw [hw] at HWI
      rw [hE]
      clear h0 hw hE
      generalize dtC cs hd sz k = ds at *
      generalize dtL cs hd sz k = P at *
      go_enter Try.func26, Try.ntmps26
      go_wp2_with fail
      have HS := Lib.hid (DtAt.start w A cs.length c hd sz 24)
      obtain ⟨p, hp⟩ : ∃ p, p = w.heap.size := ⟨_, rfl⟩
      obtain ⟨r, hr⟩ : ∃ r, r = w.heap.size + 1 := ⟨_, rfl⟩
      rw [← hr, ← hp] at HS ⊢
      clear hp hr
      refine (HG.out _ (HV.out.up HS.out.bel)).mono ?_
      rintro e w1 ⟨rfl, hb⟩
      have HS1 := Lib.hid (HS.out.below hb)
      obtain ⟨r0, r1, r2, r3, r4, r5, hpl⟩ := HS1.out.rb.facts
      clear hb HS
      go_wp2_with fail
      refine (HWI.out _).mono ?_
      rintro e w2 ⟨rfl, rfl⟩
      obtain ⟨t0, t1, t2, t3, t4, t5, hrl⟩ := HS1.out.rs.facts
      have HB := Lib.hid (HS1.out.end1 (.slice none 0 0) (.int .i64 0) (.int .i64 0))
      go_wp2
      exact bodyPost_ret (v := .tuple #[.agg #[.slice none 0 0, .int .i64 0, .int .i64 0], .slice none 0 0, .int .i64 1]) (by simp only [results, Try.results26]; go_simp <;> rfl) rfl ⟨none, 0, none, 0, by rw [HC.out, HL.out, HE1.out, HE2.out]; rfl, nw_none, nw_none, by rw [HC.out]; exact Ls.nil, by rw [HL.out]; exact Ls.nil, HB.out⟩
  · have hE : dtE cs hd sz k = rgV cs hd sz := if_pos h0
    have HC := Lib.hid (show dtC cs hd sz k = [] from if_neg (by rw [hE]; exact h0))
    have HL := Lib.hid (show dtL cs hd sz k = [] from if_neg (by rw [hE]; exact h0))
    have HE1 := Lib.hid (show ifE (rgV cs hd sz) hd = 0 from if_neg h0)
    have HE2 := Lib.hid (show ifE (rgV cs hd sz) (sz - k) = 0 from if_neg h0)
    have hne : (rgV cs hd sz != 0) = true := bne_iff_ne.2 h0
    rw [hE]
    clear hE
    generalize rgV cs hd sz = x at *
    generalize dtC cs hd sz k = ds at *
    generalize dtL cs hd sz k = P at *
    clear h0
    go_enter Try.func26, Try.ntmps26
    go_wp2_with fail
    have HS := Lib.hid (DtAt.start w A cs.length c hd sz 24)
    obtain ⟨p, hp⟩ : ∃ p, p = w.heap.size := ⟨_, rfl⟩
    obtain ⟨r, hr⟩ : ∃ r, r = w.heap.size + 1 := ⟨_, rfl⟩
    rw [← hr, ← hp] at HS ⊢
    clear hp hr
    refine (HG.out _ (HV.out.up HS.out.bel)).mono ?_
    rintro e w1 ⟨rfl, hb⟩
    have HS1 := Lib.hid (HS.out.below hb)
    obtain ⟨t0, t1, t2, t3, t4, t5, hrl⟩ := HS1.out.rs.facts
    have HB := Lib.hid (HS1.out.end1 (.slice none 0 0) (.int .i64 0) (.int .i64 0))
    clear hb HS
    go_wp2
    exact bodyPost_ret (v := .tuple #[.agg #[.slice none 0 0, .int .i64 0, .int .i64 0], .slice none 0 0, .int .i64 x]) (by simp only [results, Try.results26]; go_simp <;> rfl) rfl ⟨none, 0, none, 0, by rw [HC.out, HL.out, HE1.out, HE2.out]; rfl, nw_none, nw_none, by rw [HC.out]; exact Ls.nil, by rw [HL.out]; exact Ls.nil, HB.out⟩
end Go.Proofs.Ytiklkagkmcapnaa
namespace Go.Proofs.Ytiklkagkmcapnaa
open Go.RowKit
set_option linter.unusedVariables false

theorem row_self (cs : List Msg) : (List.range cs.length).map (fun i => cs.getD i zM) = cs := by
  apply List.ext_getElem
  · simp
  · intro k h1 h2
    simp [List.getD, h2]
theorem ab_last {cs ds : List Msg} {hd sz z : Int} {l : List Msg} (h : abE cs hd sz l = abE ds hd z [] ∧ abS cs hd sz l = abS ds hd z []) : abE cs hd sz l = 0 ∧ abS cs hd sz l = ds := h
theorem ab_next {cs ds : List Msg} {hd sz z : Int} {l m : List Msg} {M : Msg} (h : abE cs hd sz l = abE ds hd z (M :: m) ∧ abS cs hd sz l = abS ds hd z (M :: m)) (h0 : puE ds hd z M = 0) : abE cs hd sz l = abE (pbC ds hd z M) hd (z + 1) m ∧ abS cs hd sz l = abS (pbC ds hd z M) hd (z + 1) m :=
  ⟨h.1.trans (abE_step h0), h.2⟩
/-- The ring in its block, with its cells. -/
structure AbAt (w : World) (p r : Nat) (A : Option Addr) (n c : Nat) (hd sz : Int) (cs : List Msg) (W : World) : Prop where
  dt : DtAt w p r A n c hd sz W
  ls : Ls W W.heap.size (.slice A n c) cs
  nw : Nw (r + 1) A
  len : cs.length = n
section
variable {w W W' : World} {p r n c : Nat} {A : Option Addr} {hd sz : Int} {cs : List Msg}
theorem AbAt.below (h : AbAt w p r A n c hd sz cs W) (hb : Below W.heap.size W W') : AbAt w p r A n c hd sz cs W' := ⟨h.dt.below hb, h.ls.up hb, h.nw, h.len⟩
theorem AbAt.alloc (h : AbAt w p r A n c hd sz cs W) (o : Obj) : AbAt w p r A n c hd sz cs (W.alloc o) := h.below ((Below.refl _ _).alloc (Nat.le_refl _) o)
/-- A new ring is stored. -/
theorem AbAt.store {W1 : World} {A1 : Option Addr} {n1 c1 : Nat} {x y : Int} {ds : List Msg} (h : AbAt w p r A n c hd sz cs W) (hb : Below W.heap.size W W1) (hnw : Nw W.heap.size A1) (hl : Ls W1 W1.heap.size (.slice A1 n1 c1) ds) : DtAt w p r A1 n1 c1 x y (((W1.setCell ⟨p, 0, none⟩ (.slice A1 n1 c1)).setCell ⟨p, 1, none⟩ (.int .i64 x)).setCell ⟨p, 2, none⟩ (.int .i64 y)) ∧ Ls (((W1.setCell ⟨p, 0, none⟩ (.slice A1 n1 c1)).setCell ⟨p, 1, none⟩ (.int .i64 x)).setCell ⟨p, 2, none⟩ (.int .i64 y)) (((W1.setCell ⟨p, 0, none⟩ (.slice A1 n1 c1)).setCell ⟨p, 1, none⟩ (.int .i64 x)).setCell ⟨p, 2, none⟩ (.int .i64 y)).heap.size (.slice A1 n1 c1) ds ∧ Nw (r + 1) A1 := by
  have h1 := h.dt.below hb
  have hpr : p ≠ r := by have := h.dt.old; omega
  have hp : w.heap.size ≤ p := h.dt.old.1
  exact ⟨⟨h1.rb.all A1 n1 c1 x y, h1.rs.set3' hpr _ _ _, ((h1.bel.setCell (p := ⟨p, 0, none⟩) hp _).setCell (p := ⟨p, 1, none⟩) hp _).setCell (p := ⟨p, 2, none⟩) hp _, h.dt.old⟩, (hl.off3 hnw h.dt.rb.lt _ _ _).more (by simp), nw_low hnw h.dt.rs.lt⟩
end

attribute [local go_sem ↓] Go.wp_at_zero Go.wp_at_succ
set_option maxHeartbeats 8000000 in
set_option maxRecDepth 20000 in
theorem absorb_any (A : Option Addr) (n c : Nat) (cs : List Msg) (hd sz : Int) (A2 : Option Addr) (n2 c2 : Nat) (l : List Msg) (w : World) (hv : Ls w w.heap.size (.slice A n c) cs) (hv2 : Ls w w.heap.size (.slice A2 n2 c2) l) :
    Calls Try.prog 27 #[.agg #[.slice A n c, .int .i64 hd, .int .i64 sz], .slice A2 n2 c2] w (RP w (aoC cs hd sz l) (ifE (aoE cs hd sz l) hd) (ifE (aoE cs hd sz l) (sz + l.length)) (aoE cs hd sz l)) := by
  obtain ⟨rfl, _, _⟩ := hv.len
  obtain ⟨rfl, hm1, hm2⟩ := hv2.len
  have hlm : (l.length : Int) ≤ 9223372036854775807 := by unfold maxLen at hm2; omega
  have HV := Lib.hid hv
  have HV2 := Lib.hid hv2
  have HG := Lib.hid (fun w1 (h : Ls w1 w1.heap.size (.slice A cs.length c) cs) => gvalid_any A cs.length c cs hd sz w1 h)
  clear hv hv2 hm1 hm2
  by_cases h0 : rgV cs hd sz = 0
  · obtain ⟨hn, _, _, _⟩ := rgV_zero h0
    obtain ⟨⟨n1, n2⟩, ⟨k1, k2⟩, ⟨s1, s2⟩⟩ := nm_of hn
    have hn12 : (cs.length : Int) ≤ 12 := by omega
    by_cases hf : (cs.length : Int) - sz < (l.length : Int)
    · have hE : aoE cs hd sz l = 3 := by unfold aoE; rw [if_neg (by simpa using h0), if_pos hf]
      have HC := Lib.hid (show aoC cs hd sz l = [] from if_neg (by rw [hE]; decide))
      have HE1 := Lib.hid (show ifE 3 hd = 0 from if_neg (by decide))
      have HE2 := Lib.hid (show ifE 3 (sz + l.length) = 0 from if_neg (by decide))
      rw [h0] at HG
      rw [hE]
      clear h0 hn hE
      generalize aoC cs hd sz l = ds at *
      go_enter Try.func27, Try.ntmps27
      go_wp2_with fail
      have HS := Lib.hid (DtAt.start w A cs.length c hd sz 24)
      obtain ⟨p, hp⟩ : ∃ p, p = w.heap.size := ⟨_, rfl⟩
      obtain ⟨r, hr⟩ : ∃ r, r = w.heap.size + 1 := ⟨_, rfl⟩
      rw [← hr, ← hp] at HS ⊢
      clear hp hr
      refine (HG.out _ (HV.out.up HS.out.bel)).mono ?_
      rintro e w1 ⟨rfl, hb⟩
      have HS1 := Lib.hid (HS.out.below hb)
      obtain ⟨r0, r1, r2, r3, r4, r5, hpl⟩ := HS1.out.rb.facts
      obtain ⟨t0, t1, t2, t3, t4, t5, hrl⟩ := HS1.out.rs.facts
      have HB := Lib.hid (HS1.out.end1 (.slice none 0 0) (.int .i64 0) (.int .i64 0))
      clear hb HS
      go_wp2
      exact bodyPost_ret (v := .tuple #[.agg #[.slice none 0 0, .int .i64 0, .int .i64 0], .int .i64 3]) (by simp only [results, Try.results27]; go_simp <;> rfl) rfl ⟨none, 0, by rw [HC.out, HE1.out, HE2.out]; rfl, nw_none, by rw [HC.out]; exact Ls.nil, HB.out⟩
    · have hE : aoE cs hd sz l = abE cs hd sz l := by unfold aoE; rw [if_neg (by simpa using h0), if_neg hf]
      have HC0 := Lib.hid (fun (h : abE cs hd sz l = 0) => (show aoC cs hd sz l = abS cs hd sz l from if_pos (by rw [hE]; exact h)))
      have HC1 := Lib.hid (fun (h : abE cs hd sz l ≠ 0) => (show aoC cs hd sz l = [] from if_neg (by rw [hE]; exact h)))
      have HCL := Lib.hid (fun w1 (h : Ls w1 w1.heap.size (.slice A cs.length c) cs) => clone_any A cs.length c cs w1 h (by omega) (by omega))
      have HPB := Lib.hid (fun (A' : Option Addr) (c' : Nat) (ds : List Msg) (z : Int) (X : Msg) w1 (h : Ls w1 w1.heap.size (.slice A' cs.length c') ds) => pback_any A' cs.length c' ds hd z X w1 h)
      rw [h0] at HG
      rw [hE]
      obtain ⟨EE, hEE⟩ : ∃ EE, EE = abE cs hd sz l := ⟨_, rfl⟩
      rw [← hEE]
      have HEE := Lib.hid hEE
      clear h0 hn hE hEE
      go_enter Try.func27, Try.ntmps27
      go_wp2_with fail
      have HS := Lib.hid (DtAt.start w A cs.length c hd sz 24)
      obtain ⟨p, hp⟩ : ∃ p, p = w.heap.size := ⟨_, rfl⟩
      obtain ⟨r, hr⟩ : ∃ r, r = w.heap.size + 1 := ⟨_, rfl⟩
      rw [← hr, ← hp] at HS ⊢
      clear hp hr
      refine (HG.out _ (HV.out.up HS.out.bel)).mono ?_
      rintro e w1 ⟨rfl, hb⟩
      have HS1 := Lib.hid (HS.out.below hb)
      obtain ⟨r0, r1, r2, r3, r4, r5, hpl⟩ := HS1.out.rb.facts
      clear hb HS
      go_wp2_with fail
      refine (HCL.out _ (HV.out.up HS1.out.bel)).mono ?_
      rintro e w3 ⟨z, cap, rfl, hcl, hcm, hzl, hrow, hb⟩
      have HS3 := Lib.hid (HS1.out.below hb)
      have HRZ := Lib.hid (show r < z by have := HS1.out.rs.lt; omega)
      have HA3 := Lib.hid (AbAt.mk (HS3.out.setA (some ⟨z, 0, none⟩) cs.length cap) ((hrow.other (p := ⟨p, 0, none⟩) (show p ≠ z by have := HS1.out.old; have := HRZ.out; omega) (.slice (some ⟨z, 0, none⟩) cs.length cap)).ls' (row_self cs) hcl hcm) (nw_some HRZ.out) rfl)
      clear r0 r1 r2 r3 r4 r5 hpl hcl hcm hzl hrow hb
      obtain ⟨r0, r1, r2, r3, r4, r5, hpl⟩ := HS3.out.rb.facts
      go_wp2
      clear r0 r1 r2 r3 r4 r5 hpl HS3 HS1
      go_loopw [32] (fun i wr => ∃ (j : Nat) (A' : Option Addr) (c' : Nat) (ds : List Msg), j ≤ l.length ∧ i = .int .i64 j ∧ AbAt w p r A' cs.length c' hd (sz + j) ds wr ∧ (abE cs hd sz l = abE ds hd (sz + j) (l.drop j) ∧ abS cs hd sz l = abS ds hd (sz + j) (l.drop j))) (fun i _ => l.length - (intOf i).toNat)
      case atStart => exact ⟨0, _, _, cs, Nat.zero_le _, rfl, by simpa using HA3.out, by simp⟩
      case round =>
        obtain ⟨j, A', c', ds, hjl, rfl, ha, hst⟩ := hrel
        have HA := Lib.hid ha
        have HST := Lib.hid hst
        clear ha hst
        by_cases hlt : j < l.length
        · have HL2 := Lib.hid (HV2.out.up HA.out.dt.bel)
          obtain ⟨b, o, rfl, hbb, hc7⟩ := HL2.out.at_ hlt
          have HNX := Lib.hid (show l.drop j = l[j] :: l.drop (j + 1) from List.drop_eq_getElem_cons hlt)
          generalize l[j] = X at *
          have HST2 := Lib.hid (show abE cs hd sz l = abE ds hd (sz + j) (X :: l.drop (j + 1)) ∧ abS cs hd sz l = abS ds hd (sz + j) (X :: l.drop (j + 1)) by rw [← HNX.out]; exact HST.out)
          clear HST HNX
          obtain ⟨r0, r1, r2, r3, r4, r5, hpl⟩ := HA.out.dt.rb.facts
          obtain ⟨c0, c1, c2, c3, c4, c5, c6⟩ := hc7
          have HM := Lib.hid (MAt.fresh (f := X.nth) wr X.id X.rt X.ep X.ct X.gn X.st X.bd 26 rfl rfl rfl rfl rfl rfl)
          have HA4 := Lib.hid (HA.out.alloc (.cells X.cs 26))
          go_wp2_with fail
          refine (HPB.out A' c' ds (sz + j) X _ HA4.out.ls).mono ?_
          rintro e w5 ⟨A5, c5', rfl, hnw, hl5, hb⟩
          obtain ⟨hq1, hq2, hq3⟩ := HA4.out.store (x := ifE (puE ds hd (sz + j) X) hd) (y := ifE (puE ds hd (sz + j) X) (sz + j + 1)) hb hnw hl5
          have HQ1 := Lib.hid hq1
          have HQ2 := Lib.hid hq2
          have HQ3 := Lib.hid hq3
          have HS5 := Lib.hid (HA4.out.dt.below hb)
          clear hq1 hq2 hq3 hl5 hnw hb r0 r1 r2 r3 r4 r5 hpl c0 c1 c2 c3 c4 c5 c6 hbb
          obtain ⟨r0, r1, r2, r3, r4, r5, hpl⟩ := HS5.out.rb.facts
          by_cases hp0 : puE ds hd (sz + j) X = 0
          · have HLEN := Lib.hid (show (pbC ds hd (sz + j) X).length = cs.length by rw [pbC_len hp0]; exact HA.out.len)
            have HST3 := Lib.hid (ab_next HST2.out hp0)
            rw [hp0, show ifE 0 hd = hd from rfl, show ifE 0 (sz + (j : Int) + 1) = sz + (j : Int) + 1 from rfl] at HQ1 HQ2
            rw [hp0, show ifE 0 hd = hd from rfl, show ifE 0 (sz + (j : Int) + 1) = sz + (j : Int) + 1 from rfl]
            clear hp0
            generalize pbC ds hd (sz + j) X = es at *
            rw [HLEN.out] at HQ1 HQ2 ⊢
            go_wp2
            go_roundw
            case rel => exact ⟨j + 1, A5, c5', es, by omega, by go_num, ⟨by rw [show sz + ((j + 1 : Nat) : Int) = sz + (j : Int) + 1 by omega]; exact HQ1.out, HQ2.out, HQ3.out, HLEN.out⟩, by rw [show sz + ((j + 1 : Nat) : Int) = sz + (j : Int) + 1 by omega]; exact HST3.out⟩
            case measure => simp [intOf]; omega
          · have hE : abE cs hd sz l = puE ds hd (sz + j) X := HST2.out.1.trans (abE_hit hp0)
            have HC := Lib.hid (HC1.out (by rw [hE]; exact hp0))
            have HE1 := Lib.hid (show ifE (puE ds hd (sz + j) X) hd = 0 from if_neg hp0)
            have HE2 := Lib.hid (show ifE (puE ds hd (sz + j) X) (sz + l.length) = 0 from if_neg hp0)
            have HE3 := Lib.hid (show ifE (puE ds hd (sz + j) X) (sz + j + 1) = 0 from if_neg hp0)
            have hne : (puE ds hd (sz + j) X != 0) = true := bne_iff_ne.2 hp0
            have HX := Lib.hid (HEE.out.trans hE)
            clear hE hp0 HST2 HEE
            generalize puE ds hd (sz + j) X = x at *
            generalize pbC ds hd (sz + j) X = es at *
            rw [HE1.out, HE3.out] at HQ1 HQ2 ⊢
            obtain ⟨t0, t1, t2, t3, t4, t5, hrl⟩ := HS5.out.rs.facts
            have hpr : p ≠ r := by have := HS5.out.old; omega
            have hrp : r ≠ p := fun e => hpr e.symm
            have HB := Lib.hid (HQ1.out.end1 (.slice none 0 0) (.int .i64 0) (.int .i64 0))
            go_wp2
            exact bodyPost_ret (v := .tuple #[.agg #[.slice none 0 0, .int .i64 0, .int .i64 0], .int .i64 x]) (by simp only [results, Try.results27]; go_simp <;> rfl) rfl ⟨none, 0, by rw [HX.out, HC.out, HE1.out, HE2.out]; rfl, nw_none, by rw [HC.out]; exact Ls.nil, HB.out⟩
        · obtain rfl : j = l.length := by omega
          have HST2 := Lib.hid (ab_last (cs := cs) (ds := ds) (hd := hd) (sz := sz) (z := sz + l.length) (l := l) (by have := HST.out; rw [List.drop_length] at this; exact this))
          have HC := Lib.hid ((HC0.out HST2.out.1).trans HST2.out.2)
          have HX := Lib.hid (HEE.out.trans HST2.out.1)
          have HE1 := Lib.hid (show ifE 0 hd = hd from if_pos rfl)
          have HE2 := Lib.hid (show ifE 0 (sz + (l.length : Int)) = sz + (l.length : Int) from if_pos rfl)
          obtain ⟨r0, r1, r2, r3, r4, r5, hpl⟩ := HA.out.dt.rb.facts
          obtain ⟨t0, t1, t2, t3, t4, t5, hrl⟩ := HA.out.dt.rs.facts
          have hpr : p ≠ r := by have := HA.out.dt.old; omega
          have hrp : r ≠ p := fun e => hpr e.symm
          have HB := Lib.hid (HA.out.dt.end1 (.slice A' cs.length c') (.int .i64 hd) (.int .i64 (sz + l.length)))
          have HLL := Lib.hid ((HA.out.ls.off3 HA.out.nw (Nat.lt_succ_self r) (.slice A' cs.length c') (.int .i64 hd) (.int .i64 (sz + l.length))).more (show wr.heap.size ≤ (((wr.setCell ⟨r, 0, none⟩ (.slice A' cs.length c')).setCell ⟨r, 1, none⟩ (.int .i64 hd)).setCell ⟨r, 2, none⟩ (.int .i64 (sz + l.length))).heap.size by simp))
          have HNA := Lib.hid (nw_low HA.out.nw (show w.heap.size ≤ r + 1 by have := HA.out.dt.old; omega))
          have HLN := Lib.hid HA.out.len
          go_wp2
          exact bodyPost_ret (v := .tuple #[.agg #[.slice A' cs.length c', .int .i64 hd, .int .i64 (sz + l.length)], .int .i64 0]) (by simp only [results, Try.results27]; go_simp <;> rfl) rfl ⟨A', c', by rw [HX.out, HC.out, HE1.out, HE2.out, HLN.out], HNA.out, by rw [HC.out, HLN.out]; exact HLL.out, HB.out⟩
  · have hE : aoE cs hd sz l = rgV cs hd sz := if_pos h0
    have HC := Lib.hid (show aoC cs hd sz l = [] from if_neg (by rw [hE]; exact h0))
    have HE1 := Lib.hid (show ifE (rgV cs hd sz) hd = 0 from if_neg h0)
    have HE2 := Lib.hid (show ifE (rgV cs hd sz) (sz + l.length) = 0 from if_neg h0)
    have hne : (rgV cs hd sz != 0) = true := bne_iff_ne.2 h0
    rw [hE]
    clear hE
    generalize rgV cs hd sz = x at *
    generalize aoC cs hd sz l = ds at *
    clear h0
    go_enter Try.func27, Try.ntmps27
    go_wp2_with fail
    have HS := Lib.hid (DtAt.start w A cs.length c hd sz 24)
    obtain ⟨p, hp⟩ : ∃ p, p = w.heap.size := ⟨_, rfl⟩
    obtain ⟨r, hr⟩ : ∃ r, r = w.heap.size + 1 := ⟨_, rfl⟩
    rw [← hr, ← hp] at HS ⊢
    clear hp hr
    refine (HG.out _ (HV.out.up HS.out.bel)).mono ?_
    rintro e w1 ⟨rfl, hb⟩
    have HS1 := Lib.hid (HS.out.below hb)
    obtain ⟨t0, t1, t2, t3, t4, t5, hrl⟩ := HS1.out.rs.facts
    have HB := Lib.hid (HS1.out.end1 (.slice none 0 0) (.int .i64 0) (.int .i64 0))
    clear hb HS
    go_wp2
    exact bodyPost_ret (v := .tuple #[.agg #[.slice none 0 0, .int .i64 0, .int .i64 0], .int .i64 x]) (by simp only [results, Try.results27]; go_simp <;> rfl) rfl ⟨none, 0, by rw [HC.out, HE1.out, HE2.out]; rfl, nw_none, by rw [HC.out]; exact Ls.nil, HB.out⟩
end Go.Proofs.Ytiklkagkmcapnaa
