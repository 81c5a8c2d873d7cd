/- What is proved here: ring.Detach by a contract; ring.Absorb by a contract; shardqueueref04.Remove by a contract. -/
import Derived.Test.YtiklkagkmcapnaaJ14
import Derived.Test.YtiklkagkmcapnaaJ11
import Derived.Test.YtiklkagkmcapnaaJ07
import Derived.Test.YtiklkagkmcapnaaJ19
import Derived.Test.YtiklkagkmcapnaaJ22
import Derived.Test.YtiklkagkmcapnaaJ12
import Derived.Test.YtiklkagkmcapnaaJ21
namespace Go.Proofs.Ytiklkagkmcapnaa
open Go.RowKit
set_option linter.unusedVariables false

/-- The work of Detach: the ring, the result. -/
structure DtAt (w : World) (p r : Nat) (A : Option Addr) (n c : Nat) (hd sz : Int) (W : World) : Prop where
  rb : RB W p A n c hd sz
  rs : RB W r none 0 0 0 0
  bel : Below w.heap.size w W
  old : w.heap.size ≤ p ∧ p < r
section
variable {w W W' : World} {p r n c : Nat} {A : Option Addr} {hd sz : Int}
theorem DtAt.below (h : DtAt w p r A n c hd sz W) (hb : Below W.heap.size W W') : DtAt w p r A n c hd sz W' :=
  ⟨h.rb.below hb h.rb.lt, h.rs.below hb h.rs.lt, h.bel.trans (hb.mono h.bel.size), h.old⟩
theorem DtAt.drew (h : DtAt w p r A n c hd sz W) : DtAt w p r A n c hd sz W.drew := ⟨h.rb.drew, h.rs.drew, h.bel.drew, h.old⟩
theorem DtAt.setA (h : DtAt w p r A n c hd sz W) (A' : Option Addr) (n' c' : Nat) : DtAt w p r A' n' c' hd sz (W.setCell ⟨p, 0, none⟩ (.slice A' n' c')) :=
  ⟨h.rb.setA A' n' c', h.rs.other (a := ⟨p, 0, none⟩) (show p ≠ r by have := h.old; omega) _, h.bel.setCell (p := ⟨p, 0, none⟩) h.old.1 _, h.old⟩
theorem DtAt.setS (h : DtAt w p r A n c hd sz W) (x : Int) : DtAt w p r A n c hd x (W.setCell ⟨p, 2, none⟩ (.int .i64 x)) :=
  ⟨h.rb.setS x, h.rs.other (a := ⟨p, 2, none⟩) (show p ≠ r by have := h.old; omega) _, h.bel.setCell (p := ⟨p, 2, none⟩) h.old.1 _, h.old⟩
theorem DtAt.start (w : World) (A : Option Addr) (n c : Nat) (hd sz : Int) (t : TypeId) : DtAt w w.heap.size (w.heap.size + 1) A n c hd sz ((w.alloc (.cells #[.slice A n c, .int .i64 hd, .int .i64 sz] t)).alloc (.cells #[.slice none 0 0, .int .i64 0, .int .i64 0] t)) := by
  have e : (w.alloc (.cells #[.slice A n c, .int .i64 hd, .int .i64 sz] t)).heap.size = w.heap.size + 1 := by simp
  have k := RB.fresh (w.alloc (.cells #[.slice A n c, .int .i64 hd, .int .i64 sz] t)) none 0 0 0 0 t
  rw [e] at k
  exact ⟨(RB.fresh w A n c hd sz t).alloc _, k, ((Below.refl _ _).alloc (Nat.le_refl _) _).alloc (by omega) _, Nat.le_refl _, Nat.lt_succ_self _⟩
theorem DtAt.end1 (h : DtAt w p r A n c hd sz W) (x y z : Value) : Below w.heap.size w (((W.setCell ⟨r, 0, none⟩ x).setCell ⟨r, 1, none⟩ y).setCell ⟨r, 2, none⟩ z) := by
  have hr : w.heap.size ≤ r := by have := h.old; omega
  exact ((h.bel.setCell (p := ⟨r, 0, none⟩) hr _).setCell (p := ⟨r, 1, none⟩) hr _).setCell (p := ⟨r, 2, none⟩) hr _
end
/-- With the new cells and the messages that are taken off. -/
structure DuAt (w : World) (p r z : Nat) (n cap : Nat) (hd sz : Int) (f : Nat → Msg) (A5 : Option Addr) (n5 c5 : Nat) (P : List Msg) (W : World) : Prop where
  dt : DtAt w p r (some ⟨z, 0, none⟩) n cap hd sz W
  row : MRow W z n f
  l5 : Ls W z (.slice A5 n5 c5) P
  old : r < z
section
variable {w W W' : World} {p r z n cap n5 c5 : Nat} {hd sz : Int} {f : Nat → Msg} {A5 : Option Addr} {P : List Msg}
theorem DuAt.below (h : DuAt w p r z n cap hd sz f A5 n5 c5 P W) (hb : Below W.heap.size W W') : DuAt w p r z n cap hd sz f A5 n5 c5 P W' := ⟨h.dt.below hb, h.row.below hb h.row.1, h.l5.below (hb.mono (Nat.le_of_lt h.row.1)), h.old⟩
theorem DuAt.drew (h : DuAt w p r z n cap hd sz f A5 n5 c5 P W) : DuAt w p r z n cap hd sz f A5 n5 c5 P W.drew := ⟨h.dt.drew, h.row, h.l5, h.old⟩
theorem DuAt.put0 (h : DuAt w p r z n cap hd sz f A5 n5 c5 P W) {k : Nat} (hk : k < n) : DuAt w p r z n cap hd sz (fun i => if i = k then zM else f i) A5 n5 c5 P (((((((W.setCell ⟨z, k * 7, none⟩ (.int .i64 0)).setCell ⟨z, k * 7 + 1, none⟩ (.int .i64 0)).setCell ⟨z, k * 7 + 2, none⟩ (.int .i64 0)).setCell ⟨z, k * 7 + 3, none⟩ (.int .i64 0)).setCell ⟨z, k * 7 + 4, none⟩ (.int .i64 0)).setCell ⟨z, k * 7 + 5, none⟩ (.int .i64 0)).setCell ⟨z, k * 7 + 6, none⟩ (.string ⟨#[]⟩)) :=
  ⟨⟨h.dt.rb.sets (b := z) (by have := h.old; have := h.dt.old; omega) (k * 7) zM.l, h.dt.rs.sets (b := z) (by have := h.old; omega) (k * 7) zM.l, sets_below (b := z) (by have := h.old; have := h.dt.old; omega) zM.l (k * 7) W h.dt.bel, h.dt.old⟩, h.row.put7n hk zM, h.l5.sets (Nat.le_refl z) (k * 7) zM.l, h.old⟩
theorem DuAt.s3 (h : DuAt w p r z n cap hd sz f A5 n5 c5 P W) : W.cell? ⟨p, 0, none⟩ = some (.slice (some ⟨z, 0, none⟩) n cap) ∧ W.cell? ⟨p, 1, none⟩ = some (.int .i64 hd) ∧ W.cell? ⟨p, 2, none⟩ = some (.int .i64 sz) := ⟨h.dt.rb.c0, h.dt.rb.c1, h.dt.rb.c2⟩
theorem DuAt.at1 (h : DuAt w p r z n cap hd sz f A5 n5 c5 P W) {k : Nat} (hk : k < n) : C7 W z (k * 7) (f k) ∧ (W.frozen? ⟨z, k * 7, none⟩ = false ∧ W.frozen? ⟨z, k * 7 + 1, none⟩ = false ∧ W.frozen? ⟨z, k * 7 + 2, none⟩ = false ∧ W.frozen? ⟨z, k * 7 + 3, none⟩ = false ∧ W.frozen? ⟨z, k * 7 + 4, none⟩ = false ∧ W.frozen? ⟨z, k * 7 + 5, none⟩ = false ∧ W.frozen? ⟨z, k * 7 + 6, none⟩ = false) ∧ p < W.heap.size ∧ z < W.heap.size ∧ z ≠ p ∧ p ≠ z :=
  ⟨h.row.c7 hk, h.row.free _, h.dt.rb.lt, h.row.1, by have := h.old; have := h.dt.old; omega, by have := h.old; have := h.dt.old; omega⟩
end

attribute [local go_sem ↓] Go.wp_at_zero Go.wp_at_succ
set_option maxHeartbeats 8000000 in
set_option maxRecDepth 20000 in
theorem detach_any (A : Option Addr) (n c : Nat) (cs : List Msg) (hd sz k : Int) (w : World) (hv : Ls w w.heap.size (.slice A n c) cs) :
    Calls Try.prog 26 #[.agg #[.slice A n c, .int .i64 hd, .int .i64 sz], .int .i64 k] w (RLP w (dtC cs hd sz k) (ifE (dtE cs hd sz k) hd) (ifE (dtE cs hd sz k) (sz - k)) (dtL cs hd sz k) (dtE cs hd sz k)) := by
  obtain ⟨rfl, _, _⟩ := hv.len
  have HV := Lib.hid hv
  have HG := Lib.hid (fun w1 (h : Ls w1 w1.heap.size (.slice A cs.length c) cs) => gvalid_any A cs.length c cs hd sz w1 h)
  have HWI := Lib.hid (fun w => gwithin_any k 0 sz w)
  clear hv
  by_cases h0 : rgV cs hd sz = 0
  · cases hw : wi k 0 sz with
    | true =>
      have hE : dtE cs hd sz k = 0 := by unfold dtE; rw [if_neg (by simpa using h0), if_pos hw]
      have hk := wi_of hw
      obtain ⟨hn, hz, _, _⟩ := rgV_zero h0
      obtain ⟨⟨n1, n2⟩, ⟨k1, k2⟩, ⟨s1, s2⟩⟩ := nm_of hn
      obtain ⟨hd, rfl⟩ := Int.eq_ofNat_of_zero_le k1
      obtain ⟨sz, rfl⟩ := Int.eq_ofNat_of_zero_le s1
      obtain ⟨k, rfl⟩ := Int.eq_ofNat_of_zero_le hk.1
      have hks : k ≤ sz := by omega
      simp only [Int.toNat_natCast] at hz
      have hsk : ((sz : Int) - (k : Int)).toNat = sz - k := by omega
      have HC := Lib.hid (show dtC cs hd sz k = fil cs.length hd ((ord cs hd sz).take (sz - k)) by unfold dtC; rw [if_pos hE, hsk]; simp only [Int.toNat_natCast])
      have HL := Lib.hid (show dtL cs hd sz k = (ord cs hd sz).drop (sz - k) by unfold dtL; rw [if_pos hE, hsk]; simp only [Int.toNat_natCast])
      have HE1 := Lib.hid (show ifE 0 (hd : Int) = hd from if_pos rfl)
      have HE2 := Lib.hid (show ifE 0 ((sz : Int) - (k : Int)) = (sz : Int) - (k : Int) from if_pos rfl)
      have HO := Lib.hid (fun w1 (h : Ls w1 w1.heap.size (.slice A cs.length c) cs) => ordered_any A cs.length c cs hd sz w1 h hn)
      have HOL := Lib.hid (ord_len cs hd sz)
      have HDC := Lib.hid (fun (g : Nat → Msg) => detach_cells (cs := cs) (hd := hd) (sz := sz) (x := sz - k) (g := g) (by omega) (by omega) (by omega) hz)
      have HFL := Lib.hid (fil_len cs.length hd ((ord cs hd sz).take (sz - k)))
      have HCL := Lib.hid (fun w1 (h : Ls w1 w1.heap.size (.slice A cs.length c) cs) => clone_any A cs.length c cs w1 h (by omega) (by omega))
      rw [h0] at HG
      rw [hw] at HWI
      rw [hE]
      obtain ⟨x, hx⟩ : ∃ x, x = sz - k := ⟨_, rfl⟩
      rw [← hx] at HC HL HDC HFL
      have hxi : (sz : Int) - (k : Int) = (x : Int) := by omega
      have hxw : IntKind.i64.wrap ((sz : Int) - (k : Int)) = (x : Int) := by rw [hxi]; exact IntWalk.i64_in _ (by omega)
      have hx12 : (x : Int) ≤ 12 := by omega
      have hk12 : (k : Int) ≤ 12 := by omega
      have HXS := Lib.hid (show x + k = sz by omega)
      have hs12 : (sz : Int) ≤ 12 := by omega
      have HCD := Lib.hid hxi
      rw [hxi] at HE2 ⊢
      have HN0 := Lib.hid (show 0 < cs.length by omega)
      have HN12 := Lib.hid n2
      have HSN := Lib.hid (show sz ≤ cs.length by omega)
      have HHN := Lib.hid (show hd < cs.length by omega)
      have hcl12 : (cs.length : Int) ≤ 12 := by omega
      clear h0 hn hz hw hk hE hsk n1 n2 k1 k2 s1 s2 hx hxi
      go_enter Try.func26, Try.ntmps26
      go_wp2_with fail
      have HS := Lib.hid (DtAt.start w A cs.length c hd sz 24)
      obtain ⟨p, hp⟩ : ∃ p, p = w.heap.size := ⟨_, rfl⟩
      obtain ⟨r, hr⟩ : ∃ r, r = w.heap.size + 1 := ⟨_, rfl⟩
      rw [← hr, ← hp] at HS ⊢
      clear hp hr
      refine (HG.out _ (HV.out.up HS.out.bel)).mono ?_
      rintro e w1 ⟨rfl, hb⟩
      have HS1 := Lib.hid (HS.out.below hb)
      obtain ⟨r0, r1, r2, r3, r4, r5, hpl⟩ := HS1.out.rb.facts
      clear hb HS
      go_wp2_with fail
      refine (HWI.out _).mono ?_
      rintro e w2 ⟨rfl, rfl⟩
      go_wp2_with fail
      refine (HO.out _ (HV.out.up HS1.out.bel)).mono ?_
      rintro e w2 ⟨v, rfl, hnw, hl, hb⟩
      obtain ⟨A3, c3, rfl, hc3, _⟩ := hl.form
      have HS2 := Lib.hid (HS1.out.below hb)
      rw [HOL.out] at hl hnw hc3 ⊢
      obtain ⟨A5, hA5, hcut⟩ := run_lcut A3 sz c3 .i64 x (by have := HXS.out; omega)
      have hl5 := hl.cut x (by have := HXS.out; omega)
      rw [← hA5] at hl5
      have HL5 := Lib.hid hl5
      have HN5 := Lib.hid (show Nw w1.heap.size A5 by rw [hA5]; exact nw_cut (nwv_of hnw) _ _ _)
      have HP1 := Lib.hid (And.intro HS1.out.rb.lt HS1.out.bel.size)
      have HR1 := Lib.hid HS1.out.rs.lt
      have HPL := Lib.hid (show ((ord cs hd sz).drop x).length = sz - x by rw [List.length_drop, HOL.out])
      clear r0 r1 r2 r3 r4 r5 hpl hb hl hnw hA5 hl5
      generalize (ord cs hd sz).drop x = P at *
      obtain ⟨r0, r1, r2, r3, r4, r5, hpl⟩ := HS2.out.rb.facts
      have hxc : (x : Int) ≤ (sz : Int) := by have := HXS.out; omega
      clear HS1
      go_wp2_with fail
      refine (HCL.out _ (HV.out.up HS2.out.bel)).mono ?_
      rintro e w3 ⟨z, cap, rfl, hcl, hcm, hzl, hrow, hb⟩
      have HCP := Lib.hid (And.intro hcl hcm)
      have HS3 := Lib.hid (HS2.out.below hb)
      have HRZ := Lib.hid (show r < z by have := HS2.out.rs.lt; omega)
      have HU3 := Lib.hid (DuAt.mk (f := fun i => cs.getD i zM) (HS3.out.setA (some ⟨z, 0, none⟩) cs.length cap) (hrow.other (p := ⟨p, 0, none⟩) (show p ≠ z by have := HS2.out.old; have := HRZ.out; omega) (.slice (some ⟨z, 0, none⟩) cs.length cap)) (((HL5.out.below hb).off HN5.out (p := ⟨p, 0, none⟩) HP1.out.1 (.slice (some ⟨z, 0, none⟩) cs.length cap)).more hzl) HRZ.out)
      clear r0 r1 r2 r3 r4 r5 hpl hcl hcm hzl hrow hb
      obtain ⟨r0, r1, r2, r3, r4, r5, hpl⟩ := HS3.out.rb.facts
      go_wp2
      clear r0 r1 r2 r3 r4 r5 hpl
      go_loopw [36] (fun i wr => ∃ (j : Nat) (f : Nat → Msg), j ≤ k ∧ i = .int .i64 j ∧ DuAt w p r z cs.length cap hd sz f A5 (sz - x) (c3 - x) P wr ∧ ∀ m, m < cs.length → f ((hd + m) % cs.length) = if x ≤ m ∧ m < x + j then zM else cel cs hd m) (fun i _ => k - (intOf i).toNat)
      case atStart => exact ⟨0, _, Nat.zero_le _, rfl, HU3.out, fun m hm => by rw [if_neg (by omega)]; rfl⟩
      case round =>
        obtain ⟨j, f, hjk, rfl, hu, hf⟩ := hrel
        have HU := Lib.hid hu
        have HF := Lib.hid hf
        clear hu hf
        by_cases hlt : j < k
        · have hn0 := HN0.out
          have hxj : x + j < cs.length := by have := HXS.out; have := HSN.out; omega
          obtain ⟨m1, hm1⟩ : ∃ m1, m1 = (hd + (x + j)) % cs.length := ⟨_, rfl⟩
          have hl1 : m1 < cs.length := by rw [hm1]; exact Nat.mod_lt _ hn0
          have hi1 : ((hd : Int) + ((x : Int) + (j : Int))) % (cs.length : Int) = (m1 : Int) := by rw [hm1]; simp
          have hl1' : (m1 : Int) < (cs.length : Int) := by omega
          have hj12 : (j : Int) ≤ 12 := by omega
          have hjw : IntKind.i64.wrap ((x : Int) + (j : Int)) = (x : Int) + (j : Int) := IntWalk.i64_in _ (by omega)
          have HQ1 := Lib.hid (fun w => place_any (some ⟨z, 0, none⟩) cs.length cap hd sz ((x : Int) + (j : Int)) (by omega) (by have := HHN.out; omega) (by omega) (by omega) (by omega) (by have := HN12.out; omega) w)
          rw [hi1] at HQ1
          have HFM := Lib.hid (show ∀ m, m < cs.length → (fun i => if i = m1 then zM else f i) ((hd + m) % cs.length) = if x ≤ m ∧ m < x + (j + 1) then zM else cel cs hd m from fun m hm => by
            show (if (hd + m) % cs.length = m1 then zM else f ((hd + m) % cs.length)) = _
            by_cases e : m = x + j
            · subst e
              rw [if_pos hm1.symm, if_pos (by omega)]
            · rw [if_neg (fun h => e (mod_inj hm hxj (h.trans hm1))), HF.out m hm]
              by_cases h2 : x ≤ m ∧ m < x + j
              · rw [if_pos h2, if_pos (by omega)]
              · rw [if_neg h2, if_neg (by omega)])
          have HL1 := Lib.hid hl1
          obtain ⟨r0, r1, r2⟩ := HU.out.s3
          have hpl := HU.out.dt.rb.lt
          have HSA := Lib.hid HU.out.drew.s3
          clear hm1 hi1
          go_wp2
          go_region_held3 (fun W => W.cell? ⟨p, 0, none⟩ = some (.slice (some ⟨z, 0, none⟩) cs.length cap) ∧ W.cell? ⟨p, 1, none⟩ = some (.int .i64 hd) ∧ W.cell? ⟨p, 2, none⟩ = some (.int .i64 sz))
            (first | with_reducible exact HSA.out | with_reducible exact HSC.out | with_reducible exact HSD.out)
            (first
            | (go_at_call 49; (with_reducible refine (HQ1.out _).mono ?_); rintro e w5 ⟨rfl, hb⟩; have HU5 := Lib.hid (HU.out.drew.below hb); have HSC := Lib.hid HU5.out.s3; have HSD := Lib.hid ((HU5.out.put0 HL1.out).s3); obtain ⟨⟨e0, e1, e2, e3, e4, e5, e6⟩, ⟨g0, g1, g2, g3, g4, g5, g6⟩, q0, q1, q2, q3⟩ := HU5.out.at1 HL1.out; clear hb))
          have HU6 := Lib.hid (HU5.out.put0 HL1.out)
          clear e0 e1 e2 e3 e4 e5 e6 g0 g1 g2 g3 g4 g5 g6 HSA HSC HSD
          go_wp2
          go_roundw
          case rel => exact ⟨j + 1, _, by omega, by go_num, HU6.out, HFM.out⟩
          case measure => simp [intOf]; omega
        · obtain rfl : j = k := by omega
          have HFM := Lib.hid (HDC.out f (fun m hm => by
            rw [HF.out m hm]
            have := HXS.out
            by_cases h2 : x ≤ m ∧ m < x + j
            · rw [if_pos h2, if_pos (by omega)]
            · rw [if_neg h2, if_neg (by omega)]))
          obtain ⟨r0, r1, r2, r3, r4, r5, hpl⟩ := HU.out.dt.rb.facts
          obtain ⟨t0, t1, t2, t3, t4, t5, hrl⟩ := HU.out.dt.rs.facts
          have hrp : r ≠ p := by have := HU.out.dt.old; omega
          have hpr : p ≠ r := fun e => hrp e.symm
          have hpz : p ≠ z := by have := HU.out.dt.old; have := HU.out.old; omega
          have hrz : r ≠ z := by have := HU.out.old; omega
          have HB := Lib.hid ((HU.out.dt.setS x).end1 (.slice (some ⟨z, 0, none⟩) cs.length cap) (.int .i64 hd) (.int .i64 x))
          have HLC := Lib.hid (((HU.out.row.other (p := ⟨p, 2, none⟩) hpz (.int .i64 x)).set3 (r := r) hrz (.slice (some ⟨z, 0, none⟩) cs.length cap) (.int .i64 hd) (.int .i64 x)).ls' HFM.out HCP.out.1 HCP.out.2)
          have HLP := Lib.hid ((((HU.out.l5.off HN5.out (p := ⟨p, 2, none⟩) HP1.out.1 (.int .i64 x)).off3 HN5.out HR1.out (.slice (some ⟨z, 0, none⟩) cs.length cap) (.int .i64 hd) (.int .i64 x))).more (show z ≤ ((((wr.setCell ⟨p, 2, none⟩ (.int .i64 x)).setCell ⟨r, 0, none⟩ (.slice (some ⟨z, 0, none⟩) cs.length cap)).setCell ⟨r, 1, none⟩ (.int .i64 hd)).setCell ⟨r, 2, none⟩ (.int .i64 x)).heap.size from by have := HU.out.row.1; simp; omega))
          have HNP := Lib.hid (nw_low HN5.out HP1.out.2)
          have HNZ := Lib.hid (show w.heap.size ≤ z by have := HU.out.dt.old; have := HU.out.old; omega)
          go_wp2
          exact bodyPost_ret (v := .tuple #[.agg #[.slice (some ⟨z, 0, none⟩) cs.length cap, .int .i64 hd, .int .i64 x], .slice A5 (sz - x) (c3 - x), .int .i64 0]) (by simp only [results, Try.results26]; go_simp <;> rfl) rfl ⟨some ⟨z, 0, none⟩, cap, A5, c3 - x, by rw [HC.out, HL.out, HE1.out, HE2.out, HPL.out, HFL.out], nw_some HNZ.out, HNP.out, by rw [HC.out, HFL.out]; exact HLC.out, by rw [HL.out, HPL.out]; exact HLP.out, HB.out⟩
    | false =>
      have hE : dtE cs hd sz k = 1 := by unfold dtE; rw [if_neg (by simpa using h0), if_neg (by simp [hw])]
      have HC := Lib.hid (show dtC cs hd sz k = [] from if_neg (by rw [hE]; decide))
      have HL := Lib.hid (show dtL cs hd sz k = [] from if_neg (by rw [hE]; decide))
      have HE1 := Lib.hid (show ifE 1 hd = 0 from if_neg (by decide))
      have HE2 := Lib.hid (show ifE 1 (sz - k) = 0 from if_neg (by decide))
      rw [h0] at HG
      rw [hw] at HWI
      rw [hE]
      clear h0 hw hE
      generalize dtC cs hd sz k = ds at *
      generalize dtL cs hd sz k = P at *
      go_enter Try.func26, Try.ntmps26
      go_wp2_with fail
      have HS := Lib.hid (DtAt.start w A cs.length c hd sz 24)
      obtain ⟨p, hp⟩ : ∃ p, p = w.heap.size := ⟨_, rfl⟩
      obtain ⟨r, hr⟩ : ∃ r, r = w.heap.size + 1 := ⟨_, rfl⟩
      rw [← hr, ← hp] at HS ⊢
      clear hp hr
      refine (HG.out _ (HV.out.up HS.out.bel)).mono ?_
      rintro e w1 ⟨rfl, hb⟩
      have HS1 := Lib.hid (HS.out.below hb)
      obtain ⟨r0, r1, r2, r3, r4, r5, hpl⟩ := HS1.out.rb.facts
      clear hb HS
      go_wp2_with fail
      refine (HWI.out _).mono ?_
      rintro e w2 ⟨rfl, rfl⟩
      obtain ⟨t0, t1, t2, t3, t4, t5, hrl⟩ := HS1.out.rs.facts
      have HB := Lib.hid (HS1.out.end1 (.slice none 0 0) (.int .i64 0) (.int .i64 0))
      go_wp2
      exact bodyPost_ret (v := .tuple #[.agg #[.slice none 0 0, .int .i64 0, .int .i64 0], .slice none 0 0, .int .i64 1]) (by simp only [results, Try.results26]; go_simp <;> rfl) rfl ⟨none, 0, none, 0, by rw [HC.out, HL.out, HE1.out, HE2.out]; rfl, nw_none, nw_none, by rw [HC.out]; exact Ls.nil, by rw [HL.out]; exact Ls.nil, HB.out⟩
  · have hE : dtE cs hd sz k = rgV cs hd sz := if_pos h0
    have HC := Lib.hid (show dtC cs hd sz k = [] from if_neg (by rw [hE]; exact h0))
    have HL := Lib.hid (show dtL cs hd sz k = [] from if_neg (by rw [hE]; exact h0))
    have HE1 := Lib.hid (show ifE (rgV cs hd sz) hd = 0 from if_neg h0)
    have HE2 := Lib.hid (show ifE (rgV cs hd sz) (sz - k) = 0 from if_neg h0)
    have hne : (rgV cs hd sz != 0) = true := bne_iff_ne.2 h0
    rw [hE]
    clear hE
    generalize rgV cs hd sz = x at *
    generalize dtC cs hd sz k = ds at *
    generalize dtL cs hd sz k = P at *
    clear h0
    go_enter Try.func26, Try.ntmps26
    go_wp2_with fail
    have HS := Lib.hid (DtAt.start w A cs.length c hd sz 24)
    obtain ⟨p, hp⟩ : ∃ p, p = w.heap.size := ⟨_, rfl⟩
    obtain ⟨r, hr⟩ : ∃ r, r = w.heap.size + 1 := ⟨_, rfl⟩
    rw [← hr, ← hp] at HS ⊢
    clear hp hr
    refine (HG.out _ (HV.out.up HS.out.bel)).mono ?_
    rintro e w1 ⟨rfl, hb⟩
    have HS1 := Lib.hid (HS.out.below hb)
    obtain ⟨t0, t1, t2, t3, t4, t5, hrl⟩ := HS1.out.rs.facts
    have HB := Lib.hid (HS1.out.end1 (.slice none 0 0) (.int .i64 0) (.int .i64 0))
    clear hb HS
    go_wp2
    exact bodyPost_ret (v := .tuple #[.agg #[.slice none 0 0, .int .i64 0, .int .i64 0], .slice none 0 0, .int .i64 x]) (by simp only [results, Try.results26]; go_simp <;> rfl) rfl ⟨none, 0, none, 0, by rw [HC.out, HL.out, HE1.out, HE2.out]; rfl, nw_none, nw_none, by rw [HC.out]; exact Ls.nil, by rw [HL.out]; exact Ls.nil, HB.out⟩
end Go.Proofs.Ytiklkagkmcapnaa
namespace Go.Proofs.Ytiklkagkmcapnaa
open Go.RowKit
set_option linter.unusedVariables false

theorem row_self (cs : List Msg) : (List.range cs.length).map (fun i => cs.getD i zM) = cs := by
  apply List.ext_getElem
  · simp
  · intro k h1 h2
    simp [List.getD, h2]
theorem ab_last {cs ds : List Msg} {hd sz z : Int} {l : List Msg} (h : abE cs hd sz l = abE ds hd z [] ∧ abS cs hd sz l = abS ds hd z []) : abE cs hd sz l = 0 ∧ abS cs hd sz l = ds := h
theorem ab_next {cs ds : List Msg} {hd sz z : Int} {l m : List Msg} {M : Msg} (h : abE cs hd sz l = abE ds hd z (M :: m) ∧ abS cs hd sz l = abS ds hd z (M :: m)) (h0 : puE ds hd z M = 0) : abE cs hd sz l = abE (pbC ds hd z M) hd (z + 1) m ∧ abS cs hd sz l = abS (pbC ds hd z M) hd (z + 1) m :=
  ⟨h.1.trans (abE_step h0), h.2⟩
/-- The ring in its block, with its cells. -/
structure AbAt (w : World) (p r : Nat) (A : Option Addr) (n c : Nat) (hd sz : Int) (cs : List Msg) (W : World) : Prop where
  dt : DtAt w p r A n c hd sz W
  ls : Ls W W.heap.size (.slice A n c) cs
  nw : Nw (r + 1) A
  len : cs.length = n
section
variable {w W W' : World} {p r n c : Nat} {A : Option Addr} {hd sz : Int} {cs : List Msg}
theorem AbAt.below (h : AbAt w p r A n c hd sz cs W) (hb : Below W.heap.size W W') : AbAt w p r A n c hd sz cs W' := ⟨h.dt.below hb, h.ls.up hb, h.nw, h.len⟩
theorem AbAt.alloc (h : AbAt w p r A n c hd sz cs W) (o : Obj) : AbAt w p r A n c hd sz cs (W.alloc o) := h.below ((Below.refl _ _).alloc (Nat.le_refl _) o)
/-- A new ring is stored. -/
theorem AbAt.store {W1 : World} {A1 : Option Addr} {n1 c1 : Nat} {x y : Int} {ds : List Msg} (h : AbAt w p r A n c hd sz cs W) (hb : Below W.heap.size W W1) (hnw : Nw W.heap.size A1) (hl : Ls W1 W1.heap.size (.slice A1 n1 c1) ds) : DtAt w p r A1 n1 c1 x y (((W1.setCell ⟨p, 0, none⟩ (.slice A1 n1 c1)).setCell ⟨p, 1, none⟩ (.int .i64 x)).setCell ⟨p, 2, none⟩ (.int .i64 y)) ∧ Ls (((W1.setCell ⟨p, 0, none⟩ (.slice A1 n1 c1)).setCell ⟨p, 1, none⟩ (.int .i64 x)).setCell ⟨p, 2, none⟩ (.int .i64 y)) (((W1.setCell ⟨p, 0, none⟩ (.slice A1 n1 c1)).setCell ⟨p, 1, none⟩ (.int .i64 x)).setCell ⟨p, 2, none⟩ (.int .i64 y)).heap.size (.slice A1 n1 c1) ds ∧ Nw (r + 1) A1 := by
  have h1 := h.dt.below hb
  have hpr : p ≠ r := by have := h.dt.old; omega
  have hp : w.heap.size ≤ p := h.dt.old.1
  exact ⟨⟨h1.rb.all A1 n1 c1 x y, h1.rs.set3' hpr _ _ _, ((h1.bel.setCell (p := ⟨p, 0, none⟩) hp _).setCell (p := ⟨p, 1, none⟩) hp _).setCell (p := ⟨p, 2, none⟩) hp _, h.dt.old⟩, (hl.off3 hnw h.dt.rb.lt _ _ _).more (by simp), nw_low hnw h.dt.rs.lt⟩
end

attribute [local go_sem ↓] Go.wp_at_zero Go.wp_at_succ
set_option maxHeartbeats 8000000 in
set_option maxRecDepth 20000 in
theorem absorb_any (A : Option Addr) (n c : Nat) (cs : List Msg) (hd sz : Int) (A2 : Option Addr) (n2 c2 : Nat) (l : List Msg) (w : World) (hv : Ls w w.heap.size (.slice A n c) cs) (hv2 : Ls w w.heap.size (.slice A2 n2 c2) l) :
    Calls Try.prog 27 #[.agg #[.slice A n c, .int .i64 hd, .int .i64 sz], .slice A2 n2 c2] w (RP w (aoC cs hd sz l) (ifE (aoE cs hd sz l) hd) (ifE (aoE cs hd sz l) (sz + l.length)) (aoE cs hd sz l)) := by
  obtain ⟨rfl, _, _⟩ := hv.len
  obtain ⟨rfl, hm1, hm2⟩ := hv2.len
  have hlm : (l.length : Int) ≤ 9223372036854775807 := by unfold maxLen at hm2; omega
  have HV := Lib.hid hv
  have HV2 := Lib.hid hv2
  have HG := Lib.hid (fun w1 (h : Ls w1 w1.heap.size (.slice A cs.length c) cs) => gvalid_any A cs.length c cs hd sz w1 h)
  clear hv hv2 hm1 hm2
  by_cases h0 : rgV cs hd sz = 0
  · obtain ⟨hn, _, _, _⟩ := rgV_zero h0
    obtain ⟨⟨n1, n2⟩, ⟨k1, k2⟩, ⟨s1, s2⟩⟩ := nm_of hn
    have hn12 : (cs.length : Int) ≤ 12 := by omega
    by_cases hf : (cs.length : Int) - sz < (l.length : Int)
    · have hE : aoE cs hd sz l = 3 := by unfold aoE; rw [if_neg (by simpa using h0), if_pos hf]
      have HC := Lib.hid (show aoC cs hd sz l = [] from if_neg (by rw [hE]; decide))
      have HE1 := Lib.hid (show ifE 3 hd = 0 from if_neg (by decide))
      have HE2 := Lib.hid (show ifE 3 (sz + l.length) = 0 from if_neg (by decide))
      rw [h0] at HG
      rw [hE]
      clear h0 hn hE
      generalize aoC cs hd sz l = ds at *
      go_enter Try.func27, Try.ntmps27
      go_wp2_with fail
      have HS := Lib.hid (DtAt.start w A cs.length c hd sz 24)
      obtain ⟨p, hp⟩ : ∃ p, p = w.heap.size := ⟨_, rfl⟩
      obtain ⟨r, hr⟩ : ∃ r, r = w.heap.size + 1 := ⟨_, rfl⟩
      rw [← hr, ← hp] at HS ⊢
      clear hp hr
      refine (HG.out _ (HV.out.up HS.out.bel)).mono ?_
      rintro e w1 ⟨rfl, hb⟩
      have HS1 := Lib.hid (HS.out.below hb)
      obtain ⟨r0, r1, r2, r3, r4, r5, hpl⟩ := HS1.out.rb.facts
      obtain ⟨t0, t1, t2, t3, t4, t5, hrl⟩ := HS1.out.rs.facts
      have HB := Lib.hid (HS1.out.end1 (.slice none 0 0) (.int .i64 0) (.int .i64 0))
      clear hb HS
      go_wp2
      exact bodyPost_ret (v := .tuple #[.agg #[.slice none 0 0, .int .i64 0, .int .i64 0], .int .i64 3]) (by simp only [results, Try.results27]; go_simp <;> rfl) rfl ⟨none, 0, by rw [HC.out, HE1.out, HE2.out]; rfl, nw_none, by rw [HC.out]; exact Ls.nil, HB.out⟩
    · have hE : aoE cs hd sz l = abE cs hd sz l := by unfold aoE; rw [if_neg (by simpa using h0), if_neg hf]
      have HC0 := Lib.hid (fun (h : abE cs hd sz l = 0) => (show aoC cs hd sz l = abS cs hd sz l from if_pos (by rw [hE]; exact h)))
      have HC1 := Lib.hid (fun (h : abE cs hd sz l ≠ 0) => (show aoC cs hd sz l = [] from if_neg (by rw [hE]; exact h)))
      have HCL := Lib.hid (fun w1 (h : Ls w1 w1.heap.size (.slice A cs.length c) cs) => clone_any A cs.length c cs w1 h (by omega) (by omega))
      have HPB := Lib.hid (fun (A' : Option Addr) (c' : Nat) (ds : List Msg) (z : Int) (X : Msg) w1 (h : Ls w1 w1.heap.size (.slice A' cs.length c') ds) => pback_any A' cs.length c' ds hd z X w1 h)
      rw [h0] at HG
      rw [hE]
      obtain ⟨EE, hEE⟩ : ∃ EE, EE = abE cs hd sz l := ⟨_, rfl⟩
      rw [← hEE]
      have HEE := Lib.hid hEE
      clear h0 hn hE hEE
      go_enter Try.func27, Try.ntmps27
      go_wp2_with fail
      have HS := Lib.hid (DtAt.start w A cs.length c hd sz 24)
      obtain ⟨p, hp⟩ : ∃ p, p = w.heap.size := ⟨_, rfl⟩
      obtain ⟨r, hr⟩ : ∃ r, r = w.heap.size + 1 := ⟨_, rfl⟩
      rw [← hr, ← hp] at HS ⊢
      clear hp hr
      refine (HG.out _ (HV.out.up HS.out.bel)).mono ?_
      rintro e w1 ⟨rfl, hb⟩
      have HS1 := Lib.hid (HS.out.below hb)
      obtain ⟨r0, r1, r2, r3, r4, r5, hpl⟩ := HS1.out.rb.facts
      clear hb HS
      go_wp2_with fail
      refine (HCL.out _ (HV.out.up HS1.out.bel)).mono ?_
      rintro e w3 ⟨z, cap, rfl, hcl, hcm, hzl, hrow, hb⟩
      have HS3 := Lib.hid (HS1.out.below hb)
      have HRZ := Lib.hid (show r < z by have := HS1.out.rs.lt; omega)
      have HA3 := Lib.hid (AbAt.mk (HS3.out.setA (some ⟨z, 0, none⟩) cs.length cap) ((hrow.other (p := ⟨p, 0, none⟩) (show p ≠ z by have := HS1.out.old; have := HRZ.out; omega) (.slice (some ⟨z, 0, none⟩) cs.length cap)).ls' (row_self cs) hcl hcm) (nw_some HRZ.out) rfl)
      clear r0 r1 r2 r3 r4 r5 hpl hcl hcm hzl hrow hb
      obtain ⟨r0, r1, r2, r3, r4, r5, hpl⟩ := HS3.out.rb.facts
      go_wp2
      clear r0 r1 r2 r3 r4 r5 hpl HS3 HS1
      go_loopw [32] (fun i wr => ∃ (j : Nat) (A' : Option Addr) (c' : Nat) (ds : List Msg), j ≤ l.length ∧ i = .int .i64 j ∧ AbAt w p r A' cs.length c' hd (sz + j) ds wr ∧ (abE cs hd sz l = abE ds hd (sz + j) (l.drop j) ∧ abS cs hd sz l = abS ds hd (sz + j) (l.drop j))) (fun i _ => l.length - (intOf i).toNat)
      case atStart => exact ⟨0, _, _, cs, Nat.zero_le _, rfl, by simpa using HA3.out, by simp⟩
      case round =>
        obtain ⟨j, A', c', ds, hjl, rfl, ha, hst⟩ := hrel
        have HA := Lib.hid ha
        have HST := Lib.hid hst
        clear ha hst
        by_cases hlt : j < l.length
        · have HL2 := Lib.hid (HV2.out.up HA.out.dt.bel)
          obtain ⟨b, o, rfl, hbb, hc7⟩ := HL2.out.at_ hlt
          have HNX := Lib.hid (show l.drop j = l[j] :: l.drop (j + 1) from List.drop_eq_getElem_cons hlt)
          generalize l[j] = X at *
          have HST2 := Lib.hid (show abE cs hd sz l = abE ds hd (sz + j) (X :: l.drop (j + 1)) ∧ abS cs hd sz l = abS ds hd (sz + j) (X :: l.drop (j + 1)) by rw [← HNX.out]; exact HST.out)
          clear HST HNX
          obtain ⟨r0, r1, r2, r3, r4, r5, hpl⟩ := HA.out.dt.rb.facts
          obtain ⟨c0, c1, c2, c3, c4, c5, c6⟩ := hc7
          have HM := Lib.hid (MAt.fresh (f := X.nth) wr X.id X.rt X.ep X.ct X.gn X.st X.bd 26 rfl rfl rfl rfl rfl rfl)
          have HA4 := Lib.hid (HA.out.alloc (.cells X.cs 26))
          go_wp2_with fail
          refine (HPB.out A' c' ds (sz + j) X _ HA4.out.ls).mono ?_
          rintro e w5 ⟨A5, c5', rfl, hnw, hl5, hb⟩
          obtain ⟨hq1, hq2, hq3⟩ := HA4.out.store (x := ifE (puE ds hd (sz + j) X) hd) (y := ifE (puE ds hd (sz + j) X) (sz + j + 1)) hb hnw hl5
          have HQ1 := Lib.hid hq1
          have HQ2 := Lib.hid hq2
          have HQ3 := Lib.hid hq3
          have HS5 := Lib.hid (HA4.out.dt.below hb)
          clear hq1 hq2 hq3 hl5 hnw hb r0 r1 r2 r3 r4 r5 hpl c0 c1 c2 c3 c4 c5 c6 hbb
          obtain ⟨r0, r1, r2, r3, r4, r5, hpl⟩ := HS5.out.rb.facts
          by_cases hp0 : puE ds hd (sz + j) X = 0
          · have HLEN := Lib.hid (show (pbC ds hd (sz + j) X).length = cs.length by rw [pbC_len hp0]; exact HA.out.len)
            have HST3 := Lib.hid (ab_next HST2.out hp0)
            rw [hp0, show ifE 0 hd = hd from rfl, show ifE 0 (sz + (j : Int) + 1) = sz + (j : Int) + 1 from rfl] at HQ1 HQ2
            rw [hp0, show ifE 0 hd = hd from rfl, show ifE 0 (sz + (j : Int) + 1) = sz + (j : Int) + 1 from rfl]
            clear hp0
            generalize pbC ds hd (sz + j) X = es at *
            rw [HLEN.out] at HQ1 HQ2 ⊢
            go_wp2
            go_roundw
            case rel => exact ⟨j + 1, A5, c5', es, by omega, by go_num, ⟨by rw [show sz + ((j + 1 : Nat) : Int) = sz + (j : Int) + 1 by omega]; exact HQ1.out, HQ2.out, HQ3.out, HLEN.out⟩, by rw [show sz + ((j + 1 : Nat) : Int) = sz + (j : Int) + 1 by omega]; exact HST3.out⟩
            case measure => simp [intOf]; omega
          · have hE : abE cs hd sz l = puE ds hd (sz + j) X := HST2.out.1.trans (abE_hit hp0)
            have HC := Lib.hid (HC1.out (by rw [hE]; exact hp0))
            have HE1 := Lib.hid (show ifE (puE ds hd (sz + j) X) hd = 0 from if_neg hp0)
            have HE2 := Lib.hid (show ifE (puE ds hd (sz + j) X) (sz + l.length) = 0 from if_neg hp0)
            have HE3 := Lib.hid (show ifE (puE ds hd (sz + j) X) (sz + j + 1) = 0 from if_neg hp0)
            have hne : (puE ds hd (sz + j) X != 0) = true := bne_iff_ne.2 hp0
            have HX := Lib.hid (HEE.out.trans hE)
            clear hE hp0 HST2 HEE
            generalize puE ds hd (sz + j) X = x at *
            generalize pbC ds hd (sz + j) X = es at *
            rw [HE1.out, HE3.out] at HQ1 HQ2 ⊢
            obtain ⟨t0, t1, t2, t3, t4, t5, hrl⟩ := HS5.out.rs.facts
            have hpr : p ≠ r := by have := HS5.out.old; omega
            have hrp : r ≠ p := fun e => hpr e.symm
            have HB := Lib.hid (HQ1.out.end1 (.slice none 0 0) (.int .i64 0) (.int .i64 0))
            go_wp2
            exact bodyPost_ret (v := .tuple #[.agg #[.slice none 0 0, .int .i64 0, .int .i64 0], .int .i64 x]) (by simp only [results, Try.results27]; go_simp <;> rfl) rfl ⟨none, 0, by rw [HX.out, HC.out, HE1.out, HE2.out]; rfl, nw_none, by rw [HC.out]; exact Ls.nil, HB.out⟩
        · obtain rfl : j = l.length := by omega
          have HST2 := Lib.hid (ab_last (cs := cs) (ds := ds) (hd := hd) (sz := sz) (z := sz + l.length) (l := l) (by have := HST.out; rw [List.drop_length] at this; exact this))
          have HC := Lib.hid ((HC0.out HST2.out.1).trans HST2.out.2)
          have HX := Lib.hid (HEE.out.trans HST2.out.1)
          have HE1 := Lib.hid (show ifE 0 hd = hd from if_pos rfl)
          have HE2 := Lib.hid (show ifE 0 (sz + (l.length : Int)) = sz + (l.length : Int) from if_pos rfl)
          obtain ⟨r0, r1, r2, r3, r4, r5, hpl⟩ := HA.out.dt.rb.facts
          obtain ⟨t0, t1, t2, t3, t4, t5, hrl⟩ := HA.out.dt.rs.facts
          have hpr : p ≠ r := by have := HA.out.dt.old; omega
          have hrp : r ≠ p := fun e => hpr e.symm
          have HB := Lib.hid (HA.out.dt.end1 (.slice A' cs.length c') (.int .i64 hd) (.int .i64 (sz + l.length)))
          have HLL := Lib.hid ((HA.out.ls.off3 HA.out.nw (Nat.lt_succ_self r) (.slice A' cs.length c') (.int .i64 hd) (.int .i64 (sz + l.length))).more (show wr.heap.size ≤ (((wr.setCell ⟨r, 0, none⟩ (.slice A' cs.length c')).setCell ⟨r, 1, none⟩ (.int .i64 hd)).setCell ⟨r, 2, none⟩ (.int .i64 (sz + l.length))).heap.size by simp))
          have HNA := Lib.hid (nw_low HA.out.nw (show w.heap.size ≤ r + 1 by have := HA.out.dt.old; omega))
          have HLN := Lib.hid HA.out.len
          go_wp2
          exact bodyPost_ret (v := .tuple #[.agg #[.slice A' cs.length c', .int .i64 hd, .int .i64 (sz + l.length)], .int .i64 0]) (by simp only [results, Try.results27]; go_simp <;> rfl) rfl ⟨A', c', by rw [HX.out, HC.out, HE1.out, HE2.out, HLN.out], HNA.out, by rw [HC.out, HLN.out]; exact HLL.out, HB.out⟩
  · have hE : aoE cs hd sz l = rgV cs hd sz := if_pos h0
    have HC := Lib.hid (show aoC cs hd sz l = [] from if_neg (by rw [hE]; exact h0))
    have HE1 := Lib.hid (show ifE (rgV cs hd sz) hd = 0 from if_neg h0)
    have HE2 := Lib.hid (show ifE (rgV cs hd sz) (sz + l.length) = 0 from if_neg h0)
    have hne : (rgV cs hd sz != 0) = true := bne_iff_ne.2 h0
    rw [hE]
    clear hE
    generalize rgV cs hd sz = x at *
    generalize aoC cs hd sz l = ds at *
    clear h0
    go_enter Try.func27, Try.ntmps27
    go_wp2_with fail
    have HS := Lib.hid (DtAt.start w A cs.length c hd sz 24)
    obtain ⟨p, hp⟩ : ∃ p, p = w.heap.size := ⟨_, rfl⟩
    obtain ⟨r, hr⟩ : ∃ r, r = w.heap.size + 1 := ⟨_, rfl⟩
    rw [← hr, ← hp] at HS ⊢
    clear hp hr
    refine (HG.out _ (HV.out.up HS.out.bel)).mono ?_
    rintro e w1 ⟨rfl, hb⟩
    have HS1 := Lib.hid (HS.out.below hb)
    obtain ⟨t0, t1, t2, t3, t4, t5, hrl⟩ := HS1.out.rs.facts
    have HB := Lib.hid (HS1.out.end1 (.slice none 0 0) (.int .i64 0) (.int .i64 0))
    clear hb HS
    go_wp2
    exact bodyPost_ret (v := .tuple #[.agg #[.slice none 0 0, .int .i64 0, .int .i64 0], .int .i64 x]) (by simp only [results, Try.results27]; go_simp <;> rfl) rfl ⟨none, 0, by rw [HC.out, HE1.out, HE2.out]; rfl, nw_none, by rw [HC.out]; exact Ls.nil, HB.out⟩
end Go.Proofs.Ytiklkagkmcapnaa
namespace Go.Proofs.Ytiklkagkmcapnaa
open Go.RowKit
set_option linter.unusedVariables false

attribute [local go_sem ↓] Go.wp_at_zero Go.wp_at_succ
set_option maxHeartbeats 8000000 in
set_option maxRecDepth 20000 in
theorem rremove_any (A : Option Addr) (n c : Nat) (cs : List Msg) (hd sz id : Int) (w : World) (hv : Ls w w.heap.size (.slice A n c) cs) :
    Calls Try.prog 38 #[.agg #[.slice A n c, .int .i64 hd, .int .i64 sz], .int .i64 id] w (RMP w (rmC cs hd sz id) (ifE (rmE cs hd sz id) hd) (ifE (rmE cs hd sz id) (sz - 1)) (rmM cs hd sz id) (rmE cs hd sz id)) := by
  obtain ⟨rfl, _, _⟩ := hv.len
  have HV := Lib.hid hv
  have HP := Lib.hid (fun w1 (h : Ls w1 w1.heap.size (.slice A cs.length c) cs) => rvalid_any A cs.length c cs hd sz w1 h)
  clear hv
  by_cases h0 : rgV cs hd sz = 0
  · obtain ⟨hn, hz, _, _⟩ := rgV_zero h0
    obtain ⟨⟨n1, n2⟩, ⟨k1, k2⟩, ⟨s1, s2⟩⟩ := nm_of hn
    obtain ⟨hd, rfl⟩ := Int.eq_ofNat_of_zero_le k1
    obtain ⟨sz, rfl⟩ := Int.eq_ofNat_of_zero_le s1
    simp only [Int.toNat_natCast] at hz
    have HO := Lib.hid (fun w1 (h : Ls w1 w1.heap.size (.slice A cs.length c) cs) => rorder_any A cs.length c cs hd sz w1 h hn)
    rw [h0] at HP
    rcases ixF_cases (ord cs hd sz) id with ⟨hi, _⟩ | ⟨x, hx, hi, hq1, hq2⟩
    · have hE : rmE cs hd sz id = 4 := by unfold rmE; rw [if_neg (by simpa using h0), if_pos (by simp only [Int.toNat_natCast]; rw [hi]; decide)]
      have HC := Lib.hid (show rmC cs hd sz id = [] from if_neg (by rw [hE]; decide))
      have HE3 := Lib.hid (show rmM cs hd sz id = zM from if_neg (by rw [hE]; decide))
      have HE1 := Lib.hid (show ifE 4 (hd : Int) = 0 from if_neg (by decide))
      have HE2 := Lib.hid (show ifE 4 ((sz : Int) - 1) = 0 from if_neg (by decide))
      have HI := Lib.hid hi
      rw [hE]
      clear h0 hn hz hi hE n1 n2 k1 k2 s1 s2
      generalize rmC cs hd sz id = ds at *
      generalize rmM cs hd sz id = Y at *
      go_enter Try.func38, Try.ntmps38
      go_wp2_with fail
      have HS := Lib.hid (PoAt.start w A cs.length c hd sz 24 26)
      obtain ⟨p, hp⟩ : ∃ p, p = w.heap.size := ⟨_, rfl⟩
      obtain ⟨r, hr⟩ : ∃ r, r = w.heap.size + 1 := ⟨_, rfl⟩
      obtain ⟨s, hs⟩ : ∃ s, s = w.heap.size + 1 + 1 := ⟨_, rfl⟩
      rw [← hs, ← hr, ← hp] at HS ⊢
      clear hp hr hs
      refine (HP.out _ (HV.out.up HS.out.bel)).mono ?_
      rintro e w1 ⟨rfl, hb⟩
      have HS1 := Lib.hid (HS.out.below hb)
      obtain ⟨⟨r0, r1, r2, r3, r4, r5, hpl⟩, _, _⟩ := HS1.out.facts
      clear hb HS
      go_wp2_with fail
      refine (HO.out _ (HV.out.up HS1.out.bel)).mono ?_
      rintro e w3 ⟨v, rfl, hnv, hl, hb⟩
      obtain ⟨A3, c3, rfl, hc3, _⟩ := hl.form
      have HL3 := Lib.hid hl
      have HS3 := Lib.hid (HS1.out.below hb)
      clear hb hl hnv hc3 r0 r1 r2 r3 r4 r5 hpl
      go_wp2_with fail
      refine (rindex_any _ _ _ _ id _ _ HL3.out).mono ?_
      rintro e w4 ⟨rfl, rfl⟩
      rw [HI.out]
      obtain ⟨⟨r0, r1, r2, r3, r4, r5, hpl⟩, ⟨t0, t1, t2, t3, t4, t5, hrl⟩, ⟨⟨v0, v1, v2, v3, v4, v5, v6⟩, f0, f1, f2, f3, f4, f5, f6, hsl⟩⟩ := HS3.out.facts
      have hrs : r ≠ s := by have := HS3.out.old; omega
      have hsr : s ≠ r := fun e => hrs e.symm
      have HB := Lib.hid (HS3.out.end1 (.slice none 0 0) (.int .i64 0) (.int .i64 0) zM)
      go_wp2
      exact bodyPost_ret (v := .tuple #[.agg #[.slice none 0 0, .int .i64 0, .int .i64 0], .agg #[.int .i64 0, .int .i64 0, .int .i64 0, .int .i64 0, .int .i64 0, .int .i64 0, .string ByteArray.empty], .int .i64 4]) (by simp only [results, Try.results38]; go_simp <;> rfl) rfl ⟨none, 0, by rw [HC.out, HE1.out, HE2.out, HE3.out]; rfl, nw_none, by rw [HC.out]; exact Ls.nil, HB.out⟩
    · have HOL := Lib.hid (ord_len cs hd sz)
      have hxs : x < sz := by rw [ord_len] at hx; exact hx
      have hE : rmE cs hd sz id = 0 := by unfold rmE; rw [if_neg (by simpa using h0), if_neg (by simp only [Int.toNat_natCast]; rw [hi]; omega)]
      have hC : rmC cs hd sz id = fil cs.length hd ((ord cs hd sz).eraseIdx x) := by unfold rmC; rw [if_pos hE]; simp only [Int.toNat_natCast]; rw [hi, Int.toNat_natCast]
      have hM : rmM cs hd sz id = cel cs hd x := by unfold rmM; rw [if_pos hE]; simp only [Int.toNat_natCast]; rw [hi, Int.toNat_natCast]
      have HE1 := Lib.hid (show ifE 0 (hd : Int) = hd from if_pos rfl)
      have HE2 := Lib.hid (show ifE 0 ((sz : Int) - 1) = (sz : Int) - 1 from if_pos rfl)
      have HI := Lib.hid hi
      have HY := Lib.hid (fun (h : x < (ord cs hd sz).length) => (show (ord cs hd sz)[x] = rmM cs hd sz id by rw [hM, ord_at]))
      have HWT := Lib.hid (fun A' n' c' w1 (h : Ls w1 w1.heap.size (.slice A' n' c') (ord cs hd sz)) => rwithout_any A' n' c' (ord cs hd sz) x w1 h hx (by rw [ord_len]; omega))
      have hel : ((ord cs hd sz).eraseIdx x).length = sz - 1 := by rw [List.length_eraseIdx, if_pos hx, ord_len]
      have HWI := Lib.hid (fun A' n' c' w1 (h : Ls w1 w1.heap.size (.slice A' n' c') ((ord cs hd sz).eraseIdx x)) => with_any A cs.length c hd sz hd A' n' c' ((ord cs hd sz).eraseIdx x) w1 (by omega) (by omega) (by omega) h)
      rw [← hC, show (((ord cs hd sz).eraseIdx x).length : Int) = (sz : Int) - 1 by omega] at HWI
      rw [hE]
      have hx12 : (x : Int) ≤ 12 := by omega
      have hx0 : (0 : Int) ≤ (x : Int) := by omega
      have hs12 : (sz : Int) ≤ 12 := by omega
      have hxz : (x : Int) < (sz : Int) := by omega
      have HXS := Lib.hid hxs
      clear h0 hn hz hi hE hC hM n1 n2 k1 k2 s1 s2 hq1 hq2 hx hel hxs
      generalize ord cs hd sz = l at *
      generalize rmC cs hd sz id = ds at *
      generalize rmM cs hd sz id = X at *
      go_enter Try.func38, Try.ntmps38
      go_wp2_with fail
      have HS := Lib.hid (PoAt.start w A cs.length c hd sz 24 26)
      obtain ⟨p, hp⟩ : ∃ p, p = w.heap.size := ⟨_, rfl⟩
      obtain ⟨r, hr⟩ : ∃ r, r = w.heap.size + 1 := ⟨_, rfl⟩
      obtain ⟨s, hs⟩ : ∃ s, s = w.heap.size + 1 + 1 := ⟨_, rfl⟩
      rw [← hs, ← hr, ← hp] at HS ⊢
      clear hp hr hs
      refine (HP.out _ (HV.out.up HS.out.bel)).mono ?_
      rintro e w1 ⟨rfl, hb⟩
      have HS1 := Lib.hid (HS.out.below hb)
      obtain ⟨⟨r0, r1, r2, r3, r4, r5, hpl⟩, _, _⟩ := HS1.out.facts
      clear hb HS
      go_wp2_with fail
      refine (HO.out _ (HV.out.up HS1.out.bel)).mono ?_
      rintro e w3 ⟨v, rfl, hnv, hl, hb⟩
      obtain ⟨A3, c3, rfl, hc3, _⟩ := hl.form
      have HL3 := Lib.hid hl
      have HS3 := Lib.hid (HS1.out.below hb)
      have HN3 := Lib.hid (nwv_of hnv)
      clear hb hl hnv hc3 r0 r1 r2 r3 r4 r5 hpl
      go_wp2_with fail
      refine (rindex_any _ _ _ _ id _ _ HL3.out).mono ?_
      rintro e w4 ⟨rfl, rfl⟩
      rw [HI.out]
      have hxl : x < l.length := by rw [HOL.out]; exact HXS.out
      obtain ⟨b, o, rfl, hbb, hc7⟩ := HL3.out.at_ hxl
      rw [HY.out hxl] at hc7
      rw [HOL.out]
      have HC7 := Lib.hid hc7
      have HBS := Lib.hid (show s < b from Nat.lt_of_lt_of_le HS1.out.ms.1 (HN3.out _ rfl))
      have HBL := Lib.hid hbb
      have HL3' := Lib.hid (show Ls w3 w3.heap.size (.slice (some ⟨b, o, none⟩) sz c3) l by have := HL3.out; rw [HOL.out] at this; exact this)
      clear hc7 hbb HS1 hxl HL3
      have HSA := Lib.hid (sc2_of HS3.out.rb.drew (C7.drew0 HC7.out))
      have HRP := Lib.hid (show r ≠ p by have := HS3.out.old; omega)
      have HSP := Lib.hid (show s ≠ p by have := HS3.out.old; omega)
      have HRB := Lib.hid (show r ≠ b by have := HS3.out.old; have := HBS.out; omega)
      have HBN := Lib.hid (show b ≠ s by have := HBS.out; omega)
      have hrs : r ≠ s := by have := HS3.out.old; omega
      have hsr : s ≠ r := fun e => hrs e.symm
      go_wp2
      go_region_held3 (fun W => W.cell? ⟨p, 0, none⟩ = some (.slice A cs.length c) ∧ W.cell? ⟨p, 1, none⟩ = some (.int .i64 hd) ∧ W.cell? ⟨p, 2, none⟩ = some (.int .i64 sz) ∧ W.cell? ⟨b, o + x * 7, none⟩ = some (.int .i64 X.id) ∧ W.cell? ⟨b, o + x * 7 + 1, none⟩ = some (.int .i64 X.rt) ∧ W.cell? ⟨b, o + x * 7 + 2, none⟩ = some (.int .i64 X.ep) ∧ W.cell? ⟨b, o + x * 7 + 3, none⟩ = some (.int .i64 X.ct) ∧ W.cell? ⟨b, o + x * 7 + 4, none⟩ = some (.int .i64 X.gn) ∧ W.cell? ⟨b, o + x * 7 + 5, none⟩ = some (.int .i64 X.st) ∧ W.cell? ⟨b, o + x * 7 + 6, none⟩ = some (.string X.bd))
        (first | with_reducible exact HSA.out | with_reducible exact HSW.out | with_reducible exact HSB.out | with_reducible exact HSC.out | with_reducible exact HSD.out | with_reducible exact HSE.out | with_reducible exact HSF.out)
        (first
        | (go_at_call 29; (with_reducible refine (HWT.out _ _ _ _ (HL3'.out.drew)).mono ?_); rintro e w5 ⟨v5, rfl, hnw, hl5, hb⟩; obtain ⟨A5, c5, rfl, _, _⟩ := hl5.form; have HS5 := Lib.hid (HS3.out.below (drew_below hb)); have HC5 := Lib.hid (C7.below (W := w3) HC7.out (drew_below hb) HBL.out); have HB5 := Lib.hid (show b < w5.heap.size from Nat.lt_of_lt_of_le HBL.out (drew_below hb).size); have HL5 := Lib.hid hl5; have HSW := Lib.hid (sc2_of HS5.out.rb HC5.out); clear hnw hl5 hb)
        | (go_at_call 62; (with_reducible refine (HWI.out _ _ _ _ HL5.out).mono ?_); rintro e w6 ⟨A6, c6, rfl, hnw, hl6, hb⟩; have HS6 := Lib.hid (HS5.out.below hb); have HC6 := Lib.hid (C7.below (W := w5) HC5.out hb HB5.out); have HNW := Lib.hid hnw; have HL6 := Lib.hid hl6; have HSB := Lib.hid (sc2_of HS6.out.rb HC6.out); have HSC := Lib.hid (sc2_of (HS6.out.rb.set3 HRP.out (.slice A6 ds.length c6) (.int .i64 hd) (.int .i64 ((sz : Int) - 1))) (C7.set3 HC6.out HRB.out (.slice A6 ds.length c6) (.int .i64 hd) (.int .i64 ((sz : Int) - 1)))); have HSD := Lib.hid (sc2_of (HS6.out.rb.lit7 HSP.out X) (C7.lit7 HC6.out HBN.out X)); have HSE := Lib.hid (sc2_of ((HS6.out.rb.set3 HRP.out (.slice A6 ds.length c6) (.int .i64 hd) (.int .i64 ((sz : Int) - 1))).lit7 HSP.out X) (C7.lit7 (C7.set3 HC6.out HRB.out (.slice A6 ds.length c6) (.int .i64 hd) (.int .i64 ((sz : Int) - 1))) HBN.out X)); have HSF := Lib.hid (sc2_of ((HS6.out.rb.lit7 HSP.out X).set3 HRP.out (.slice A6 ds.length c6) (.int .i64 hd) (.int .i64 ((sz : Int) - 1))) (C7.set3 (C7.lit7 HC6.out HBN.out X) HRB.out (.slice A6 ds.length c6) (.int .i64 hd) (.int .i64 ((sz : Int) - 1)))); obtain ⟨_, ⟨t0, t1, t2, t3, t4, t5, hrl⟩, ⟨⟨v0, v1, v2, v3, v4, v5, v6⟩, f0, f1, f2, f3, f4, f5, f6, hsl⟩⟩ := HS6.out.facts; clear hnw hl6 hb))
      all_goals
        have HL := Lib.hid (((HL6.out.off3 HNW.out HS5.out.rs.lt (.slice A6 ds.length c6) (.int .i64 hd) (.int .i64 ((sz : Int) - 1))).off7 HNW.out HS5.out.ms.1 X).more (show w6.heap.size ≤ ((((((((((w6.setCell ⟨r, 0, none⟩ (.slice A6 ds.length c6)).setCell ⟨r, 1, none⟩ (.int .i64 hd)).setCell ⟨r, 2, none⟩ (.int .i64 ((sz : Int) - 1))).setCell ⟨s, 0, none⟩ (.int .i64 X.id)).setCell ⟨s, 1, none⟩ (.int .i64 X.rt)).setCell ⟨s, 2, none⟩ (.int .i64 X.ep)).setCell ⟨s, 3, none⟩ (.int .i64 X.ct)).setCell ⟨s, 4, none⟩ (.int .i64 X.gn)).setCell ⟨s, 5, none⟩ (.int .i64 X.st)).setCell ⟨s, 6, none⟩ (.string X.bd)).heap.size by simp))
        have HB := Lib.hid (HS6.out.end1 (.slice A6 ds.length c6) (.int .i64 hd) (.int .i64 ((sz : Int) - 1)) X)
        have HN6 := Lib.hid (nw_low HNW.out HS5.out.bel.size)
        clear HSA HSB HSC HSD HSE HSF HSW
        go_wp2
        exact bodyPost_ret (v := .tuple #[.agg #[(.slice A6 ds.length c6), (.int .i64 hd), (.int .i64 ((sz : Int) - 1))], X.v, .int .i64 0]) (by simp only [results, Try.results38]; go_simp <;> rfl) rfl ⟨A6, c6, by rw [HE1.out, HE2.out], HN6.out, HL.out, HB.out⟩
  · have hE : rmE cs hd sz id = rgV cs hd sz := if_pos h0
    have HC := Lib.hid (show rmC cs hd sz id = [] from if_neg (by rw [hE]; exact h0))
    have HE1 := Lib.hid (show ifE (rgV cs hd sz) hd = 0 from if_neg h0)
    have HE2 := Lib.hid (show ifE (rgV cs hd sz) (sz - 1) = 0 from if_neg h0)
    have HE3 := Lib.hid (show rmM cs hd sz id = zM from if_neg (by rw [hE]; exact h0))
    have hne : (rgV cs hd sz != 0) = true := bne_iff_ne.2 h0
    rw [hE]
    clear hE
    generalize rgV cs hd sz = x at *
    generalize rmC cs hd sz id = ds at *
    generalize rmM cs hd sz id = Y at *
    clear h0
    go_enter Try.func38, Try.ntmps38
    go_wp2_with fail
    have HS := Lib.hid (PoAt.start w A cs.length c hd sz 24 26)
    obtain ⟨p, hp⟩ : ∃ p, p = w.heap.size := ⟨_, rfl⟩
    obtain ⟨r, hr⟩ : ∃ r, r = w.heap.size + 1 := ⟨_, rfl⟩
    obtain ⟨s, hs⟩ : ∃ s, s = w.heap.size + 1 + 1 := ⟨_, rfl⟩
    rw [← hs, ← hr, ← hp] at HS ⊢
    clear hp hr hs
    refine (HP.out _ (HV.out.up HS.out.bel)).mono ?_
    rintro e w1 ⟨rfl, hb⟩
    have HS1 := Lib.hid (HS.out.below hb)
    obtain ⟨⟨r0, r1, r2, r3, r4, r5, hpl⟩, ⟨t0, t1, t2, t3, t4, t5, hrl⟩, ⟨⟨v0, v1, v2, v3, v4, v5, v6⟩, f0, f1, f2, f3, f4, f5, f6, hsl⟩⟩ := HS1.out.facts
    have hrs : r ≠ s := by have := HS1.out.old; omega
    have hsr : s ≠ r := fun e => hrs e.symm
    have HB := Lib.hid (HS1.out.end1 (.slice none 0 0) (.int .i64 0) (.int .i64 0) zM)
    clear hb HS
    go_wp2
    exact bodyPost_ret (v := .tuple #[.agg #[.slice none 0 0, .int .i64 0, .int .i64 0], .agg #[.int .i64 0, .int .i64 0, .int .i64 0, .int .i64 0, .int .i64 0, .int .i64 0, .string ByteArray.empty], .int .i64 x]) (by simp only [results, Try.results38]; go_simp <;> rfl) rfl ⟨none, 0, by rw [HC.out, HE1.out, HE2.out, HE3.out]; rfl, nw_none, by rw [HC.out]; exact Ls.nil, HB.out⟩
end Go.Proofs.Ytiklkagkmcapnaa
