/- What is proved here: shard.liveError by a contract; shard.Validate by a contract; shard.examine by a contract; (plain) what Detach and Absorb of rings return. -/
import Derived.Test.YtdilgeabcacbdaaGreatJ20
import Derived.Test.YtdilgeabcacbdaaGreatJ06
import Derived.Test.YtdilgeabcacbdaaGreatJ21
import Derived.Deep.RegionHeld3
import Derived.Test.YtdilgeabcacbdaaGreatJ10
namespace Go.Proofs.YtdilgeabcacbdaaGreat
open Go.RowKit
set_option linter.unusedVariables false

/-- The cells of a shard in a block. -/
abbrev K8 (p : Nat) (S : Sh) (D : Sx) (W : World) : Prop := W.cell? ⟨p, 0, none⟩ = some (.bool S.lv) ∧ W.cell? ⟨p, 1, none⟩ = some (.int .i64 S.lo) ∧ W.cell? ⟨p, 2, none⟩ = some (.int .i64 S.hi) ∧ W.cell? ⟨p, 3, none⟩ = some (.slice D.A S.cs.length D.c) ∧ W.cell? ⟨p, 4, none⟩ = some (.int .i64 S.hd) ∧ W.cell? ⟨p, 5, none⟩ = some (.int .i64 S.sz) ∧ W.cell? ⟨p, 6, none⟩ = some (.slice D.A2 S.l.length D.c2) ∧ W.cell? ⟨p, 7, none⟩ = some (.slice D.A3 S.h.length D.c3)
theorem SAt.k8 {w W : World} {p : Nat} {S : Sh} {D : Sx} (h : SAt w p S D W) : K8 p S D W := ⟨h.s8.c0, h.s8.c1, h.s8.c2, h.s8.c3, h.s8.c4, h.s8.c5, h.s8.c6, h.s8.c7⟩
theorem SB8.k8 {W : World} {p : Nat} {S : Sh} {D : Sx} (h : SB8 W p S D) : K8 p S D W := ⟨h.c0, h.c1, h.c2, h.c3, h.c4, h.c5, h.c6, h.c7⟩
/-- A box of a shard, whose routes something is asked of. -/
def ShAt (p : Nat) (S : Sh) (D : Sx) (W : World) : Prop := p < W.heap.size ∧ K8 p S D W
theorem ShAt.below {p : Nat} {S : Sh} {D : Sx} (W W' : World) (h : ShAt p S D W) (hb : Below W.heap.size W W') : ShAt p S D W' := by
  obtain ⟨hp, h0, h1, h2, h3, h4, h5, h6, h7⟩ := h
  have c : ∀ o, W'.cell? ⟨p, o, none⟩ = W.cell? ⟨p, o, none⟩ := fun o => hb.cell (p := ⟨p, o, none⟩) hp
  exact ⟨Nat.lt_of_lt_of_le hp hb.size, (c 0).trans h0, (c 1).trans h1, (c 2).trans h2, (c 3).trans h3, (c 4).trans h4, (c 5).trans h5, (c 6).trans h6, (c 7).trans h7⟩
set_option maxHeartbeats 1000000 in
theorem live1_any (p : Nat) (S : Sh) (D : Sx) (M : Msg) (w : World) (h : ShAt p S D w) :
    Calls Tryz.prog 84 #[M.v, .pointer (some ⟨p, 0, none⟩)] w fun e w' => e = .returned (.bool (!wi M.rt S.lo S.hi)) ∧ Below w.heap.size w w' := by
  have HB := Lib.hid ((Below.refl w.heap.size w).alloc (Nat.le_refl _) (.cells M.cs 66))
  obtain ⟨hp, h0, h1, h2, h3, h4, h5, h6, h7⟩ := h
  have HC := Lib.hid (fun W => shas_any S D M.rt W)
  generalize wi M.rt S.lo S.hi = b at *
  go_enter Tryz.func84, Tryz.ntmps84
  go_wp2_with fail
  refine (HC.out _).mono ?_
  rintro e w1 ⟨rfl, hb⟩
  have HB1 := Lib.hid (HB.out.trans (hb.mono HB.out.size))
  clear hb
  go_wp2
  go_ret
  exact ⟨rfl, HB1.out⟩

theorem liE_1 {S : Sh} (h : spB S.lo S.hi = false) : liE S = 1 := if_pos h
theorem liE_3 {S : Sh} (h : spB S.lo S.hi = true) (h2 : (S.cs.length : Int) < S.sz + S.l.length) : liE S = 3 := by unfold liE; rw [if_neg (by simp [h]), if_pos h2]
theorem liE_12 {S : Sh} (h : spB S.lo S.hi = true) (h2 : ¬ (S.cs.length : Int) < S.sz + S.l.length) (h3 : rtB S.lo S.hi S.al = true) : liE S = 12 := by unfold liE; rw [if_neg (by simp [h]), if_neg h2, if_pos h3]
theorem liE_10 {S : Sh} (h : spB S.lo S.hi = true) (h2 : ¬ (S.cs.length : Int) < S.sz + S.l.length) (h3 : rtB S.lo S.hi S.al = false) (h4 : dpB S.al = true) : liE S = 10 := by unfold liE; rw [if_neg (by simp [h]), if_neg h2, if_neg (by simp [h3]), if_pos h4]
theorem liE_0 {S : Sh} (h : spB S.lo S.hi = true) (h2 : ¬ (S.cs.length : Int) < S.sz + S.l.length) (h3 : rtB S.lo S.hi S.al = false) (h4 : dpB S.al = false) : liE S = 0 := by unfold liE; rw [if_neg (by simp [h]), if_neg h2, if_neg (by simp [h3]), if_neg (by simp [h4])]

set_option maxHeartbeats 8000000 in
set_option maxRecDepth 20000 in
theorem slive_any (S : Sh) (D : Sx) (w : World) (hs : SR w w.heap.size S D) (h0 : 0 ≤ S.sz) (h1 : S.sz ≤ 12) (h2 : S.l.length ≤ 12) :
    Calls Tryz.prog 62 #[sv S D] w (VlT w (liE S)) := by
  have H0 := Lib.hid (SAt.start 37 hs)
  have HSP := Lib.hid (fun W => sspan_any S.lo S.hi W)
  have HSZ := Lib.hid (fun W => ssize_any S D W h0 (by omega) (by omega))
  have HCA := Lib.hid (fun W => scap_any S D W)
  have HMS := Lib.hid (fun p W (k : SAt w p S D W) => smsgs_any S D W k.sr (by omega))
  have HCF := Lib.hid (fun p A c W (k : SAt w p S D W) (hl : Ls W W.heap.size (.slice A S.al.length c) S.al) => cofuncV A S.al.length c S.al (.pointer (some ⟨p, 0, none⟩)) (fun M => !wi M.rt S.lo S.hi) (ShAt p S D) W hl ⟨k.lt, k.k8⟩ ShAt.below (fun M W h => live1_any p S D M W h))
  have HDU := Lib.hid (fun A c W (hl : Ls W W.heap.size (.slice A S.al.length c) S.al) => ssameid_any A S.al.length c S.al W hl)
  have HE1 := Lib.hid (fun h => liE_1 (S := S) h)
  have HE3 := Lib.hid (fun h g => liE_3 (S := S) h g)
  have HE12 := Lib.hid (fun h g k => liE_12 (S := S) h g k)
  have HE10 := Lib.hid (fun h g k d => liE_10 (S := S) h g k d)
  have HE0 := Lib.hid (fun h g k d => liE_0 (S := S) h g k d)
  have HRT : Hid (rtB S.lo S.hi S.al = S.al.any (fun M => !wi M.rt S.lo S.hi)) := Lib.hid rfl
  have hmf : ∀ (fn : Fn) (first cap : Array Value) (w : World), (Instr.makeFunc fn first cap).run Tryz.prog w = .ok (.func fn first cap) w := fun _ _ _ _ => rfl
  clear hs h0 h1 h2
  generalize liE S = x at *
  go_enter Tryz.func62, Tryz.ntmps62
  obtain ⟨t0, t1, t2, t3, t4, t5, t6, t7, tl⟩ := H0.out.s8.facts
  go_wp2_with fail
  clear t0 t1 t2 t3 t4 t5 t6 t7 tl
  obtain ⟨p, hp⟩ : ∃ p, p = w.heap.size := ⟨_, rfl⟩
  rw [← hp]
  rw [← hp] at H0
  clear hp
  generalize w.alloc (.cells #[.bool S.lv, .int .i64 S.lo, .int .i64 S.hi, .slice D.A S.cs.length D.c, .int .i64 S.hd, .int .i64 S.sz, .slice D.A2 S.l.length D.c2, .slice D.A3 S.h.length D.c3] 37) = w1 at *
  refine (HSP.out _).mono ?_
  rintro e w2 ⟨rfl, rfl⟩
  cases hsp : spB S.lo S.hi with
  | false =>
    have HX := Lib.hid (HE1.out hsp)
    go_wp2
    go_ret
    exact ⟨by rw [HX.out]; rfl, H0.out.bel⟩
  | true =>
    have HX1 := Lib.hid hsp
    clear hsp
    have HD := Lib.hid H0.out.drew
    have HT0 := Lib.hid (show K8 p S D w1.drew from HD.out.k8)
    obtain ⟨t0, t1, t2, t3, t4, t5, t6, t7, tl⟩ := HD.out.s8.facts
    go_wp2_with fail
    by_cases hfu : (S.cs.length : Int) < S.sz + S.l.length
    · go_region_held3 (fun W => K8 p S D W)
        (first | with_reducible exact HT0.out | with_reducible exact HT1.out | with_reducible exact HT2.out)
        (first
        | (go_at_call 63; (with_reducible refine (HSZ.out _).mono ?_); rintro e w3 ⟨rfl, hb⟩; have HA1 := Lib.hid (HD.out.below hb); have HT1 := Lib.hid HA1.out.k8; clear hb)
        | (go_at_call 81; (with_reducible refine (HCA.out _).mono ?_); rintro e w4 ⟨rfl, hb⟩; have HA2 := Lib.hid (HA1.out.below hb); have HT2 := Lib.hid HA2.out.k8; clear hb))
      have HX := Lib.hid (HE3.out HX1.out hfu)
      go_wp2
      go_ret
      exact ⟨by rw [HX.out]; rfl, HA2.out.bel⟩
    · go_region_held3 (fun W => K8 p S D W)
        (first | with_reducible exact HT0.out | with_reducible exact HT1.out | with_reducible exact HT2.out)
        (first
        | (go_at_call 63; (with_reducible refine (HSZ.out _).mono ?_); rintro e w3 ⟨rfl, hb⟩; have HA1 := Lib.hid (HD.out.below hb); have HT1 := Lib.hid HA1.out.k8; clear hb)
        | (go_at_call 81; (with_reducible refine (HCA.out _).mono ?_); rintro e w4 ⟨rfl, hb⟩; have HA2 := Lib.hid (HA1.out.below hb); have HT2 := Lib.hid HA2.out.k8; clear hb))
      have HX2 := Lib.hid hfu
      clear t0 t1 t2 t3 t4 t5 t6 t7 tl
      obtain ⟨t0, t1, t2, t3, t4, t5, t6, t7, tl⟩ := HA2.out.s8.facts
      go_wp2_with fail
      clear t0 t1 t2 t3 t4 t5 t6 t7 tl
      refine (HMS.out _ _ HA2.out).mono ?_
      rintro e w5 ⟨A5, c5, rfl, hw5, hb⟩
      have HA3 := Lib.hid (HA2.out.below hb)
      have HL5 := Lib.hid hw5.ls
      clear hw5 hb
      go_wp2_with fail
      refine (HCF.out _ _ _ _ HA3.out HL5.out).mono ?_
      rintro e w6 ⟨rfl, hb⟩
      rw [← HRT.out]
      have HA4 := Lib.hid (HA3.out.below hb)
      have HL6 := Lib.hid (HL5.out.up hb)
      clear hb
      cases h3 : rtB S.lo S.hi S.al with
      | true =>
        have HX := Lib.hid (HE12.out HX1.out HX2.out h3)
        go_wp2
        go_ret
        exact ⟨by rw [HX.out]; rfl, HA4.out.bel⟩
      | false =>
        have HX3 := Lib.hid h3
        clear h3
        go_wp2_with fail
        refine (HDU.out _ _ _ HL6.out).mono ?_
        rintro e w7 ⟨rfl, hb⟩
        have HA5 := Lib.hid (HA4.out.below hb)
        clear hb
        cases h4 : dpB S.al with
        | true =>
          have HX := Lib.hid (HE10.out HX1.out HX2.out HX3.out h4)
          go_wp2
          go_ret
          exact ⟨by rw [HX.out]; rfl, HA5.out.bel⟩
        | false =>
          have HX := Lib.hid (HE0.out HX1.out HX2.out HX3.out h4)
          go_wp2
          go_ret
          exact ⟨by rw [HX.out]; rfl, HA5.out.bel⟩
end Go.Proofs.YtdilgeabcacbdaaGreat
namespace Go.Proofs.YtdilgeabcacbdaaGreat
open Go.RowKit
set_option linter.unusedVariables false

theorem shV_rg {S : Sh} (h : rgV S.cs S.hd S.sz ≠ 0) : shV S = rgV S.cs S.hd S.sz := if_pos h
theorem shV_tb {S : Sh} (h : rgV S.cs S.hd S.sz = 0) (h1 : tbV S.l S.h ≠ 0) : shV S = tbV S.l S.h := by unfold shV; rw [if_neg (fun g => g h), if_pos h1]
theorem shV_li {S : Sh} (h : rgV S.cs S.hd S.sz = 0) (h1 : tbV S.l S.h = 0) (h2 : S.lv = true) : shV S = liE S := by unfold shV; rw [if_neg (fun g => g h), if_neg (fun g => g h1), if_pos h2]
theorem shV_of {S : Sh} (h : rgV S.cs S.hd S.sz = 0) (h1 : tbV S.l S.h = 0) (h2 : S.lv = false) : shV S = if S.lo ≠ 0 ∨ S.hi ≠ 0 ∨ 0 < S.sz + S.l.length then 7 else 0 := by unfold shV; rw [if_neg (fun g => g h), if_neg (fun g => g h1), if_neg (by simp [h2])]
theorem rg_nums {cs : List Msg} {hd sz : Int} (h : rgV cs hd sz = 0) : 1 ≤ cs.length ∧ cs.length ≤ 12 ∧ 0 ≤ sz ∧ sz ≤ 12 := by
  have := nm_of (rgV_zero h).1
  omega
theorem tb_nums {l : List Le} {h : List Du} (e : tbV l h = 0) : l.length ≤ 12 ∧ h.length ≤ 12 := by
  have t := (tbV_iff l h).1 e
  have := t.len
  have := t.hlen
  omega
set_option maxHeartbeats 8000000 in
set_option maxRecDepth 20000 in
theorem svalid_any (S : Sh) (D : Sx) (w : World) (hs : SR w w.heap.size S D) :
    Calls Tryz.prog 45 #[sv S D] w (VlT w (shV S)) := by
  have H0 := Lib.hid (SAt.start 37 hs)
  have HRG := Lib.hid (fun p W (k : SAt w p S D W) => gvalid_any D.A S.cs.length D.c S.cs S.hd S.sz W k.sr.ls)
  have HTB := Lib.hid (fun p W (k : SAt w p S D W) => lvalid_any D.A2 S.l.length D.c2 S.l D.A3 S.h.length D.c3 S.h W k.sr.el k.sr.dl)
  clear hs
  go_enter Tryz.func45, Tryz.ntmps45
  obtain ⟨t0, t1, t2, t3, t4, t5, t6, t7, tl⟩ := H0.out.s8.facts
  go_wp2_with fail
  clear t0 t1 t2 t3 t4 t5 t6 t7 tl
  obtain ⟨p, hp⟩ : ∃ p, p = w.heap.size := ⟨_, rfl⟩
  rw [← hp]
  rw [← hp] at H0
  clear hp
  generalize w.alloc (.cells #[.bool S.lv, .int .i64 S.lo, .int .i64 S.hi, .slice D.A S.cs.length D.c, .int .i64 S.hd, .int .i64 S.sz, .slice D.A2 S.l.length D.c2, .slice D.A3 S.h.length D.c3] 37) = w1 at *
  refine (HRG.out _ _ H0.out).mono ?_
  rintro e w2 ⟨rfl, hb⟩
  have H1 := Lib.hid (H0.out.below hb)
  clear hb
  by_cases h1 : rgV S.cs S.hd S.sz = 0
  · have HNU := Lib.hid (rg_nums h1)
    have HX1 := Lib.hid h1
    rw [h1]
    clear h1
    obtain ⟨t0, t1, t2, t3, t4, t5, t6, t7, tl⟩ := H1.out.s8.facts
    go_wp2_with fail
    clear t0 t1 t2 t3 t4 t5 t6 t7 tl
    refine (HTB.out _ _ H1.out).mono ?_
    rintro e w3 ⟨rfl, hb⟩
    have H2 := Lib.hid (H1.out.below hb)
    clear hb
    by_cases h2 : tbV S.l S.h = 0
    · have HNT := Lib.hid (tb_nums h2)
      have HX2 := Lib.hid h2
      rw [h2]
      clear h2
      have HLI := Lib.hid (slive_any S D w3 H2.out.sr HNU.out.2.2.1 HNU.out.2.2.2 HNT.out.1)
      have HSZ := Lib.hid (fun W => ssize_any S D W HNU.out.2.2.1 (by have := HNU.out.2.2.2; omega) (by have := HNT.out.1; omega))
      cases hlv : S.lv with
      | true =>
        have HX := Lib.hid (shV_li HX1.out HX2.out hlv)
        have hsv : (Value.agg #[.bool true, .int .i64 S.lo, .int .i64 S.hi, .slice D.A S.cs.length D.c, .int .i64 S.hd, .int .i64 S.sz, .slice D.A2 S.l.length D.c2, .slice D.A3 S.h.length D.c3]) = sv S D := by show _ = Value.agg _; rw [hlv]
        obtain ⟨t0, t1, t2, t3, t4, t5, t6, t7, tl⟩ := H2.out.s8.facts
        rw [hlv] at t0
        clear hlv
        go_wp2_with fail
        clear t0 t1 t2 t3 t4 t5 t6 t7 tl
        refine HLI.out.mono ?_
        rintro e w4 ⟨rfl, hb⟩
        have H3 := Lib.hid (H2.out.below hb)
        clear hb
        go_wp2
        go_ret
        exact ⟨by rw [HX.out]; rfl, H3.out.bel⟩
      | false =>
        have HX := Lib.hid (shV_of HX1.out HX2.out hlv)
        have hsv : (Value.agg #[.bool false, .int .i64 S.lo, .int .i64 S.hi, .slice D.A S.cs.length D.c, .int .i64 S.hd, .int .i64 S.sz, .slice D.A2 S.l.length D.c2, .slice D.A3 S.h.length D.c3]) = sv S D := by show _ = Value.agg _; rw [hlv]
        obtain ⟨t0, t1, t2, t3, t4, t5, t6, t7, tl⟩ := H2.out.s8.facts
        rw [hlv] at t0
        clear hlv
        by_cases hlo : S.lo = 0
        · have blo : (S.lo != 0) = false := by simp [hlo]
          have HLO := Lib.hid hlo
          clear hlo
          by_cases hhi : S.hi = 0
          · have bhi : (S.hi != 0) = false := by simp [hhi]
            have HHI := Lib.hid hhi
            clear hhi
            have HSZ' := Lib.hid (fun W => HSZ.out W)
            by_cases hz : 0 < S.sz + S.l.length
            · go_wp2_with fail
              refine (HSZ'.out _).mono ?_
              rintro e w4 ⟨rfl, hb⟩
              have H3 := Lib.hid (H2.out.below hb)
              clear hb
              go_wp2
              go_ret
              exact ⟨by rw [HX.out, if_pos (.inr (.inr hz))]; rfl, H3.out.bel⟩
            · go_wp2_with fail
              refine (HSZ'.out _).mono ?_
              rintro e w4 ⟨rfl, hb⟩
              have H3 := Lib.hid (H2.out.below hb)
              clear hb
              go_wp2
              go_ret
              exact ⟨by rw [HX.out, if_neg (by have := HLO.out; have := HHI.out; omega)]; rfl, H3.out.bel⟩
          · have bhi : (S.hi != 0) = true := by simp [hhi]
            have HHI := Lib.hid hhi
            clear hhi
            go_wp2
            go_ret
            exact ⟨by rw [HX.out, if_pos (.inr (.inl HHI.out))]; rfl, H2.out.bel⟩
        · have blo : (S.lo != 0) = true := by simp [hlo]
          have HLO := Lib.hid hlo
          clear hlo
          go_wp2
          go_ret
          exact ⟨by rw [HX.out, if_pos (.inl HLO.out)]; rfl, H2.out.bel⟩
    · have HX := Lib.hid (shV_tb HX1.out h2)
      have hne : (tbV S.l S.h != 0) = true := bne_iff_ne.2 h2
      clear h2
      generalize tbV S.l S.h = x at *
      go_wp2
      go_ret
      exact ⟨by rw [HX.out]; rfl, H2.out.bel⟩
  · have HX := Lib.hid (shV_rg h1)
    have hne : (rgV S.cs S.hd S.sz != 0) = true := bne_iff_ne.2 h1
    clear h1
    generalize rgV S.cs S.hd S.sz = x at *
    go_wp2
    go_ret
    exact ⟨by rw [HX.out]; rfl, H1.out.bel⟩
end Go.Proofs.YtdilgeabcacbdaaGreat
namespace Go.Proofs.YtdilgeabcacbdaaGreat
open Go.RowKit
set_option linter.unusedVariables false

/-- A number and its range. -/
structure Rn where
  n : Int
  lo : Int
  hi : Int
def Rn.l (x : Rn) : List Value := [.int .i64 x.n, .int .i64 x.lo, .int .i64 x.hi]
def Rn.ok (x : Rn) : Bool := wi x.n x.lo x.hi
def rcs (R : List Rn) : List Value := R.flatMap Rn.l
theorem rcs_cons (x : Rn) (R : List Rn) : rcs (x :: R) = x.l ++ rcs R := rfl
theorem rcs_drop (R : List Rn) (k : Nat) : (rcs R).drop (k * 3) = rcs (R.drop k) := by
  induction k generalizing R with
  | zero => simp
  | succ k ih =>
    cases R with
    | nil => simp [rcs]
    | cons x R =>
      rw [rcs_cons, List.drop_succ_cons, ← ih, show (k + 1) * 3 = x.l.length + k * 3 by simp [Rn.l]; omega, List.drop_append, List.drop_eq_nil_of_le (by omega)]
      simp
theorem rcs_at (R : List Rn) (k j : Nat) (hk : k < R.length) (hj : j < 3) : (rcs R)[k * 3 + j]? = R[k].l[j]? := by
  have h := rcs_drop R k
  have e : (rcs R)[k * 3 + j]? = ((rcs R).drop (k * 3))[j]? := by rw [List.getElem?_drop]
  rw [e, h, List.drop_eq_getElem_cons hk, rcs_cons, List.getElem?_append_left (by simp [Rn.l]; exact hj)]
/-- A value that is a slice and reads as these numbers and ranges. -/
def Nl (W : World) (B : Nat) (v : Value) (R : List Rn) : Prop := ∃ A c, v = .slice A R.length c ∧ R.length ≤ c ∧ c ≤ maxLen ∧ Rd W B 3 A R.length (rcs R)
theorem Nl.nil {W : World} {B : Nat} : Nl W B (.slice none 0 0) [] := ⟨none, 0, rfl, Nat.le_refl _, Nat.zero_le _, Rd.nil none⟩
section
variable {W W' : World} {B : Nat} {v : Value} {R : List Rn} {A : Option Addr} {n c : Nat}
theorem Nl.below (h : Nl W B v R) (hb : Below B W W') : Nl W' B v R := by
  obtain ⟨A, c, e, h1, h2, h3⟩ := h; exact ⟨A, c, e, h1, h2, h3.below hb⟩
theorem Nl.len (h : Nl W B (.slice A n c) R) : n = R.length ∧ n ≤ c ∧ c ≤ maxLen := by
  obtain ⟨A', c', e, hl, hm, h⟩ := h
  injection e with e1 e2 e3
  subst e2; subst e3
  exact ⟨rfl, hl, hm⟩
theorem Nl.at_ {k : Nat} (h : Nl W B (.slice A n c) R) (hk : k < R.length) : ∃ b o, A = some ⟨b, o, none⟩ ∧ b < B ∧ W.cell? ⟨b, o + k * 3, none⟩ = some (.int .i64 R[k].n) ∧ W.cell? ⟨b, o + k * 3 + 1, none⟩ = some (.int .i64 R[k].lo) ∧ W.cell? ⟨b, o + k * 3 + 2, none⟩ = some (.int .i64 R[k].hi) := by
  obtain ⟨A', c', e, hl, hm, hr⟩ := h
  injection e with e1 e2 e3
  subst e1
  obtain ⟨b, o, e, hb, hc⟩ := hr.2 (by omega)
  have g : ∀ j u, j < 3 → R[k].l[j]? = some u → W.cell? ⟨b, o + k * 3 + j, none⟩ = some u := fun j u hj hu => by
    rw [Nat.add_assoc]; exact hc _ u (by rw [rcs_at R k j hk hj]; exact hu)
  exact ⟨b, o, e, hb, g 0 _ (by omega) rfl, g 1 _ (by omega) rfl, g 2 _ (by omega) rfl⟩
end
set_option maxHeartbeats 8000000 in
set_option maxRecDepth 20000 in
theorem sexam_any (S : Sh) (D : Sx) (A : Option Addr) (n c : Nat) (R : List Rn) (w : World) (hs : SR w w.heap.size S D) (hn : Nl w w.heap.size (.slice A n c) R) :
    Calls Tryz.prog 46 #[sv S D, .slice A n c] w (VlT w (exS S (R.all Rn.ok))) := by
  obtain ⟨rfl, hm1, hm2⟩ := hn.len
  have hL : R.length ≤ 9223372036854775807 := by unfold maxLen at hm2; omega
  have H0 := Lib.hid (SAt.start 37 hs)
  have HN := Lib.hid hn
  have HV := Lib.hid (fun p W (k : SAt w p S D W) => svalid_any S D W k.sr)
  clear hs hn hm1 hm2
  go_enter Tryz.func46, Tryz.ntmps46
  obtain ⟨t0, t1, t2, t3, t4, t5, t6, t7, tl⟩ := H0.out.s8.facts
  go_wp2_with fail
  clear t0 t1 t2 t3 t4 t5 t6 t7 tl
  obtain ⟨p, hp⟩ : ∃ p, p = w.heap.size := ⟨_, rfl⟩
  rw [← hp]
  rw [← hp] at H0
  clear hp
  generalize w.alloc (.cells #[.bool S.lv, .int .i64 S.lo, .int .i64 S.hi, .slice D.A S.cs.length D.c, .int .i64 S.hd, .int .i64 S.sz, .slice D.A2 S.l.length D.c2, .slice D.A3 S.h.length D.c3] 37) = w1 at *
  refine (HV.out _ _ H0.out).mono ?_
  rintro e w2 ⟨rfl, hb⟩
  have H1 := Lib.hid (H0.out.below hb)
  clear hb
  by_cases h1 : shV S = 0
  · have HX1 := Lib.hid h1
    rw [h1]
    clear h1
    cases hlv : S.lv with
    | false =>
      have HX := Lib.hid (exS_off (R.all Rn.ok) HX1.out hlv)
      obtain ⟨t0, t1, t2, t3, t4, t5, t6, t7, tl⟩ := H1.out.s8.facts
      rw [hlv] at t0
      clear hlv t1 t2 t3 t4 t5 t6 t7
      go_wp2
      go_ret
      exact ⟨by rw [HX.out]; rfl, H1.out.bel⟩
    | true =>
      have HXN := Lib.hid (fun hb => exS_num (S := S) (b := R.all Rn.ok) HX1.out hlv hb)
      have HXK := Lib.hid (fun hb => exS_ok (S := S) (b := R.all Rn.ok) HX1.out hlv hb)
      obtain ⟨t0, t1, t2, t3, t4, t5, t6, t7, tl⟩ := H1.out.s8.facts
      rw [hlv] at t0
      clear hlv t1 t2 t3 t4 t5 t6 t7
      go_wp2
      clear t0 tl
      have HB1 := Lib.hid H1.out.bel
      go_loopw [18] (fun i wr => ∃ k : Nat, k ≤ R.length ∧ i = .int .i64 k ∧ Below w.heap.size w wr ∧ ∀ j (hj : j < R.length), j < k → R[j].ok = true) (fun i _ => R.length - (intOf i).toNat)
      case atStart => exact ⟨0, Nat.zero_le _, rfl, HB1.out, fun j _ h => absurd h (by omega)⟩
      case round =>
        obtain ⟨k, hk, rfl, hb, hno⟩ := hrel
        have HNO := Lib.hid hno
        have HB := Lib.hid hb
        have HNK := Lib.hid (HN.out.below hb)
        clear hb hno
        by_cases hlt : k < R.length
        · obtain ⟨b, o, rfl, hb, c0, c1, c2⟩ := HNK.out.at_ hlt
          have HBA := Lib.hid (HB.out.alloc HB.out.size (.cells #[.int .i64 R[k].n, .int .i64 R[k].lo, .int .i64 R[k].hi] 71))
          cases he : R[k].ok with
          | true =>
            have HNN := Lib.hid (show ∀ j (hj : j < R.length), j < k + 1 → R[j].ok = true from fun j hj h => by
              by_cases e : j = k
              · subst e; exact he
              · exact HNO.out j hj (by omega))
            have HC := Lib.hid (fun W => swithin_any R[k].n R[k].lo R[k].hi W)
            rw [show wi R[k].n R[k].lo R[k].hi = true from he] at HC
            clear he
            generalize R[k] = X at *
            go_wp2_with fail
            refine (HC.out _).mono ?_
            rintro e w3 ⟨rfl, rfl⟩
            go_wp2
            go_roundw
            case rel => exact ⟨k + 1, by omega, by go_num, HBA.out, HNN.out⟩
            case measure => simp [intOf]; omega
          | false =>
            have HX := Lib.hid (HXN.out (by
              cases h : R.all Rn.ok with
              | false => rfl
              | true => rw [List.all_eq_true.1 h _ (List.getElem_mem hlt)] at he; cases he))
            have HC := Lib.hid (fun W => swithin_any R[k].n R[k].lo R[k].hi W)
            rw [show wi R[k].n R[k].lo R[k].hi = false from he] at HC
            clear he
            generalize R[k] = X at *
            go_wp2_with fail
            refine (HC.out _).mono ?_
            rintro e w3 ⟨rfl, rfl⟩
            go_wp2
            go_ret
            exact ⟨by rw [HX.out]; rfl, HBA.out⟩
        · have HX := Lib.hid (HXK.out (List.all_eq_true.2 fun x hx => by
            obtain ⟨j, hj, rfl⟩ := List.mem_iff_getElem.1 hx
            exact HNO.out j hj (by omega)))
          go_wp2
          go_ret
          exact ⟨by rw [HX.out]; rfl, HB.out⟩
  · have HX := Lib.hid (exS_bad (R.all Rn.ok) h1)
    have hne : (shV S != 0) = true := bne_iff_ne.2 h1
    clear h1
    generalize shV S = x at *
    go_wp2
    go_ret
    exact ⟨by rw [HX.out]; rfl, H1.out.bel⟩
end Go.Proofs.YtdilgeabcacbdaaGreat
namespace Go.Proofs.YtdilgeabcacbdaaGreat
open Go.RowKit
set_option linter.unusedVariables false

section
variable {n hd : Nat} {l : List Msg}
end
end Go.Proofs.YtdilgeabcacbdaaGreat
