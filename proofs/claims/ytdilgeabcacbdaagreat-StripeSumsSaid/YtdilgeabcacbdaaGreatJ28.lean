/- What is proved here: shardqueueref07.span and Validate by contracts; ref07.Live, Stored, Owns and shard.Owns by contracts; ref07.Counts by a contract; shard.Counts by a contract. -/
import Derived.Test.YtdilgeabcacbdaaGreatJ27
import Derived.Test.YtdilgeabcacbdaaGreatJ22
import Derived.Test.YtdilgeabcacbdaaGreatJ10
import Derived.Test.YtdilgeabcacbdaaGreatJ14
import Derived.Deep.QuietTactic
import Derived.BigQuiet
import Derived.Test.YtdilgeabcacbdaaGreatJ23
import Derived.Test.YtdilgeabcacbdaaGreatJ19
import Derived.Test.YtdilgeabcacbdaaGreatJ17
import Derived.Test.YtdilgeabcacbdaaGreatJ24
import Derived.Deep.RegionHeld3
import Derived.Test.YtdilgeabcacbdaaGreatJ20
import Derived.Test.YtdilgeabcacbdaaGreatJ12
namespace Go.Proofs.YtdilgeabcacbdaaGreat
open Go.RowKit
set_option linter.unusedVariables false

set_option maxHeartbeats 2000000 in
theorem rspan7_any (lo hi : Int) (w : World) : Calls Tryz.prog 54 #[.int .i64 lo, .int .i64 hi] w fun e w' => e = .returned (.bool (spB lo hi)) ∧ w' = w := by
  have HB : ∀ b, (spB lo hi = true ↔ b = true) → Hid (spB lo hi = b) := fun b h => Lib.hid (by cases h1 : spB lo hi <;> cases b <;> simp_all)
  by_cases h1 : 0 ≤ lo
  · by_cases h2 : lo ≤ hi
    · by_cases h3 : hi < 65536
      · have HX := HB true (by rw [spB_iff]; simp; omega)
        go_enter Tryz.func54, Tryz.ntmps54
        go_wp2
        go_ret
        exact ⟨by rw [HX.out]; rfl, rfl⟩
      · have HX := HB false (by rw [spB_iff]; simp; omega)
        go_enter Tryz.func54, Tryz.ntmps54
        go_wp2
        go_ret
        exact ⟨by rw [HX.out]; rfl, rfl⟩
    · have HX := HB false (by rw [spB_iff]; simp; omega)
      go_enter Tryz.func54, Tryz.ntmps54
      go_wp2
      go_ret
      exact ⟨by rw [HX.out]; rfl, rfl⟩
  · have HX := HB false (by rw [spB_iff]; simp; omega)
    go_enter Tryz.func54, Tryz.ntmps54
    go_wp2
    go_ret
    exact ⟨by rw [HX.out]; rfl, rfl⟩
/-- The box and the list of all messages. -/
structure VaAt (w : World) (p : Nat) (S : Sh) (D : Sx) (v : Value) (L : List Msg) (W : World) : Prop where
  sa : SAt w p S D W
  ls : Ls W W.heap.size v L
theorem VaAt.below {w W W' : World} {p : Nat} {S : Sh} {D : Sx} {v : Value} {L : List Msg} (h : VaAt w p S D v L W) (hb : Below W.heap.size W W') : VaAt w p S D v L W' := ⟨h.sa.below hb, h.ls.upz hb⟩
theorem below_dn (w : World) (n : Nat) : Below w.heap.size w (w.drewN n) := ⟨rfl, rfl, rfl, Nat.le_refl _, fun _ _ => rfl⟩
theorem rtB_yes {lo hi : Int} {l : List Msg} {k : Nat} (hk : k < l.length) (h : l[k].rt < lo ∨ hi < l[k].rt) : rtB lo hi l = true := by
  cases h0 : rtB lo hi l with
  | true => rfl
  | false => have := rtB_no.1 h0 _ (List.getElem_mem hk); omega
theorem rtB_get {lo hi : Int} {l : List Msg} (h : ∀ k (hk : k < l.length), lo ≤ l[k].rt ∧ l[k].rt ≤ hi) : rtB lo hi l = false := by
  rw [rtB_no]
  intro M hM
  obtain ⟨k, hk, rfl⟩ := List.getElem_of_mem hM
  exact h k hk
set_option maxHeartbeats 8000000 in
set_option maxRecDepth 20000 in
theorem rvalid7_any (S : Sh) (D : Sx) (w : World) (hs : SR w w.heap.size S D) :
    Calls Tryz.prog 31 #[sv S D] w (VlT w (shV S)) := by
  have H0 := Lib.hid (SAt.start 37 hs)
  have HRG := Lib.hid (fun p W (k : SAt w p S D W) => rvalid_any D.A S.cs.length D.c S.cs S.hd S.sz W k.sr.ls)
  have HTB := Lib.hid (fun p W (k : SAt w p S D W) => rtvalid_any D.A2 S.l.length D.c2 S.l D.A3 S.h.length D.c3 S.h W k.sr.el k.sr.dl)
  clear hs
  go_enter Tryz.func31, Tryz.ntmps31
  obtain ⟨t0, t1, t2, t3, t4, t5, t6, t7, tl⟩ := H0.out.s8.facts
  go_wp2_with fail
  clear t0 t1 t2 t3 t4 t5 t6 t7 tl
  obtain ⟨p, hp⟩ : ∃ p, p = w.heap.size := ⟨_, rfl⟩
  rw [← hp]
  rw [← hp] at H0
  clear hp
  generalize w.alloc (.cells #[.bool S.lv, .int .i64 S.lo, .int .i64 S.hi, .slice D.A S.cs.length D.c, .int .i64 S.hd, .int .i64 S.sz, .slice D.A2 S.l.length D.c2, .slice D.A3 S.h.length D.c3] 37) = w1 at *
  refine (HRG.out _ _ H0.out).mono ?_
  rintro e w2 ⟨rfl, hb⟩
  have H1 := Lib.hid (H0.out.below hb)
  clear hb
  by_cases h1 : rgV S.cs S.hd S.sz = 0
  · have HNU := Lib.hid (rg_nums h1)
    have HX1 := Lib.hid h1
    rw [h1]
    clear h1
    obtain ⟨t0, t1, t2, t3, t4, t5, t6, t7, tl⟩ := H1.out.s8.facts
    go_wp2_with fail
    clear t0 t1 t2 t3 t4 t5 t6 t7 tl
    refine (HTB.out _ _ H1.out).mono ?_
    rintro e w3 ⟨rfl, hb⟩
    have H2 := Lib.hid (H1.out.below hb)
    clear hb
    by_cases h2 : tbV S.l S.h = 0
    · have HNT := Lib.hid (tb_nums h2)
      have HX2 := Lib.hid h2
      rw [h2]
      clear h2
      have hwr : IntKind.i64.wrap (S.sz + (S.l.length : Int)) = S.sz + (S.l.length : Int) := IntWalk.i64_in _ (by have h1 := HNU.out.2.2; have h2 := HNT.out.1; omega)
      cases hlv : S.lv with
      | true =>
        have HX := Lib.hid (shV_li HX1.out HX2.out hlv)
        have HE1 := Lib.hid (fun h => liE_1 (S := S) h)
        have HE3 := Lib.hid (fun h g => liE_3 (S := S) h g)
        have HE12 := Lib.hid (fun h g k => liE_12 (S := S) h g k)
        have HE10 := Lib.hid (fun h g k d => liE_10 (S := S) h g k d)
        have HE0 := Lib.hid (fun h g k d => liE_0 (S := S) h g k d)
        rw [HX.out]
        generalize liE S = x at *
        have HSP := Lib.hid (fun W => rspan7_any S.lo S.hi W)
        have HAL := Lib.hid (fun W (k : SAt w p S D W) => rall_any S D W k.sr (by have := lsF_le S.cs S.hd S.sz; omega) (by have := HNT.out.1; omega))
        have hsv : (Value.agg #[.bool true, .int .i64 S.lo, .int .i64 S.hi, .slice D.A S.cs.length D.c, .int .i64 S.hd, .int .i64 S.sz, .slice D.A2 S.l.length D.c2, .slice D.A3 S.h.length D.c3]) = sv S D := by show _ = Value.agg _; rw [hlv]
        obtain ⟨t0, t1, t2, t3, t4, t5, t6, t7, tl⟩ := H2.out.s8.facts
        rw [hlv] at t0
        clear hlv
        go_wp2_with fail
        clear t0 t1 t2 t3 t4 t5 t6 t7 tl
        refine (HSP.out _).mono ?_
        rintro e w4 ⟨rfl, rfl⟩
        cases hsp : spB S.lo S.hi with
        | false =>
          have HY := Lib.hid (HE1.out hsp)
          go_wp2
          go_ret
          exact ⟨by first | (rw [HX.out, HY.out]; rfl) | (rw [HY.out]; rfl), H2.out.bel⟩
        | true =>
          have HX3 := Lib.hid hsp
          clear hsp
          obtain ⟨t0, t1, t2, t3, t4, t5, t6, t7, tl⟩ := H2.out.s8.facts
          by_cases hfu : (S.cs.length : Int) < S.sz + S.l.length
          · have HY := Lib.hid (HE3.out HX3.out hfu)
            go_wp2
            go_ret
            exact ⟨by first | (rw [HX.out, HY.out]; rfl) | (rw [HY.out]; rfl), H2.out.bel⟩
          · have HX4 := Lib.hid hfu
            have HE12 := Lib.hid (fun k => HE12.out HX3.out (Int.not_lt.1 HX4.out) k)
            have HE10 := Lib.hid (fun k d => HE10.out HX3.out (Int.not_lt.1 HX4.out) k d)
            have HE0 := Lib.hid (fun k d => HE0.out HX3.out (Int.not_lt.1 HX4.out) k d)
            clear HE1 HE3
            go_wp2_with fail
            clear t0 t1 t2 t3 t4 t5 t6 t7 tl
            refine (HAL.out _ H2.out).mono ?_
            generalize S.al = L at *
            rintro e w5 ⟨A, c, rfl, hl, hb⟩
            have HA := Lib.hid (show VaAt w p S D (.slice A L.length c) L w5 from ⟨H2.out.below hb, hl⟩)
            have hm := hl.len
            have hL : L.length ≤ 9223372036854775807 := by have := hm.2.2; unfold maxLen at this; omega
            clear hl hb hm hfu hwr
            go_wp2
            go_loopw [7] (fun i wr => ∃ k : Nat, k ≤ L.length ∧ i = .int .i64 k ∧ VaAt w p S D (.slice A L.length c) L wr ∧ ∀ j (hj : j < L.length), j < k → S.lo ≤ L[j].rt ∧ L[j].rt ≤ S.hi) (fun i _ => L.length - (intOf i).toNat)
            case atStart => exact ⟨0, Nat.zero_le _, rfl, HA.out, fun j hj h => absurd h (by omega)⟩
            case round =>
              obtain ⟨k, hk, rfl, hva, hno⟩ := hrel
              have HV := Lib.hid hva
              have HNO := Lib.hid hno
              clear hva hno HA
              by_cases hlt : k < L.length
              · obtain ⟨b, o, rfl, hbl, x0, x1, x2, x3, x4, x5, x6⟩ := HV.out.ls.at_ hlt
                have HYS := Lib.hid (rtB_yes (lo := S.lo) (hi := S.hi) hlt)
                have HKK := Lib.hid (fun (h1 : S.lo ≤ L[k].rt) (h2 : L[k].rt ≤ S.hi) j (hj : j < L.length) (h : j < k + 1) => show S.lo ≤ L[j].rt ∧ L[j].rt ≤ S.hi from by
                  by_cases e : j = k
                  · subst e; exact ⟨h1, h2⟩
                  · exact HNO.out j hj (by omega))
                clear x0 x2 x3 x4 x5 x6
                generalize L[k].rt = R at *
                obtain ⟨t0, t1, t2, t3, t4, t5, t6, t7, tl⟩ := HV.out.sa.s8.facts
                by_cases h1 : R < S.lo
                · have HY := Lib.hid (HE12.out (HYS.out (.inl h1)))
                  have hd : decide (R < S.lo) = true := decide_eq_true h1
                  go_wp2
                  go_quiet (fail)
                  go_wp2
                  go_ret
                  exact ⟨by first | (rw [HX.out, HY.out]; rfl) | (rw [HY.out]; rfl), (HV.out.below (below_dn _ _)).sa.bel⟩
                · have hd : decide (R < S.lo) = false := decide_eq_false h1
                  by_cases h2 : S.hi < R
                  · have HY := Lib.hid (HE12.out (HYS.out (.inr h2)))
                    go_wp2
                    go_quiet (fail)
                    go_wp2
                    go_ret
                    exact ⟨by first | (rw [HX.out, HY.out]; rfl) | (rw [HY.out]; rfl), (HV.out.below (below_dn _ _)).sa.bel⟩
                  · have HKJ := Lib.hid (HKK.out (by omega) (by omega))
                    go_wp2
                    go_quiet (fail)
                    go_wp2
                    go_roundw
                    case rel => exact ⟨k + 1, by omega, by go_num, HV.out.below (below_dn _ _), HKJ.out⟩
                    case measure => simp [intOf]; omega
              · have HR0 := Lib.hid (rtB_get (lo := S.lo) (hi := S.hi) (l := L) (fun j hj => HNO.out j hj (by omega)))
                have HE10 := Lib.hid (HE10.out HR0.out)
                have HE0 := Lib.hid (HE0.out HR0.out)
                clear HNO HE12 HR0
                go_wp2
                go_loopw [8] (fun i ws => ∃ k : Nat, k ≤ L.length ∧ i = .int .i64 k ∧ VaAt w p S D (.slice A L.length c) L ws ∧ ∀ j (hj : j < L.length), j < k → ixF L L[j].id = j) (fun i _ => L.length - (intOf i).toNat)
                case atStart => exact ⟨0, Nat.zero_le _, rfl, HV.out, fun j hj h => absurd h (by omega)⟩
                case round =>
                  obtain ⟨k, hk, rfl, hva, hno⟩ := hrel
                  have HV := Lib.hid hva
                  have HNO := Lib.hid hno
                  clear hva hno
                  by_cases hlt : k < L.length
                  · obtain ⟨b, o, rfl, hbl, x0, x1, x2, x3, x4, x5, x6⟩ := HV.out.ls.at_ hlt
                    have HIX := Lib.hid (fun W B (h : Ls W B (.slice (some ⟨b, o, none⟩) L.length c) L) => rindex_any (some ⟨b, o, none⟩) L.length c L L[k].id W B h)
                    have HDU := Lib.hid (ix_other hlt)
                    have HKK := Lib.hid (fun (h1 : ixF L L[k].id = (k : Int)) j (hj : j < L.length) (h : j < k + 1) => show ixF L L[j].id = (j : Int) from by
                      by_cases e : j = k
                      · subst e; exact h1
                      · exact HNO.out j hj (by omega))
                    clear x1 x2 x3 x4 x5 x6
                    generalize L[k].id = R at *
                    go_wp2_with fail
                    refine (HIX.out _ _ HV.out.ls).mono ?_
                    rintro e w6 ⟨rfl, rfl⟩
                    generalize ixF L R = Q at *
                    by_cases hq : Q = (k : Int)
                    · have hne : (Q != (k : Int)) = false := by simp [hq]
                      have HKJ := Lib.hid (HKK.out hq)
                      clear hq HKK HDU
                      go_wp2
                      go_roundw
                      case rel => exact ⟨k + 1, by omega, by go_num, HV.out, HKJ.out⟩
                      case measure => simp [intOf]; omega
                    · have hne : (Q != (k : Int)) = true := by simp [hq]
                      have HY := Lib.hid (HE10.out (dpB_yes (HDU.out hq)))
                      clear hq HKK HDU
                      go_wp2
                      go_ret
                      exact ⟨by first | (rw [HX.out, HY.out]; rfl) | (rw [HY.out]; rfl), HV.out.sa.bel⟩
                  · have HY := Lib.hid (HE0.out (dpB_no (dup_none (fun j hj => HNO.out j hj (by omega)))))
                    go_wp2
                    go_ret
                    exact ⟨by first | (rw [HX.out, HY.out]; rfl) | (rw [HY.out]; rfl), HV.out.sa.bel⟩
      | false =>
        have HX := Lib.hid (shV_of HX1.out HX2.out hlv)
        obtain ⟨t0, t1, t2, t3, t4, t5, t6, t7, tl⟩ := H2.out.s8.facts
        rw [hlv] at t0
        clear hlv
        by_cases hlo : S.lo = 0
        · have blo : (S.lo != 0) = false := by simp [hlo]
          have HLO := Lib.hid hlo
          clear hlo
          by_cases hhi : S.hi = 0
          · have bhi : (S.hi != 0) = false := by simp [hhi]
            have HHI := Lib.hid hhi
            clear hhi
            by_cases hz : 0 < S.sz + S.l.length
            · go_wp2
              go_ret
              exact ⟨by rw [HX.out, if_pos (.inr (.inr hz))]; rfl, H2.out.bel⟩
            · go_wp2
              go_ret
              exact ⟨by rw [HX.out, if_neg (by have := HLO.out; have := HHI.out; omega)]; rfl, H2.out.bel⟩
          · have bhi : (S.hi != 0) = true := by simp [hhi]
            have HHI := Lib.hid hhi
            clear hhi
            go_wp2
            go_ret
            exact ⟨by rw [HX.out, if_pos (.inr (.inl HHI.out))]; rfl, H2.out.bel⟩
        · have blo : (S.lo != 0) = true := by simp [hlo]
          have HLO := Lib.hid hlo
          clear hlo
          go_wp2
          go_ret
          exact ⟨by rw [HX.out, if_pos (.inl HLO.out)]; rfl, H2.out.bel⟩
    · have HX := Lib.hid (shV_tb HX1.out h2)
      have hne : (tbV S.l S.h != 0) = true := bne_iff_ne.2 h2
      go_wp2
      go_ret
      exact ⟨by first | (rw [HX.out]; rfl) | rfl, H2.out.bel⟩
  · have HX := Lib.hid (shV_rg h1)
    have hne : (rgV S.cs S.hd S.sz != 0) = true := bne_iff_ne.2 h1
    go_wp2
    go_ret
    exact ⟨by first | (rw [HX.out]; rfl) | rfl, H1.out.bel⟩
end Go.Proofs.YtdilgeabcacbdaaGreat
namespace Go.Proofs.YtdilgeabcacbdaaGreat
open Go.RowKit
set_option linter.unusedVariables false

set_option maxHeartbeats 4000000 in
set_option maxRecDepth 20000 in
theorem rlive7_any (S : Sh) (D : Sx) (w : World) (hs : SR w w.heap.size S D) :
    Calls Tryz.prog 36 #[sv S D] w (VlT w (exS S true)) := by
  have H0 := Lib.hid (SAt.start 37 hs)
  have HV := Lib.hid (fun p W (k : SAt w p S D W) => rvalid7_any S D W k.sr)
  clear hs
  go_enter Tryz.func36, Tryz.ntmps36
  obtain ⟨t0, t1, t2, t3, t4, t5, t6, t7, tl⟩ := H0.out.s8.facts
  go_wp2_with fail
  clear t0 t1 t2 t3 t4 t5 t6 t7 tl
  obtain ⟨p, hp⟩ : ∃ p, p = w.heap.size := ⟨_, rfl⟩
  rw [← hp]
  rw [← hp] at H0
  clear hp
  generalize w.alloc (.cells #[.bool S.lv, .int .i64 S.lo, .int .i64 S.hi, .slice D.A S.cs.length D.c, .int .i64 S.hd, .int .i64 S.sz, .slice D.A2 S.l.length D.c2, .slice D.A3 S.h.length D.c3] 37) = w1 at *
  refine (HV.out _ _ H0.out).mono ?_
  rintro e w2 ⟨rfl, hb⟩
  have H1 := Lib.hid (H0.out.below hb)
  clear hb
  by_cases h1 : shV S = 0
  · obtain ⟨t0, t1, t2, t3, t4, t5, t6, t7, tl⟩ := H1.out.s8.facts
    rw [h1]
    by_cases h2 : S.lv = true
    · have HX := Lib.hid (show exS S true = 0 from exS_ok h1 h2 rfl)
      rw [h2] at t0
      clear h1 h2
      go_wp2
      go_ret
      exact ⟨by rw [HX.out]; rfl, H1.out.bel⟩
    · have h3 : S.lv = false := by simpa using h2
      have HX := Lib.hid (show exS S true = 7 from exS_off true h1 h3)
      rw [h3] at t0
      clear h1 h2 h3
      go_wp2
      go_ret
      exact ⟨by rw [HX.out]; rfl, H1.out.bel⟩
  · have HX := Lib.hid (show exS S true = shV S from exS_bad true h1)
    have hne : (shV S != 0) = true := bne_iff_ne.2 h1
    clear h1
    generalize shV S = x at *
    go_wp2
    go_ret
    exact ⟨by rw [HX.out]; rfl, H1.out.bel⟩

end Go.Proofs.YtdilgeabcacbdaaGreat
namespace Go.Proofs.YtdilgeabcacbdaaGreat
open Go.RowKit
set_option linter.unusedVariables false

/-- Whether Counts counts, and what. -/
noncomputable def ctB (S : Sh) (ep lim : Int) : Bool := decide (exS S (wi ep 0 65536 && wi lim 1 8) = 0)
noncomputable def ctR (S : Sh) (ep lim : Int) : Int := if ctB S ep lim = true then (((lsF S.cs S.hd S.sz).countP (fun M => !puF M ep && !spF M lim) : Nat) : Int) else 0
noncomputable def ctL (S : Sh) (ep lim : Int) : Int := if ctB S ep lim = true then (((S.l.map Le.m).countP (fun M => !puF M ep) : Nat) : Int) else 0
theorem ct_no {S : Sh} {ep lim : Int} (h : ctB S ep lim = false) : ctR S ep lim = 0 ∧ ctL S ep lim = 0 := by unfold ctR ctL; rw [h]; exact ⟨rfl, rfl⟩
theorem ct_yes {S : Sh} {ep lim : Int} (h : ctB S ep lim = true) : ctR S ep lim = (((lsF S.cs S.hd S.sz).countP (fun M => !puF M ep && !spF M lim) : Nat) : Int) ∧ ctL S ep lim = (((S.l.map Le.m).countP (fun M => !puF M ep) : Nat) : Int) := by unfold ctR ctL; rw [h]; exact ⟨rfl, rfl⟩
theorem cnt_succ {p : Msg → Bool} {l : List Msg} {k : Nat} (h : k < l.length) : (l.take (k + 1)).countP p = (l.take k).countP p + (if p l[k] = true then 1 else 0) := by
  rw [← List.take_append_getElem h, List.countP_append]; simp [List.countP_cons]
theorem cnt_le (p : Msg → Bool) (l : List Msg) (k : Nat) : (l.take k).countP p ≤ l.length := Nat.le_trans (List.countP_le_length ..) (by simp; omega)
/-- A list of messages beside the shard. -/
structure CtAt (w : World) (p : Nat) (S : Sh) (D : Sx) (v v' : Value) (L L' : List Msg) (W : World) : Prop where
  sa : SAt w p S D W
  ls : Ls W W.heap.size v L
  ls' : Ls W W.heap.size v' L'
theorem CtAt.below {w W W' : World} {p : Nat} {S : Sh} {D : Sx} {v v' : Value} {L L' : List Msg} (h : CtAt w p S D v v' L L' W) (hb : Below W.heap.size W W') : CtAt w p S D v v' L L' W' := ⟨h.sa.below hb, h.ls.upz hb, h.ls'.upz hb⟩
set_option maxHeartbeats 8000000 in
set_option maxRecDepth 20000 in
theorem rcounts7_any (S : Sh) (D : Sx) (ep lim : Int) (w : World) (hs : SR w w.heap.size S D) :
    Calls Tryz.prog 23 #[sv S D, .int .i64 ep, .int .i64 lim] w fun e w' => e = .returned (.tuple #[.int .i64 (ctR S ep lim), .int .i64 (ctL S ep lim)]) ∧ Below w.heap.size w w' := by
  have H0 := Lib.hid (SAt.start 37 hs)
  have HV := Lib.hid (fun p W (k : SAt w p S D W) => rlive7_any S D W k.sr)
  have HEP := Lib.hid (fun W => repochs_any ep W)
  have HLI := Lib.hid (fun W => rlimits_any lim W)
  clear hs
  go_enter Tryz.func23, Tryz.ntmps23
  obtain ⟨t0, t1, t2, t3, t4, t5, t6, t7, tl⟩ := H0.out.s8.facts
  go_wp2_with fail
  clear t0 t1 t2 t3 t4 t5 t6 t7 tl
  obtain ⟨p, hp⟩ : ∃ p, p = w.heap.size := ⟨_, rfl⟩
  rw [← hp]
  rw [← hp] at H0
  clear hp
  generalize w.alloc (.cells #[.bool S.lv, .int .i64 S.lo, .int .i64 S.hi, .slice D.A S.cs.length D.c, .int .i64 S.hd, .int .i64 S.sz, .slice D.A2 S.l.length D.c2, .slice D.A3 S.h.length D.c3] 37) = w1 at *
  refine (HV.out _ _ H0.out).mono ?_
  rintro e w2 ⟨rfl, hb⟩
  have H1 := Lib.hid (H0.out.below hb)
  clear hb
  by_cases h1 : exS S true = 0
  · obtain ⟨hv, hlv, -⟩ := exS_zero h1
    rw [h1]
    cases hb1 : wi ep 0 65536 with
    | false =>
      have HX := Lib.hid (ct_no (S := S) (ep := ep) (lim := lim) (by unfold ctB; rw [hb1, exS_num (b := false && wi lim 1 8) hv hlv rfl]; rfl))
      rw [hb1] at HEP
      clear h1 hv hlv hb1
      go_wp2_with fail
      refine (HEP.out _).mono ?_
      rintro e w3 ⟨rfl, rfl⟩
      go_wp2
      exact bodyPost_ret (v := .tuple #[.int .i64 0, .int .i64 0]) (by simp only [results, Tryz.results23]; go_simp <;> rfl) rfl ⟨by rw [HX.out.1, HX.out.2], H1.out.bel⟩
    | true =>
      cases hb2 : wi lim 1 8 with
      | false =>
        have HX := Lib.hid (ct_no (S := S) (ep := ep) (lim := lim) (by unfold ctB; rw [hb1, hb2, exS_num (b := true && false) hv hlv rfl]; rfl))
        rw [hb1] at HEP
        rw [hb2] at HLI
        clear h1 hv hlv hb1 hb2
        go_wp2_with fail
        refine (HEP.out _).mono ?_
        rintro e w3 ⟨rfl, rfl⟩
        go_wp2_with fail
        refine (HLI.out _).mono ?_
        rintro e w3 ⟨rfl, rfl⟩
        go_wp2
        exact bodyPost_ret (v := .tuple #[.int .i64 0, .int .i64 0]) (by simp only [results, Tryz.results23]; go_simp <;> rfl) rfl ⟨by rw [HX.out.1, HX.out.2], H1.out.bel⟩
      | true =>
        have HX := Lib.hid (ct_yes (S := S) (ep := ep) (lim := lim) (by unfold ctB; rw [hb1, hb2, exS_ok (b := true && true) hv hlv rfl]; rfl))
        rw [hb1] at HEP
        rw [hb2] at HLI
        have hn := ex_nums h1
        have HRE := Lib.hid (fun W (q : SAt w p S D W) => rready_any S D W q.sr)
        have HLE := Lib.hid (fun W (q : SAt w p S D W) => rleased_any S D W q.sr (by omega))
        have HN1 := Lib.hid (show (lsF S.cs S.hd S.sz).length ≤ 1000 from Nat.le_trans (lsF_le _ _ _) (by omega))
        have HN2 := Lib.hid (show (S.l.map Le.m).length ≤ 1000 by simp; omega)
        generalize lsF S.cs S.hd S.sz = L at *
        generalize S.l.map Le.m = L' at *
        clear h1 hv hlv hb1 hb2 hn
        go_wp2_with fail
        refine (HEP.out _).mono ?_
        rintro e w3 ⟨rfl, rfl⟩
        go_wp2_with fail
        refine (HLI.out _).mono ?_
        rintro e w3 ⟨rfl, rfl⟩
        go_wp2_with fail
        have HK0 := Lib.hid H1.out.k8
        have HD := Lib.hid H1.out.drew
        have HK1 := Lib.hid HD.out.k8
        go_region_held3 (fun W => K8 p S D W)
          (first | with_reducible exact HK1.out | with_reducible exact HK2.out | with_reducible exact HK3.out | with_reducible exact HK0.out)
          (first
          | (go_at_call 39; (with_reducible refine (HRE.out _ HD.out).mono ?_); rintro e w4 ⟨A4, c4, rfl, hl, hb⟩; have H4 := Lib.hid (HD.out.below hb); have HK2 := Lib.hid H4.out.k8; have HL4 := Lib.hid hl; clear hl hb)
          | (go_at_call 40; (with_reducible refine (HLE.out _ H4.out).mono ?_); rintro e w5 ⟨A5, c5, rfl, hl, hb⟩; have HC := Lib.hid (CtAt.mk (H4.out.below hb) (HL4.out.upz hb) hl); have HK3 := Lib.hid HC.out.sa.k8; clear hl hb))
        clear HK0 HD HK1 HK2 HK3 H4 HL4 H1 H0 HV HEP HLI HRE HLE
        go_wp2_with fail
        have HPU := Lib.hid (fun M W => rpurged_any M ep W)
        have HSP := Lib.hid (fun M W => rspent_any M lim W)
        have HF1 := Lib.hid (fun M => show (fun M => !puF M ep && !spF M lim) M = (!puF M ep && !spF M lim) from rfl)
        have HF2 := Lib.hid (fun M => show (fun M => !puF M ep) M = (!puF M ep) from rfl)
        generalize (fun M => !puF M ep && !spF M lim) = f1 at *
        generalize (fun M => !puF M ep) = f2 at *
        have hl1 : L.length ≤ 9223372036854775807 := by have := HN1.out; omega
        have hl2 : L'.length ≤ 9223372036854775807 := by have := HN2.out; omega
        have HT1 := Lib.hid (show L.countP f1 = (L.take L.length).countP f1 by rw [List.take_length])
        have HT2 := Lib.hid (show L'.countP f2 = (L'.take L'.length).countP f2 by rw [List.take_length])
        go_loopw [8, 12] (fun n i wr => ∃ k : Nat, k ≤ L.length ∧ i = .int .i64 k ∧ n = .int .i64 (((L.take k).countP f1 : Nat) : Int) ∧ Hid (CtAt w p S D (.slice A4 L.length c4) (.slice A5 L'.length c5) L L' wr)) (fun _ i _ => L.length - (intOf i).toNat)
        case atStart => exact ⟨0, Nat.zero_le _, rfl, rfl, HC⟩
        case round =>
          obtain ⟨k, hk, rfl, rfl, H6⟩ := hrel
          clear HC
          by_cases hlt : k < L.length
          · have HSU := Lib.hid (cnt_succ (p := f1) hlt)
            have hcl := Nat.le_trans (cnt_le f1 L k) HN1.out
            have HAT := Lib.hid (fun W (q : CtAt w p S D (.slice A4 L.length c4) (.slice A5 L'.length c5) L L' W) => q.ls.at_ hlt)
            obtain ⟨b, o, rfl, hbl, x0, x1, x2, x3, x4, x5, x6⟩ := H6.out.ls.at_ hlt
            have HFX := Lib.hid (HF1.out L[k])
            generalize hmm : (L.take (k + 1)).countP f1 = m' at *
            have HMM := Lib.hid hmm
            clear hmm
            generalize (L.take k).countP f1 = m at *
            generalize L[k] = X at *
            have hw : IntKind.i64.wrap ((m : Int) + 1) = (m : Int) + 1 := IntWalk.i64_in _ (by omega)
            have HP := Lib.hid (HPU.out X)
            have HS := Lib.hid (HSP.out X)
            cases hp : puF X ep with
            | true =>
              rw [hp] at HP
              have HM := Lib.hid (show m' = m by rw [HSU.out, HFX.out, hp]; simp)
              clear hp
              go_wp2_with fail
              refine (HP.out _).mono ?_
              rintro e w6 ⟨rfl, hb⟩
              have H7 := Lib.hid (H6.out.below hb)
              clear hb x0 x1 x2 x3 x4 x5 x6 hbl
              go_wp2
              go_roundw
              case rel => exact ⟨k + 1, by omega, by go_num, by rw [HMM.out, HM.out], H7⟩
              case measure => simp [intOf]; omega
            | false =>
              rw [hp] at HP
              go_wp2_with fail
              refine (HP.out _).mono ?_
              rintro e w6 ⟨rfl, hb⟩
              have H7 := Lib.hid (H6.out.below hb)
              clear hb x0 x1 x2 x3 x4 x5 x6 hbl
              obtain ⟨b', o', hbo, hbl, x0, x1, x2, x3, x4, x5, x6⟩ := HAT.out _ H7.out
              injection hbo with hbo
              injection hbo with hb1 ho1
              subst hb1; subst ho1
              cases hq : spF X lim with
              | true =>
                rw [hq] at HS
                have HM := Lib.hid (show m' = m by rw [HSU.out, HFX.out, hp, hq]; simp)
                clear hp hq
                go_wp2_with fail
                refine (HS.out _).mono ?_
                rintro e w7 ⟨rfl, hb⟩
                have H8 := Lib.hid (H7.out.below hb)
                clear hb x0 x1 x2 x3 x4 x5 x6 hbl
                go_wp2
                go_roundw
                case rel => exact ⟨k + 1, by omega, by go_num, by rw [HMM.out, HM.out], H8⟩
                case measure => simp [intOf]; omega
              | false =>
                rw [hq] at HS
                have HM := Lib.hid (show m' = m + 1 by rw [HSU.out, HFX.out, hp, hq]; simp)
                clear hp hq
                go_wp2_with fail
                refine (HS.out _).mono ?_
                rintro e w7 ⟨rfl, hb⟩
                have H8 := Lib.hid (H7.out.below hb)
                clear hb x0 x1 x2 x3 x4 x5 x6 hbl
                go_wp2
                go_roundw
                case rel => exact ⟨k + 1, by omega, by go_num, by rw [HMM.out, HM.out]; go_num, H8⟩
                case measure => simp [intOf]; omega
          · obtain rfl : k = L.length := by omega
            rw [← HT1.out]
            generalize L.countP f1 = m1 at *
            go_wp2
            go_loopw [9, 13] (fun n i wr => ∃ k : Nat, k ≤ L'.length ∧ i = .int .i64 k ∧ n = .int .i64 (((L'.take k).countP f2 : Nat) : Int) ∧ Hid (CtAt w p S D (.slice A4 L.length c4) (.slice A5 L'.length c5) L L' wr)) (fun _ i _ => L'.length - (intOf i).toNat)
            case atStart => exact ⟨0, Nat.zero_le _, rfl, rfl, H6⟩
            case round =>
              obtain ⟨k, hk', rfl, rfl, H6⟩ := hrel
              by_cases hlt' : k < L'.length
              · have HSU := Lib.hid (cnt_succ (p := f2) hlt')
                have hcl := Nat.le_trans (cnt_le f2 L' k) HN2.out
                obtain ⟨b, o, rfl, hbl, x0, x1, x2, x3, x4, x5, x6⟩ := H6.out.ls'.at_ hlt'
                have HFX := Lib.hid (HF2.out L'[k])
                generalize hmm : (L'.take (k + 1)).countP f2 = m' at *
                have HMM := Lib.hid hmm
                clear hmm
                generalize (L'.take k).countP f2 = m at *
                generalize L'[k] = X at *
                have hw : IntKind.i64.wrap ((m : Int) + 1) = (m : Int) + 1 := IntWalk.i64_in _ (by omega)
                have HP := Lib.hid (HPU.out X)
                cases hp : puF X ep with
                | true =>
                  rw [hp] at HP
                  have HM := Lib.hid (show m' = m by rw [HSU.out, HFX.out, hp]; simp)
                  clear hp
                  go_wp2_with fail
                  refine (HP.out _).mono ?_
                  rintro e w6 ⟨rfl, hb⟩
                  have H7 := Lib.hid (H6.out.below hb)
                  clear hb x0 x1 x2 x3 x4 x5 x6 hbl
                  go_wp2
                  go_roundw
                  case rel => exact ⟨k + 1, by omega, by go_num, by rw [HMM.out, HM.out], H7⟩
                  case measure => simp [intOf]; omega
                | false =>
                  rw [hp] at HP
                  have HM := Lib.hid (show m' = m + 1 by rw [HSU.out, HFX.out, hp]; simp)
                  clear hp
                  go_wp2_with fail
                  refine (HP.out _).mono ?_
                  rintro e w6 ⟨rfl, hb⟩
                  have H7 := Lib.hid (H6.out.below hb)
                  clear hb x0 x1 x2 x3 x4 x5 x6 hbl
                  go_wp2
                  go_roundw
                  case rel => exact ⟨k + 1, by omega, by go_num, by rw [HMM.out, HM.out]; go_num, H7⟩
                  case measure => simp [intOf]; omega
              · obtain rfl : k = L'.length := by omega
                rw [← HT2.out]
                generalize L'.countP f2 = m2 at *
                go_wp2
                exact bodyPost_ret (v := .tuple #[.int .i64 m1, .int .i64 m2]) (by simp only [results, Tryz.results23]; go_simp <;> rfl) rfl ⟨by rw [HX.out.1, HX.out.2], H6.out.sa.bel⟩
  · have HX := Lib.hid (ct_no (S := S) (ep := ep) (lim := lim) (by
      unfold ctB
      exact decide_eq_false (fun e => h1 (by obtain ⟨a, b, -⟩ := exS_zero e; exact exS_ok a b rfl))))
    have hne : (exS S true != 0) = true := bne_iff_ne.2 h1
    clear h1
    generalize exS S true = x at *
    go_wp2
    exact bodyPost_ret (v := .tuple #[.int .i64 0, .int .i64 0]) (by simp only [results, Tryz.results23]; go_simp <;> rfl) rfl ⟨by rw [HX.out.1, HX.out.2], H1.out.bel⟩
end Go.Proofs.YtdilgeabcacbdaaGreat
namespace Go.Proofs.YtdilgeabcacbdaaGreat
open Go.RowKit
set_option linter.unusedVariables false

set_option maxHeartbeats 8000000 in
set_option maxRecDepth 20000 in
theorem scounts_any (S : Sh) (D : Sx) (ep lim : Int) (w : World) (hs : SR w w.heap.size S D) :
    Calls Tryz.prog 30 #[sv S D, .int .i64 ep, .int .i64 lim] w fun e w' => e = .returned (.tuple #[.int .i64 (ctR S ep lim), .int .i64 (ctL S ep lim)]) ∧ Below w.heap.size w w' := by
  have H0 := Lib.hid (SAt.start 37 hs)
  have HV := Lib.hid (fun A c p W (k : SAt w p S D W) (hn : Nl W W.heap.size (.slice A 2 c) [⟨ep, 0, 65536⟩, ⟨lim, 1, 8⟩]) => sexam_any S D A 2 c [⟨ep, 0, 65536⟩, ⟨lim, 1, 8⟩] W k.sr hn)
  have HE : ([⟨ep, 0, 65536⟩, ⟨lim, 1, 8⟩] : List Rn).all Rn.ok = (wi ep 0 65536 && wi lim 1 8) := by simp [Rn.ok]
  rw [HE] at HV
  clear HE hs
  have HP := Lib.hid (fun W => aepoch_any ep W)
  have HT := Lib.hid (fun W => alimit_any lim W)
  go_enter Tryz.func30, Tryz.ntmps30
  obtain ⟨t0, t1, t2, t3, t4, t5, t6, t7, tl⟩ := H0.out.s8.facts
  go_upto_region 1 with (fail)
  clear t0 t1 t2 t3 t4 t5 t6 t7 tl
  obtain ⟨p, hp⟩ : ∃ p, p = w.heap.size := ⟨_, rfl⟩
  rw [← hp]
  rw [← hp] at H0
  clear hp
  generalize w.alloc (.cells #[.bool S.lv, .int .i64 S.lo, .int .i64 S.hi, .slice D.A S.cs.length D.c, .int .i64 S.hd, .int .i64 S.sz, .slice D.A2 S.l.length D.c2, .slice D.A3 S.h.length D.c3] 37) = w1 at *
  have HD := Lib.hid H0.out.drew
  have HT0 := Lib.hid (show K8 p S D w1.drew from HD.out.k8)
  go_region_held3 (fun W => K8 p S D W)
    (first | with_reducible exact HT0.out | with_reducible exact HT1.out | with_reducible exact HT2.out | with_reducible exact HT3.out | with_reducible exact HT4.out)
    (first
    | (go_at_call 47; (with_reducible refine (HP.out _).mono ?_); rintro e w3 ⟨rfl, hb⟩; have HA1 := Lib.hid (HD.out.below hb); have HT1 := Lib.hid HA1.out.k8; clear hb)
    | (go_at_call 48; (with_reducible refine (HT.out _).mono ?_); rintro e w4 ⟨rfl, hb⟩; have HA2 := Lib.hid (HA1.out.below hb); have HT2 := Lib.hid HA2.out.k8; have HA3 := Lib.hid (HA2.out.alloc (.cells #[.int .i64 ep, .int .i64 0, .int .i64 65536, .int .i64 lim, .int .i64 1, .int .i64 8] 71)); have HT3 := Lib.hid HA3.out.k8; have HNL := Lib.hid (nl_two w4 ⟨ep, 0, 65536⟩ ⟨lim, 1, 8⟩ 71); clear hb)
    | (go_at_call 46; (with_reducible refine (HV.out _ _ _ _ HA3.out ?_).mono ?_); (have := HNL.out; simpa using this); rintro e w5 ⟨rfl, hb⟩; have HA4 := Lib.hid (HA3.out.below hb); have HT4 := Lib.hid HA4.out.k8; clear hb))
  clear H0 HD HT0 HA1 HT1 HA2 HT2 HA3 HT3 HNL HT4 HT HP HV
  by_cases h1 : exS S (wi ep 0 65536 && wi lim 1 8) = 0
  · have HX := Lib.hid (ct_yes (S := S) (ep := ep) (lim := lim) (by unfold ctB; rw [h1]; rfl))
    have hn := ex_nums (show exS S true = 0 by obtain ⟨a, b, -⟩ := exS_zero h1; exact exS_ok a b rfl)
    rw [h1]
    have HRE := Lib.hid (fun W (q : SAt w p S D W) => glist_any D.A S.cs.length D.c S.cs S.hd S.sz W q.sr.ls)
    have HN1 := Lib.hid (show (lsF S.cs S.hd S.sz).length ≤ 1000 from Nat.le_trans (lsF_le _ _ _) (by omega))
    have HN2 := Lib.hid (show S.l.length ≤ 1000 by omega)
    generalize lsF S.cs S.hd S.sz = L at *
    clear h1 hn
    obtain ⟨t0, t1, t2, t3, t4, t5, t6, t7, tl⟩ := HA4.out.s8.facts
    go_wp2_with fail
    clear t0 t1 t2 t3 t4 t5 t6 t7 tl
    refine (HRE.out _ HA4.out).mono ?_
    rintro e w6 ⟨v4, rfl, -, hl, hb⟩
    obtain ⟨A4, c4, rfl, _, _⟩ := hl.form
    have HC := Lib.hid (CtAt.mk (HA4.out.below hb) hl Ls.nil)
    clear hl hb HA4
    obtain ⟨t0, t1, t2, t3, t4, t5, t6, t7, tl⟩ := HC.out.sa.s8.facts
    go_wp2
    clear t0 t1 t2 t3 t4 t5 t6 t7 tl HRE
    have HPU := Lib.hid (fun M W => purged_any M ep W)
    have HSP := Lib.hid (fun M W => spent_any M lim W)
    have HF1 := Lib.hid (fun M => show (fun M => !puF M ep && !spF M lim) M = (!puF M ep && !spF M lim) from rfl)
    have HF2 := Lib.hid (fun M => show (fun M => !puF M ep) M = (!puF M ep) from rfl)
    generalize (fun M => !puF M ep && !spF M lim) = f1 at *
    generalize (fun M => !puF M ep) = f2 at *
    have hl1 : L.length ≤ 9223372036854775807 := by have := HN1.out; omega
    have HT1 := Lib.hid (show L.countP f1 = (L.take L.length).countP f1 by rw [List.take_length])
    go_loopw [6, 24] (fun n i wr => ∃ k : Nat, k ≤ L.length ∧ i = .int .i64 k ∧ n = .int .i64 (((L.take k).countP f1 : Nat) : Int) ∧ Hid (CtAt w p S D (.slice A4 L.length c4) (.slice none 0 0) L [] wr)) (fun _ i _ => L.length - (intOf i).toNat)
    case atStart => exact ⟨0, Nat.zero_le _, rfl, rfl, HC⟩
    case round =>
      obtain ⟨k, hk, rfl, rfl, H6⟩ := hrel
      clear HC
      by_cases hlt : k < L.length
      · have HSU := Lib.hid (cnt_succ (p := f1) hlt)
        have hcl := Nat.le_trans (cnt_le f1 L k) HN1.out
        obtain ⟨b, o, rfl, hbl, x0, x1, x2, x3, x4, x5, x6⟩ := H6.out.ls.at_ hlt
        have HFX := Lib.hid (HF1.out L[k])
        generalize hmm : (L.take (k + 1)).countP f1 = m' at *
        have HMM := Lib.hid hmm
        clear hmm
        generalize (L.take k).countP f1 = m at *
        generalize L[k] = X at *
        have hw : IntKind.i64.wrap ((m : Int) + 1) = (m : Int) + 1 := IntWalk.i64_in _ (by omega)
        have HP := Lib.hid (HPU.out X)
        have HS := Lib.hid (HSP.out X)
        have HPA := Lib.hid (H6.out.below ((Below.refl _ _).alloc (Nat.le_refl _) (.cells #[.int .i64 X.id, .int .i64 X.rt, .int .i64 X.ep, .int .i64 X.ct, .int .i64 X.gn, .int .i64 X.st, .string X.bd] 66)))
        have HMX := Lib.hid (MBx.start wr X 66)
        cases hp : puF X ep with
        | true =>
          rw [hp] at HP
          have HM := Lib.hid (show m' = m by rw [HSU.out, HFX.out, hp]; simp)
          clear hp
          go_wp2_with fail
          refine (HP.out _).mono ?_
          rintro e w6 ⟨rfl, hb⟩
          have H7 := Lib.hid (HPA.out.below hb)
          clear hb x0 x1 x2 x3 x4 x5 x6 hbl
          go_wp2
          go_roundw
          case rel => exact ⟨k + 1, by omega, by go_num, by rw [HMM.out, HM.out], H7⟩
          case measure => simp [intOf]; omega
        | false =>
          rw [hp] at HP
          go_wp2_with fail
          refine (HP.out _).mono ?_
          rintro e w6 ⟨rfl, hb⟩
          have H7 := Lib.hid (HPA.out.below hb)
          have HM7 := Lib.hid (HMX.out.up hb)
          clear hb x0 x1 x2 x3 x4 x5 x6 hbl
          obtain ⟨⟨x0, x1, x2, x3, x4, x5, x6⟩, -, hbl⟩ := HM7.out
          generalize wr.heap.size = q at *
          cases hq : spF X lim with
          | true =>
            rw [hq] at HS
            have HM := Lib.hid (show m' = m by rw [HSU.out, HFX.out, hp, hq]; simp)
            clear hp hq
            go_wp2_with fail
            refine (HS.out _).mono ?_
            rintro e w7 ⟨rfl, hb⟩
            have H8 := Lib.hid (H7.out.below hb)
            clear hb x0 x1 x2 x3 x4 x5 x6 hbl
            go_wp2
            go_roundw
            case rel => exact ⟨k + 1, by omega, by go_num, by rw [HMM.out, HM.out], H8⟩
            case measure => simp [intOf]; omega
          | false =>
            rw [hq] at HS
            have HM := Lib.hid (show m' = m + 1 by rw [HSU.out, HFX.out, hp, hq]; simp)
            clear hp hq
            go_wp2_with fail
            refine (HS.out _).mono ?_
            rintro e w7 ⟨rfl, hb⟩
            have H8 := Lib.hid (H7.out.below hb)
            clear hb x0 x1 x2 x3 x4 x5 x6 hbl
            go_wp2
            go_roundw
            case rel => exact ⟨k + 1, by omega, by go_num, by rw [HMM.out, HM.out]; go_num, H8⟩
            case measure => simp [intOf]; omega
      · obtain rfl : k = L.length := by omega
        rw [← HT1.out]
        generalize L.countP f1 = m1 at *
        have HE := Lib.hid H6.out.sa.sr.el
        obtain ⟨t0, t1, t2, t3, t4, t5, t6, t7, tl⟩ := H6.out.sa.s8.facts
        generalize D.A2 = A2 at *
        generalize D.c2 = c2 at *
        go_wp2
        clear t0 t1 t2 t3 t4 t5 t6 t7 tl HSP HF1
        have HQ := Lib.hid (And.intro H6.out.sa HE.out)
        have hl2 : S.l.length ≤ 9223372036854775807 := by have := HN2.out; omega
        have HT2 := Lib.hid (show (S.l.map Le.m).countP f2 = ((S.l.map Le.m).take S.l.length).countP f2 by rw [show S.l.length = (S.l.map Le.m).length by simp, List.take_length])
        go_loopw [7, 45] (fun n i wr => ∃ k : Nat, k ≤ S.l.length ∧ i = .int .i64 k ∧ n = .int .i64 ((((S.l.map Le.m).take k).countP f2 : Nat) : Int) ∧ Hid (SAt w p S D wr ∧ El wr wr.heap.size (.slice A2 S.l.length c2) S.l)) (fun _ i _ => S.l.length - (intOf i).toNat)
        case atStart => exact ⟨0, Nat.zero_le _, rfl, rfl, HQ⟩
        case round =>
          clear H6 HE HQ
          obtain ⟨k, hk', rfl, rfl, H6⟩ := hrel
          by_cases hlt' : k < S.l.length
          · have hlm : k < (S.l.map Le.m).length := by simpa using hlt'
            have HSU := Lib.hid (cnt_succ (p := f2) hlm)
            have hcl : ((S.l.map Le.m).take k).countP f2 ≤ 1000 := Nat.le_trans (cnt_le f2 _ k) (by simpa using HN2.out)
            obtain ⟨b, o, rfl, hbl, x0, x1, x2, x3, x4, x5, x6, x7⟩ := H6.out.2.at_ hlt'
            have HFX := Lib.hid (HF2.out S.l[k].m)
            have HGM := Lib.hid (show (S.l.map Le.m)[k]'hlm = S.l[k].m by simp)
            generalize hmm : ((S.l.map Le.m).take (k + 1)).countP f2 = m' at *
            have HMM := Lib.hid hmm
            clear hmm
            generalize ((S.l.map Le.m).take k).countP f2 = m at *
            generalize (S.l.map Le.m)[k]'hlm = Y at *
            generalize S.l[k] = X at *
            have hw : IntKind.i64.wrap ((m : Int) + 1) = (m : Int) + 1 := IntWalk.i64_in _ (by omega)
            have HP := Lib.hid (HPU.out X.m)
            have HBA := Lib.hid ((Below.refl wr.heap.size wr).alloc (Nat.le_refl _) (.cells #[.int .i64 X.m.id, .int .i64 X.m.rt, .int .i64 X.m.ep, .int .i64 X.m.ct, .int .i64 X.m.gn, .int .i64 X.m.st, .string X.m.bd, .int .i64 X.dl] 75))
            cases hp : puF X.m ep with
            | true =>
              rw [hp] at HP
              have HM := Lib.hid (show m' = m by rw [HSU.out, HGM.out, HFX.out, hp]; simp)
              clear hp
              go_wp2_with fail
              refine (HP.out _).mono ?_
              rintro e w6 ⟨rfl, hb⟩
              have HBB := HBA.out.trans (hb.mono HBA.out.size)
              have H7 := Lib.hid (And.intro (H6.out.1.below HBB) ((H6.out.2.below HBB).more HBB.size))
              clear hb x0 x1 x2 x3 x4 x5 x6 x7 hbl HBB
              go_wp2
              go_roundw
              case rel => exact ⟨k + 1, by omega, by go_num, by rw [HMM.out, HM.out], H7⟩
              case measure => simp [intOf]; omega
            | false =>
              rw [hp] at HP
              have HM := Lib.hid (show m' = m + 1 by rw [HSU.out, HGM.out, HFX.out, hp]; simp)
              clear hp
              go_wp2_with fail
              refine (HP.out _).mono ?_
              rintro e w6 ⟨rfl, hb⟩
              have HBB := HBA.out.trans (hb.mono HBA.out.size)
              have H7 := Lib.hid (And.intro (H6.out.1.below HBB) ((H6.out.2.below HBB).more HBB.size))
              clear hb x0 x1 x2 x3 x4 x5 x6 x7 hbl HBB
              go_wp2
              go_roundw
              case rel => exact ⟨k + 1, by omega, by go_num, by rw [HMM.out, HM.out]; go_num, H7⟩
              case measure => simp [intOf]; omega
          · obtain rfl : k = S.l.length := by omega
            rw [← HT2.out]
            generalize (S.l.map Le.m).countP f2 = m2 at *
            go_wp2
            exact bodyPost_ret (v := .tuple #[.int .i64 m1, .int .i64 m2]) (by simp only [results, Tryz.results30]; go_simp <;> rfl) rfl ⟨by rw [HX.out.1, HX.out.2], H6.out.1.bel⟩
  · have HX := Lib.hid (ct_no (S := S) (ep := ep) (lim := lim) (by unfold ctB; exact decide_eq_false h1))
    have hne : (exS S (wi ep 0 65536 && wi lim 1 8) != 0) = true := bne_iff_ne.2 h1
    clear h1
    generalize exS S (wi ep 0 65536 && wi lim 1 8) = x at *
    go_wp2
    exact bodyPost_ret (v := .tuple #[.int .i64 0, .int .i64 0]) (by simp only [results, Tryz.results30]; go_simp <;> rfl) rfl ⟨by rw [HX.out.1, HX.out.2], HA4.out.bel⟩
end Go.Proofs.YtdilgeabcacbdaaGreat
