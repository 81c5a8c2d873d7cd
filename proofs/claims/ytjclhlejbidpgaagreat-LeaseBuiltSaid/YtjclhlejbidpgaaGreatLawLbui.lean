/- What is proved here: shardqueuelaw06.LeaseBuilt returns true for every input and leaves its argument as it was. No condition. -/
import Derived.Test.YtjclhlejbidpgaaGreatJ31
import Derived.Test.YtjclhlejbidpgaaGreatJ33
import Derived.Test.YtjclhlejbidpgaaGreatJ35
import Derived.Deep.DeepCutAuto
import Derived.ProofKit
import Derived.OpenShut
import Derived.ShutString
import Derived.ChangeOld
namespace Go.Proofs.YtjclhlejbidpgaaGreat
open Go.RowKit
set_option linter.unusedVariables false

set_option maxHeartbeats 16000000 in
set_option maxRecDepth 20000 in
theorem LeaseBuilt_walk (w : World) (a0 : Option Addr) (l0 c0 : Nat) (zs : List Int) (hz : Ns w w.heap.size (.slice a0 l0 c0) zs) :
    Calls Tryz.prog 4 #[.slice a0 l0 c0] w fun e w' => e = .returned (.bool true) ∧ Below w.heap.size w w' := by
  have HN := Lib.hid (new_src a0 l0 c0 zs w hz)
  obtain ⟨i0, hi0, hz0⟩ := Option.map_eq_some_iff.1 info_lease
  obtain ⟨i1, hi1, hz1⟩ := Option.map_eq_some_iff.1 info_due
  simp only [Prod.mk.injEq] at hz0 hz1
  have HI := Lib.hid hi0
  have HZ := Lib.hid hz0
  have HI1 := Lib.hid hi1
  have HZ1 := Lib.hid hz1
  clear hz hi0 hz0 hi1 hz1
  go_enter Tryz.func4, Tryz.ntmps4
  go_wp2_with fail
  refine HN.out.mono ?_
  rintro e w1 ⟨g, rfl, hs, hb⟩
  have HW1 := Lib.hid hb
  have HS1 := Lib.hid hs
  have HBG := Lib.hid (show w.heap.size ≤ g from hs.1)
  have HG1 := Lib.hid hs.2.1
  clear hb hs
  go_wp2_with fail
  refine (table_any w.heap.size g _ HS1.out 12 1 0 65535 (by omega) (by omega) (by omega) (by omega)).mono ?_
  rintro e w2 ⟨A, c, A2, c2, l, h, rfl, ok, n1, n2, hl, hh, hs, hg⟩
  have HOK := Lib.hid ok
  have hl12 : (l.length : Int) ≤ 12 := by have := HOK.out.len; omega
  have K3 := Lib.hid (show BtAt w g w2.heap.size w2.heap.size A l.length c l A2 h.length c2 h (w2.alloc (.cells #[.slice A l.length c, .slice A2 h.length c2] 25)) from by
    have b1 := (Below.refl w2.heap.size w2).alloc (Nat.le_refl _) (.cells #[.slice A l.length c, .slice A2 h.length c2] 25)
    have hw := below_only HW1.out hg HBG.out (Nat.le_refl _)
    exact ⟨hs.alloc _, RT.start w2 A l.length c A2 h.length c2 _, hl.below b1, hh.below b1, ⟨nw_low n1 (by have := HG1.out; omega), nw_low n2 (by have := HG1.out; omega)⟩, hw.trans (b1.mono hw.size), HBG.out, hs.2.1, by simp⟩)
  clear n1 n2 hl hh hs hg ok
  go_wp2
  obtain ⟨p, hp⟩ : ∃ p, p = w2.heap.size := ⟨_, rfl⟩
  rw [← hp] at K3 ⊢
  clear hp HS1 HW1 HG1
  generalize w2.alloc (.cells #[.slice A l.length c, .slice A2 h.length c2] 25) = w3 at *
  obtain ⟨n2, hn2⟩ : ∃ n2, n2 = h.length := ⟨_, rfl⟩
  rw [← hn2] at K3
  have hhl : n2 = l.length := hn2.trans HOK.out.hlen
  clear hn2
  subst hhl
  go_loopw [5] (fun iv wr => ∃ i : Nat, iv = .int .i64 i ∧ i ≤ 4 ∧ Hid (BtAt w g p p A l.length c l A2 l.length c2 h wr)) (fun iv _ => 4 - (intOf iv).toNat)
  case atStart => exact ⟨0, rfl, by omega, K3⟩
  case round =>
    clear K3
    obtain ⟨i, rfl, i4, HK⟩ := hrel
    by_cases hi : i < 4
    · have hi' : (i : Int) < 4 := by omega
      have HM := Lib.hid HK.out.drew
      have HS := Lib.hid HM.out.s2
      have HMX := Lib.hid (HK.out.alloc (.cells #[.int .i64 (-1), .int .i64 0, .int .i64 7, .int .i64 20, .int .i64 1073741824, .int .i64 1073741825] 3)).drew
      have HSX := Lib.hid HMX.out.s2
      have HRX := Lib.hid ((PkRow.start wr HK.out.src.2.1 3).below (Below.refl _ _).drew)
      go_wp2
      go_region_held3 (fun W => W.cell? ⟨p, 0, none⟩ = some (.slice A l.length c) ∧ W.cell? ⟨p, 1, none⟩ = some (.slice A2 l.length c2))
        (first | with_reducible exact HS.out | with_reducible exact HSX.out)
        (first
        | (go_at_call 10; (with_reducible refine (range_any w.heap.size g _ HM.out.src _ _ (by omega) (by omega) (by omega)).mono ?_); rintro e w' ⟨x, rfl, _, _, hs, hg⟩; have HR := Lib.hid (HR.out.grown hg); have HM := Lib.hid (HM.out.grownG hs hg); have HS := Lib.hid HM.out.s2; clear hs hg)
        | (go_at_call 10; (with_reducible refine (range_any w.heap.size g _ HM.out.src _ _ (by omega) (by omega) (by omega)).mono ?_); rintro e w' ⟨x, rfl, _, _, hs, hg⟩; have HM := Lib.hid (HM.out.grownG hs hg); have HS := Lib.hid HM.out.s2; have HMX := Lib.hid (HM.out.alloc (.cells #[.int .i64 (-1), .int .i64 0, .int .i64 7, .int .i64 20, .int .i64 1073741824, .int .i64 1073741825] 3)); have HSX := Lib.hid HMX.out.s2; have HRX := Lib.hid (PkRow.start _ HM.out.src.2.1 3); clear hs hg)
        | (go_at_call 10; (with_reducible refine (range_any w.heap.size g _ HMX.out.src _ _ (by omega) (by omega) (by omega)).mono ?_); rintro e w' ⟨x, rfl, _, _, hs, hg⟩; have HR := Lib.hid (HRX.out.grown hg); have HM := Lib.hid (HMX.out.grownG hs hg); have HS := Lib.hid HM.out.s2; clear hs hg)
        | (go_at_call 12; (with_reducible refine (n_any w.heap.size g _ HM.out.src 3 (by omega) (by omega)).mono ?_); rintro e w' ⟨x, rfl, _, _, hs, hg⟩; have HR := Lib.hid (HR.out.grown hg); have HM := Lib.hid (HM.out.grownG hs hg); have HS := Lib.hid HM.out.s2; clear hs hg)
        | (go_at_call 12; (with_reducible refine (n_any w.heap.size g _ HM.out.src 3 (by omega) (by omega)).mono ?_); rintro e w' ⟨x, rfl, _, _, hs, hg⟩; have HM := Lib.hid (HM.out.grownG hs hg); have HS := Lib.hid HM.out.s2; have HMX := Lib.hid (HM.out.alloc (.cells #[.int .i64 (-1), .int .i64 0, .int .i64 7, .int .i64 20, .int .i64 1073741824, .int .i64 1073741825] 3)); have HSX := Lib.hid HMX.out.s2; have HRX := Lib.hid (PkRow.start _ HM.out.src.2.1 3); clear hs hg)
        | (go_at_call 12; (with_reducible refine (n_any w.heap.size g _ HMX.out.src 3 (by omega) (by omega)).mono ?_); rintro e w' ⟨x, rfl, _, _, hs, hg⟩; have HR := Lib.hid (HRX.out.grown hg); have HM := Lib.hid (HMX.out.grownG hs hg); have HS := Lib.hid HM.out.s2; clear hs hg)
        | (go_at_call 9; (with_reducible refine (odd_any w.heap.size g _ HM.out.src _ _ _).mono ?_); rintro e w' ⟨M, rfl, _, hs, hg⟩; have HR := Lib.hid (HR.out.grown hg); have HM := Lib.hid (HM.out.grownG hs hg); have HS := Lib.hid HM.out.s2; clear hs hg)
        | (go_at_call 9; (with_reducible refine (odd_any w.heap.size g _ HM.out.src _ _ _).mono ?_); rintro e w' ⟨M, rfl, _, hs, hg⟩; have HM := Lib.hid (HM.out.grownG hs hg); have HS := Lib.hid HM.out.s2; have HMX := Lib.hid (HM.out.alloc (.cells #[.int .i64 (-1), .int .i64 0, .int .i64 7, .int .i64 20, .int .i64 1073741824, .int .i64 1073741825] 3)); have HSX := Lib.hid HMX.out.s2; have HRX := Lib.hid (PkRow.start _ HM.out.src.2.1 3); clear hs hg)
        | (go_at_call 9; (with_reducible refine (odd_any w.heap.size g _ HMX.out.src _ _ _).mono ?_); rintro e w' ⟨M, rfl, _, hs, hg⟩; have HR := Lib.hid (HRX.out.grown hg); have HM := Lib.hid (HMX.out.grownG hs hg); have HS := Lib.hid HM.out.s2; clear hs hg)
        | (go_at_call 11; (with_reducible refine (pick_row HM.out.src HR.out).mono ?_); rintro e w' ⟨x, rfl, _, hs, hg⟩; have HR := Lib.hid (HR.out.grown hg); have HM := Lib.hid (HM.out.grownG hs hg); have HS := Lib.hid HM.out.s2; clear hs hg)
        | (go_at_call 11; (with_reducible refine (pick_row HMX.out.src HRX.out).mono ?_); rintro e w' ⟨x, rfl, _, hs, hg⟩; have HR := Lib.hid (HRX.out.grown hg); have HM := Lib.hid (HMX.out.grownG hs hg); have HS := Lib.hid HM.out.s2; clear hs hg)
        | (go_at_call 5; (with_reducible refine (agrees6_any A l.length c l A2 l.length c2 h _ _ _ _ _ _ HM.out.eln HM.out.dln).mono ?_); rintro e w' ⟨rfl, hb⟩; have HM := Lib.hid (HM.out.below hb); have HS := Lib.hid HM.out.s2; clear hb))
      all_goals
        have HFI := Lib.hid HM.out
        clear HS HM
        go_wp2
        go_roundw
        case rel => exact ⟨i + 1, by go_num, by omega, HFI⟩
        case measure => simp [intOf]; omega
    · obtain rfl : i = 4 := by omega
      obtain ⟨t0, t1, tf0, tf1, tl⟩ := HK.out.rt
      go_upto_if 33 with (fail)
      clear t0 t1 tf0 tf1 tl
      go_cut [3] (fun s3 wx => s3 = .pointer (some ⟨g, 0, none⟩) ∧ ∃ (Bd : Nat) (A : Option Addr) (n c : Nat) (l : List Le) (A2 : Option Addr) (n2 c2 : Nat) (h : List Du), Hid (BtAt w g p Bd A n c l A2 n2 c2 h wx))
      case first =>
        by_cases h0 : 0 < l.length
        · have h0' : (0 : Int) < (l.length : Int) := by omega
          have HL12 := Lib.hid HOK.out.len
          have HRD := Lib.hid HK.out.eln.rd
          obtain ⟨t0, t1, tf0, tf1, tl⟩ := HK.out.rt
          go_upto_region 10 with (at_builtin; refine wpList_append_rd _ rfl (.const (.slice none 0 0)) (.tmp 35) 22 rfl wr.heap.size 39 i0 _ 8 72 Tryz.underlying22 HI.out HZ.out.1 HZ.out.2.1 HZ.out.2.2 rfl (by omega) (.slice none 0 0) 0 [] rfl (World.ownsRow_nil _ _ _ _) wr.heap.size A l.length c (ecs l) rfl HRD.out (ecs_one l) (by have := HL12.out; unfold maxLen; omega) (by have := HL12.out; omega) (Nat.le_refl _) ?_; intro v4 w4 hown4 hg4 hat4; rw [Nat.zero_add, List.nil_append] at hown4; obtain ⟨q, cap, rfl, hq, hle, hmx, hrow⟩ := eown_row hown4 h0; have HB4 := Lib.hid ((Below.refl wr.heap.size wr).grown hg4 (Nat.le_refl _) (fun k e => by simp [Value.ownBlock] at e)); have HN5 := Lib.hid (HK.out.one HB4.out hrow hq ⟨hle, hmx⟩); clear t0 t1 tf0 tf1 tl; obtain ⟨t0, t1, tf0, tf1, tl⟩ := (HK.out.below HB4.out).rt; clear hown4 hg4 hat4 hq hle hmx hrow)
          clear t0 t1 tf0 tf1 tl HB4
          generalize w4.setCell ⟨p, 0, none⟩ (.slice (some ⟨q, 0, none⟩) l.length cap) = w5 at *
          have HRH := Lib.hid (HN5.out.dl.more (show p ≤ w5.heap.size from Nat.le_of_lt HN5.out.rt.lt)).rd
          obtain ⟨t0, t1, tf0, tf1, tl⟩ := HN5.out.rt
          go_upto_region 11 with (at_builtin; refine wpList_append_rd _ rfl (.const (.slice none 0 0)) (.tmp 39) 23 rfl w5.heap.size 41 i1 _ 2 16 Tryz.underlying23 HI1.out HZ1.out.1 HZ1.out.2.1 HZ1.out.2.2 rfl (by omega) (.slice none 0 0) 0 [] rfl (World.ownsRow_nil _ _ _ _) w5.heap.size A2 l.length c2 (dcs h) rfl HRH.out (dcs_one h) (by have := HL12.out; unfold maxLen; omega) (by have := HL12.out; omega) (Nat.le_refl _) ?_; intro v6 w6 hown6 hg6 hat6; rw [Nat.zero_add, List.nil_append] at hown6; obtain ⟨q2, cap2, rfl, hq, hle, hmx, hrow⟩ := own_row hown6 h0; have HB6 := Lib.hid ((Below.refl w5.heap.size w5).grown hg6 (Nat.le_refl _) (fun k e => by simp [Value.ownBlock] at e)); have HW7 := Lib.hid (HN5.out.two HB6.out hrow hq ⟨hle, hmx⟩); clear t0 t1 tf0 tf1 tl; obtain ⟨t0, t1, tf0, tf1, tl⟩ := HN5.out.rt.below HB6.out HN5.out.rt.lt; clear hown6 hg6 hat6 hq hle hmx hrow)
          clear t0 t1 tf0 tf1 tl HB6 HRD HRH
          generalize w6.setCell ⟨p, 1, none⟩ (.slice (some ⟨q2, 0, none⟩) l.length cap2) = w7 at *
          have HKN := Lib.hid (fun W (hs : SrcAt W w.heap.size g) => n_any w.heap.size g W hs l.length (by omega) (by omega))
          have HLD := Lib.hid (fun x (hx : x < l.length) => show 0 ≤ (lg l x).dl ∧ (lg l x).dl ≤ 1073741824 from by
            rw [← lg_get hx]; exact (HOK.out.ok _ (List.getElem_mem hx)).2.2)
          have HHD := Lib.hid (fun x (hx : x < l.length) => show 0 ≤ (ge h x).dl ∧ (ge h x).dl ≤ 1073741824 from by
            have := (vaF_zero HOK.out.va).2.1 x (by rw [HOK.out.hlen]; exact hx)
            have := of_decide_eq_true this
            exact ⟨this.1, this.2.1⟩)
          go_wp2_with fail
          refine (n_any w.heap.size g _ HW7.out.src 4 (by omega) (by omega)).mono ?_
          rintro e w8 ⟨j, rfl, j0, j1, hs, hg⟩
          have HW := Lib.hid (HW7.out.grownG hs hg)
          clear hs hg HW7 HN5 HK
          rcases (by omega : j = 0 ∨ j = 1 ∨ j = 2 ∨ j = 3) with rfl | rfl | rfl | rfl
          · have HM := Lib.hid HW.out.drew
            have HS := Lib.hid HM.out.s2
            go_wp2
            obtain ⟨t0, t1, tf0, tf1, tl⟩ := HW.out.rt
            go_region_with ((go_at_call 12; (with_reducible refine (HKN.out _ HM.out.src).mono ?_); rintro e w9 ⟨x, rfl, x0, x1, hs, hg⟩; obtain ⟨x, rfl⟩ := Int.eq_ofNat_of_zero_le x0; have hxk : (x : Int) < (l.length : Int) := (by omega); have hxn : x < l.length := (by omega); have HM2 := Lib.hid (HM.out.grownG hs hg); have HS2 := Lib.hid HM2.out.s2; obtain ⟨_, _, _, _, _, _, _, c7⟩ := HM2.out.r1.c8 hxn; obtain ⟨_, _, _, _, _, _, _, f7⟩ := HM2.out.r1.free (x * 8); have hql := HM2.out.r1.1; have HDD := HLD.out x hxn; obtain ⟨D, hD⟩ : ∃ D, D = (lg l x).dl := ⟨_, rfl⟩; rw [← hD] at HDD c7; have HPUT := Lib.hid (HM2.out.dead hxn (D + 1)); have HS3 := Lib.hid HPUT.out.s2; have hwr : IntKind.i64.wrap (D + 1) = D + 1 := (IntWalk.i64_in _ (by omega)); clear hs hg x1 hD HDD; obtain ⟨p0, p1, pf0, pf1, pl⟩ := HM2.out.rt))
            all_goals
              have HF := Lib.hid HPUT.out.all
              clear HPUT HM2 HS2 HS3 c7 f7 hql hwr t0 t1 tf0 tf1 tl p0 p1 pf0 pf1 pl
              go_wp2
              go_meet
              exact ⟨rfl, _, _, _, _, _, _, _, _, _, HF⟩
          · have HM := Lib.hid HW.out.drew
            have HS := Lib.hid HM.out.s2
            go_wp2
            go_region_held3 (fun W => W.cell? ⟨p, 0, none⟩ = some (.slice (some ⟨q, 0, none⟩) l.length cap) ∧ W.cell? ⟨p, 1, none⟩ = some (.slice (some ⟨q2, 0, none⟩) l.length cap2))
              (first | with_reducible exact HS.out | with_reducible exact HS2.out | with_reducible exact HS3.out | with_reducible exact HS4.out | with_reducible exact HS5.out)
              (first
              | (go_at_call 10; (with_reducible refine (range_any w.heap.size g _ HM2.out.src _ _ (by omega) (by omega) (by omega)).mono ?_); rintro e w10 ⟨y, rfl, _, _, hs, hg⟩; have HM3 := Lib.hid (HM2.out.grownG hs hg); have HS3 := Lib.hid HM3.out.s2; clear hs hg)
              | (go_at_call 9; (with_reducible refine (odd_any w.heap.size g _ HM3.out.src _ _ _).mono ?_); rintro e w11 ⟨M, rfl, _, hs, hg⟩; have HM4 := Lib.hid (HM3.out.grownG hs hg); have HS4 := Lib.hid HM4.out.s2; obtain ⟨c0, c1, c2, c3, c4, c5, c6, _⟩ := HM4.out.r1.c8 hxn; obtain ⟨f0, f1, f2, f3, f4, f5, f6, _⟩ := HM4.out.r1.free (x * 8); have hql := HM4.out.r1.1; have HPUT := Lib.hid (HM4.out.msg hxn M); have HS5 := Lib.hid (show (((((((w11.setCell ⟨q, x * 8, none⟩ (.int .i64 M.id)).setCell ⟨q, x * 8 + 1, none⟩ (.int .i64 M.rt)).setCell ⟨q, x * 8 + 2, none⟩ (.int .i64 M.ep)).setCell ⟨q, x * 8 + 3, none⟩ (.int .i64 M.ct)).setCell ⟨q, x * 8 + 4, none⟩ (.int .i64 M.gn)).setCell ⟨q, x * 8 + 5, none⟩ (.int .i64 M.st)).setCell ⟨q, x * 8 + 6, none⟩ (.string M.bd)).cell? ⟨p, 0, none⟩ = some (.slice (some ⟨q, 0, none⟩) l.length cap) ∧ (((((((w11.setCell ⟨q, x * 8, none⟩ (.int .i64 M.id)).setCell ⟨q, x * 8 + 1, none⟩ (.int .i64 M.rt)).setCell ⟨q, x * 8 + 2, none⟩ (.int .i64 M.ep)).setCell ⟨q, x * 8 + 3, none⟩ (.int .i64 M.ct)).setCell ⟨q, x * 8 + 4, none⟩ (.int .i64 M.gn)).setCell ⟨q, x * 8 + 5, none⟩ (.int .i64 M.st)).setCell ⟨q, x * 8 + 6, none⟩ (.string M.bd)).cell? ⟨p, 1, none⟩ = some (.slice (some ⟨q2, 0, none⟩) l.length cap2) from HPUT.out.s2); clear hs hg)
              | (go_at_call 12; (with_reducible refine (HKN.out _ HM.out.src).mono ?_); rintro e w9 ⟨x, rfl, x0, x1, hs, hg⟩; obtain ⟨x, rfl⟩ := Int.eq_ofNat_of_zero_le x0; have hxk : (x : Int) < (l.length : Int) := (by omega); have hxn : x < l.length := (by omega); have HM2 := Lib.hid (HM.out.grownG hs hg); have HS2 := Lib.hid HM2.out.s2; clear hs hg x1))
            have HF := Lib.hid HPUT.out.all
            clear HM HS HM2 HS2 HS3 HM3 HM4 HS4 HS5 HPUT c0 c1 c2 c3 c4 c5 c6 f0 f1 f2 f3 f4 f5 f6 hql
            go_wp2
            go_meet
            exact ⟨rfl, _, _, _, _, _, _, _, _, _, HF⟩
          · have HM := Lib.hid HW.out.drew
            have HS := Lib.hid HM.out.s2
            go_wp2
            obtain ⟨t0, t1, tf0, tf1, tl⟩ := HW.out.rt
            go_region_with ((go_at_call 12; (with_reducible refine (HKN.out _ HM.out.src).mono ?_); rintro e w9 ⟨x, rfl, x0, x1, hs, hg⟩; obtain ⟨x, rfl⟩ := Int.eq_ofNat_of_zero_le x0; have hxk : (x : Int) < (l.length : Int) := (by omega); have hxn : x < l.length := (by omega); have HM2 := Lib.hid (HM.out.grownG hs hg); have HS2 := Lib.hid HM2.out.s2; obtain ⟨c0, _, f0, _, hql⟩ := HM2.out.r2.at_ hxn; have HDD := HHD.out x hxn; obtain ⟨D, hD⟩ : ∃ D, D = (ge h x).dl := ⟨_, rfl⟩; rw [← hD] at HDD c0; have HPUT := Lib.hid (HM2.out.heap hxn (D + 1)); have HS3 := Lib.hid HPUT.out.s2; have hwr : IntKind.i64.wrap (D + 1) = D + 1 := (IntWalk.i64_in _ (by omega)); clear hs hg x1 hD HDD; obtain ⟨p0, p1, pf0, pf1, pl⟩ := HM2.out.rt))
            all_goals
              have HF := Lib.hid HPUT.out.all
              clear HPUT HM2 HS2 HS3 c0 f0 hql hwr t0 t1 tf0 tf1 tl p0 p1 pf0 pf1 pl
              go_wp2
              go_meet
              exact ⟨rfl, _, _, _, _, _, _, _, _, _, HF⟩
          · obtain ⟨m, hm⟩ : ∃ m, l.length = m + 1 := ⟨l.length - 1, by omega⟩
            have HF := Lib.hid (HW.out.less (m := m) (by omega))
            have hcut : ∀ W, (Instr.slice 23 (.slice (some ⟨q2, 0, none⟩) l.length cap2) none (some (.int .i64 ((l.length : Int) - 1))) none).run Tryz.prog W = .ok (.slice (some ⟨q2, 0, none⟩) m cap2) W := by
              rw [show (l.length : Int) - 1 = (m : Int) by omega]
              exact run_dupto (some ⟨q2, 0, none⟩) l.length cap2 .i64 m (by have := HW.out.capd; omega)
            obtain ⟨t0, t1, tf0, tf1, tl⟩ := HW.out.rt
            clear hm
            go_wp2
            go_meet
            exact ⟨rfl, _, _, _, _, _, _, _, _, _, HF⟩
        · have h0' : ¬ (0 : Int) < (l.length : Int) := by omega
          go_wp2_with fail
          go_meet
          exact ⟨rfl, _, _, _, _, _, _, _, _, _, HK⟩
      case rest =>
        obtain ⟨rfl, Bd, A3, n3, c3, l3, A4, n4, c4, h4, HB⟩ := hcut
        clear HK
        have HM := Lib.hid HB.out.drew
        have HS := Lib.hid HM.out.s2
        go_wp2
        go_region_held3 (fun W => W.cell? ⟨p, 0, none⟩ = some (.slice A3 n3 c3) ∧ W.cell? ⟨p, 1, none⟩ = some (.slice A4 n4 c4))
          (first | with_reducible exact HS.out | with_reducible exact HS2.out | with_reducible exact HS3.out | with_reducible exact HS4.out | with_reducible exact HS5.out)
          (first
          | (go_at_call 10; (with_reducible refine (range_any w.heap.size g _ HM2.out.src _ _ (by omega) (by omega) (by omega)).mono ?_); rintro e w10 ⟨y, rfl, _, _, hs, hg⟩; have HM3 := Lib.hid (HM2.out.grownG hs hg); have HS3 := Lib.hid HM3.out.s2; clear hs hg)
          | (go_at_call 13; (with_reducible refine (message_any w.heap.size g _ HM.out.src _ _ _).mono ?_); rintro e w9 ⟨M, rfl, _, _, _, _, _, _, _, hs, hg⟩; have HM2 := Lib.hid (HM.out.grownG hs hg); have HS2 := Lib.hid HM2.out.s2; clear hs hg)
          | (go_at_call 5; (with_reducible refine (agrees6_any A3 n3 c3 l3 A4 n4 c4 h4 M y 5 20 1 _ HM3.out.eln HM3.out.dln).mono ?_); rintro e w11 ⟨rfl, hb⟩; have HM4 := Lib.hid (HM3.out.below hb); have HS4 := Lib.hid HM4.out.s2; clear hb)
          | (go_at_call 6; (with_reducible refine (awake6_any _).mono ?_); rintro e w12 ⟨rfl, hb⟩; have HM5 := Lib.hid (HM4.out.below hb); have HS5 := Lib.hid HM5.out.s2; clear hb))
        have HFIN := Lib.hid HM5.out.bel
        clear HS HS2 HS3 HS4 HS5 HM HM2 HM3 HM4 HM5
        go_wp2
        go_ret
        exact ⟨rfl, HFIN.out⟩
/-! The row's step, as the guide's shell has it. -/
namespace leaseBuilt
open Go.ChangeShapes Go.WideShapes Go.ChangeAt
open Go.ChangeMaps (open_string shut_string)
theorem own : ownKnob Tryz.prog.godebug = none := by kernel_rfl
theorem laidOut : laidOutB Tryz.prog = true := by kernel_rfl

set_option maxRecDepth 100000 in
theorem lifted (os : Os) (started : os.Started) (H : Type) (enc : TypeId × Value → H) :
    ReturnsInHanded {} Tryz.checked os 4 .any (Rows.leaseBuiltSpec.pre6 enc Tryz.prog Tryz.f4 Rows.leaseBuiltRow.domain false) (Rows.leaseBuiltSpec.post enc Tryz.prog Tryz.f4 false true false false) := by
  refine returnsInHanded_of_change (C := Tryz.checked) own started (by kernel_rfl) Tryz.func4
    (ChangeSpec.witness6 (enc := enc) (C := Tryz.checked) false ⟨#[], #[.slice none 0 0], []⟩ 8 (by kernel_rfl) (by kernel_rfl) (by kernel_rfl) (by kernel_rfl)) ?_
  intro W base args ds gs before hval0 hW hcnd _
  have hval : ∀ (j : Nat) t v, Tryz.f4.params[j]? = some t → args[j]? = some v → Value.okWide Tryz.prog W .any base t v := hval0
  have hW' := hW
  obtain ⟨p, q, hA0, hV, rfl, hfz, hnd⟩ := hW
  have hA : DataW.TrodAll enc Tryz.prog W 0 (fun _ => true) true Tryz.f4.params.toList args.toList ds p := hA0
  rw [Tryz.params4] at hA hval
  obtain ⟨v0, vs0, d0, ds0, p0, q0, hargs, rfl, rfl, h0, r0⟩ := trodAll_cons hA
  obtain ⟨rfl, rfl, rfl⟩ := trodAll_nil r0
  obtain rfl : args = #[v0] := by cases args; simp_all
  obtain ⟨rfl, rfl⟩ := trodVars_none hV
  obtain ⟨a0, len0, cap0, rfl⟩ := okWide_slice Tryz.underlying30 (hval 0 30 v0 rfl rfl)
  have k0 := h0
  have lt0 : ∀ x ∈ p0, x.block < W.heap.size := by obtain ⟨m, hm⟩ := k0; exact DataW.trod_lt m _ _ _ hm
  obtain ⟨z0, w0⟩ : ∃ zs, Ns W W.heap.size (.slice a0 len0 cap0) zs := by
    obtain ⟨fuel, hf⟩ := h0
    rcases open_ints Tryz.underlying30 Tryz.underlying3 (by kernel_rfl) hf with ⟨hcs, _⟩ | ⟨x, l, c, zs, hcs, _, hl, hm, hz, _, hcell, hwz⟩
    · simp [Value.cells] at hcs
      obtain ⟨rfl, rfl, rfl⟩ := hcs
      exact ⟨[], Ns.nil⟩
    · simp [Value.cells] at hcs
      obtain ⟨rfl, rfl, rfl⟩ := hcs
      exact Ns.of_cells hl hm (by simpa using hz) hcell hwz
  clear hA0 hval0
  refine (LeaseBuilt_walk W a0 len0 cap0 z0 w0).mono fun e W' ⟨he, bel⟩ => ?_
  subst he
  exact ⟨_, rfl, _, _, _, [], _, [], hW', trodAll_mk1 (shut_bool Tryz.underlying4 _), (trodAll_cons_mk (Below.trod laidOut (by kernel_rfl) (of_decide_eq_true (by kernel_rfl)) k0 bel lt0) trodAll_mk0), rfl, bel.frame _, fun h => by cases h⟩

theorem over : Rows.leaseBuiltRow.holds Tryz.pinned (OpenSpec.ofChange Rows.leaseBuiltSpec) :=
  OpenClaim.holds_of_wide 4 Tryz.f4 rfl rfl rfl rfl rfl rfl rfl ⟨rfl, rfl, rfl, rfl, rfl⟩ rfl rfl rfl rfl rfl (by kernel_rfl) Tryz.func4 (by kernel_rfl)
    (of_decide_eq_true (by kernel_rfl)) (by unfold Func.isWrapper; first | (rw [if_pos (by decide +kernel)]; kernel_rfl) | (rw [if_neg (by decide +kernel)]; exact ⟨rfl, rfl⟩))
    (fun os started H enc _ => lifted os started H enc)

/-- The statement. -/
theorem proved : Rows.LeaseBuiltSaid := over
#print axioms proved
end leaseBuilt
end Go.Proofs.YtjclhlejbidpgaaGreat
