/- What is proved here: shardqueuelaw03.MessageCodes returns true for every input and leaves its arguments as they were. No condition. -/
import Derived.Test.YtjiampelmiaflaaLis
import Derived.Test.YtjiampelmiaflaaOpn
import Derived.Test.YtjiampelmiaflaaSmk
import Derived.Test.YtjiampelmiaflaaEqm
import Derived.Test.YtjiampelmiaflaaMtt
import Derived.Test.YtjiampelmiaflaaRen
import Derived.Test.YtjiampelmiaflaaDec
import Derived.Test.YtjiampelmiaflaaRdc
import Derived.Test.YtjiampelmiaflaaSro
import Derived.Test.YtjiampelmiaflaaSrn
import Derived.Deep.AppendLies
import Derived.Deep.RegionLaw
import Derived.Deep.DeepCutAuto
import Derived.ProofKit
import Derived.OpenShut
import Derived.ShutString
import Derived.ChangeOld
namespace Go.Proofs.Ytjiampelmiaflaa
open Go.RowKit
set_option linter.unusedVariables false

theorem cut_q (q n cap x : Nat) (hx : x ≤ cap) : ∀ W, (Instr.slice 41 (.slice (some ⟨q, 0, none⟩) n cap) none (some (.int .i64 (x : Int))) none).run Try.prog W = .ok (.slice (some ⟨q, 0, none⟩) x cap) W := fun W => by
  have ht' : Try.prog.underlying 41 = some (.slice (Try.prog.elem 41)) := by kernel_rfl
  have he : Try.prog.elem 41 = 5 := by kernel_rfl
  have hz8 : ∀ w, (Go.sizeOf 5).run Try.prog w = .ok 1 w := Try.sizeOf5
  rw [run_slice_h W 41 (some ⟨q, 0, none⟩) n cap ht' .i64 (x : Int) (by omega) (by omega), he, hz8]
  simp [Result.andThen, sliced, Addr.add]

attribute [local go_sem ↓] Go.wp_at_zero Go.wp_at_succ
set_option maxHeartbeats 16000000 in
set_option maxRecDepth 20000 in
theorem MessageCodes_walk (w : World) (M : Msg) (hM : M.wf) (a1 : Option Addr) (l1 c1 : Nat) (bs : List UInt8) (hv : Bs w w.heap.size (.slice a1 l1 c1) bs) (a2 : Option Addr) (l2 c2 : Nat) (zs : List Int) (hz : Ns w w.heap.size (.slice a2 l2 c2) zs) :
    Calls Try.prog 6 #[M.v, .slice a1 l1 c1, .slice a2 l2 c2] w fun e w' => e = .returned (.bool true) ∧ Below w.heap.size w w' := by
  obtain ⟨rfl, _, _⟩ := hv.len
  have hB0 := (Below.refl w.heap.size w).alloc (Nat.le_refl _) (.cells M.cs 23)
  have HB0 := Lib.hid hB0
  by_cases l1 : (100 : Int) < (M.bd.size : Int)
  · clear hM hv hz hB0
    go_enter Try.func6, Try.ntmps6
    go_wp2
    go_ret
    exact ⟨rfl, HB0.out⟩
  by_cases l2' : (100 : Int) < (bs.length : Int)
  · clear hM hv hz hB0
    go_enter Try.func6, Try.ntmps6
    go_wp2
    go_ret
    exact ⟨rfl, HB0.out⟩
  obtain ⟨p, hp⟩ : ∃ p, p = w.heap.size := ⟨_, rfl⟩
  have HP := Lib.hid (MAt.fresh (f := M.nth) w M.id M.rt M.ep M.ct M.gn M.st M.bd 23 rfl rfl rfl rfl rfl rfl)
  have HN := Lib.hid (new_src a2 l2 c2 zs (w.alloc (.cells M.cs 23)) (by
    obtain ⟨A, c, e1, e2, e3, e4, e5⟩ := hz
    exact ⟨A, c, e1, e2, e3, (e4.below hB0).more (by simp), e5⟩))
  obtain ⟨B, hB⟩ : ∃ B, B = (w.alloc (.cells M.cs 23)).heap.size := ⟨_, rfl⟩
  rw [← hp] at HP
  have hB' : B = w.heap.size + 1 := by rw [hB]; simp
  have HB := Lib.hid hB
  have HB' := Lib.hid hB'
  have HPP := Lib.hid hp
  have HV := Lib.hid hv
  have HBL := Lib.hid l2'
  clear hM hz hB hp hB0 hB' hv
  go_enter Try.func6, Try.ntmps6
  go_wp2_with fail
  rw [← HPP.out]
  refine HN.out.mono ?_
  rintro e w1 ⟨g, rfl, hs, hb⟩
  rw [← HB.out] at hs
  have HS1 := Lib.hid hs
  have HNE := Lib.hid (show p ≠ g ∧ w.heap.size ≤ g by have := HB'.out; have := HPP.out; have := hs.1; omega)
  have HP1 := Lib.hid (HP.out.below hb HP.out.1)
  have HW1 := Lib.hid (HB0.out.trans (hb.mono HB0.out.size))
  clear hs hb
  go_wp2_with fail
  refine (range_any B g _ HS1.out 1 300 (by omega) (by omega) (by omega)).mono ?_
  rintro e w2 ⟨x, rfl, x1, x2, hs, hg⟩
  have HS2 := Lib.hid hs
  have HP2 := Lib.hid (HP1.out.grown hg HNE.out.1)
  have HW2 := Lib.hid (below_only HW1.out hg HNE.out.2 (Nat.le_refl _))
  clear hs hg x1 x2
  go_wp2_with fail
  refine (odd_any B g _ HS2.out x 0 65535).mono ?_
  rintro e w3 ⟨O, rfl, o1, hs, hg⟩
  have HS3 := Lib.hid (hs.alloc (.cells O.cs 23))
  have hp3 := (HP2.out.grown hg HNE.out.1).alloc (.cells O.cs 23)
  have hq3 := MAt.fresh (f := O.nth) w3 O.id O.rt O.ep O.ct O.gn O.st O.bd 23 rfl rfl rfl rfl rfl rfl
  have HW3 := Lib.hid ((below_only HW2.out hg HNE.out.2 (Nat.le_refl _)).alloc (below_only HW2.out hg HNE.out.2 (Nat.le_refl _)).size (.cells O.cs 23))
  obtain ⟨⟨f0, f1, f2, f3, f4, f5, f6⟩, _⟩ := hp3.facts
  obtain ⟨⟨g0, g1, g2, g3, g4, g5, g6⟩, _⟩ := hq3.facts
  simp only [Msg.nth] at f0 f1 f2 f3 f4 f5 g0 g1 g2 g3 g4 g5
  have HO := Lib.hid (show O.bd.size ≤ 18 from o1)
  have HW4 := Lib.hid (HW3.out.alloc HW3.out.size (.cells (M.cs ++ O.cs) 23))
  have HS4 := Lib.hid (HS3.out.alloc (.cells (M.cs ++ O.cs) 23))
  have HL := Lib.hid (LAt.fresh2 (w3.alloc (.cells O.cs 23)) M O 23)
  obtain ⟨b, hb⟩ : ∃ b, b = w3.heap.size + 1 := ⟨_, rfl⟩
  rw [show (w3.alloc (.cells O.cs 23)).heap.size = b by rw [hb]; simp] at HL
  have HBB := Lib.hid hb
  have HNB := Lib.hid (show b ≠ g by have := hs.2.1; omega)
  generalize list2 M O = Ms at *
  clear hs hg hb hp3 hq3 o1
  go_wp2
  rw [← HBB.out]
  clear f0 f1 f2 f3 f4 f5 f6 g0 g1 g2 g3 g4 g5 g6
  go_loopw [10] (fun i wr => ∃ k : Nat, k ≤ 2 ∧ i = .int .i64 k ∧ LAt wr b 2 Ms ∧ SrcAt wr B g ∧ Below w.heap.size w wr) (fun i _ => 2 - (intOf i).toNat)
  case atStart => exact ⟨0, by omega, rfl, HL.out, HS4.out, HW4.out⟩
  case round =>
    obtain ⟨k, hk, rfl, hl, hs, hbel⟩ := hrel
    have HW := Lib.hid hbel
    have HLr := Lib.hid hl
    have HSr := Lib.hid hs
    clear hbel hl hs
    by_cases hlt : k < 2
    · obtain ⟨X, hX⟩ : ∃ X, X = Ms k := ⟨_, rfl⟩
      obtain ⟨f0, f1, f2, f3, f4, f5, f6⟩ := HLr.out.facts k hlt X hX
      have HX := Lib.hid hX
      have HE1 := Lib.hid (fun w => encode_any X w)
      have HE2 := Lib.hid (fun w => rencode_any X w)
      generalize encF X = xs at *
      generalize vf X = e0 at *
      clear hX
      go_wp2_with fail
      refine (HE1.out _).mono ?_
      rintro e w7 ⟨v7, rfl, hb7, hw7⟩
      have HL7 := Lib.hid (HLr.out.below hw7 HLr.out.1)
      have HS7 := Lib.hid (HSr.out.below hw7)
      have HW7 := Lib.hid (HW.out.trans (hw7.mono HW.out.size))
      have HB7 := Lib.hid hb7
      obtain ⟨g0, g1, g2, g3, g4, g5, g6⟩ := HL7.out.facts k hlt X HX.out
      clear hw7 hb7 f0 f1 f2 f3 f4 f5 f6
      go_wp2_with fail
      refine (HE2.out _).mono ?_
      rintro e w8 ⟨v8, rfl, hb8, hw8⟩
      have HL8 := Lib.hid (HL7.out.below hw8 HL7.out.1)
      have HS8 := Lib.hid (HS7.out.below hw8)
      have HW8 := Lib.hid (HW7.out.trans (hw8.mono HW7.out.size))
      have HSM := Lib.hid (same_any _ _ _ _ _ ((HB7.out.below hw8).more hw8.size) hb8)
      rw [show (xs == xs) = true by simp] at HSM
      clear hw8 hb8 g0 g1 g2 g3 g4 g5 g6
      go_wp2_with fail
      refine HSM.out.mono ?_
      rintro e w9 ⟨rfl, rfl⟩
      go_wp2
      go_roundw
      case rel => exact ⟨k + 1, by omega, by go_num, HL8.out, HS8.out, HW8.out⟩
      case measure => simp [intOf]; omega
    · go_wp2_with fail
      refine (message_any B g _ HSr.out 7 0 65535).mono ?_
      rintro e w4 ⟨C, rfl, m0, m1, ⟨m2, m3⟩, ⟨m4, m5⟩, ⟨m6, m7⟩, ⟨m8, m9⟩, m10, hs, hg⟩
      have hsp := intoF_span (rtF 7) 0 65535 (rtF_lt 7).1 (rtF_lt 7).2 (by omega) (by omega) (by omega)
      rw [← m1] at hsp
      have HOK := Lib.hid (show vf C = 0 from ok_vf ⟨⟨by omega, by omega⟩, ⟨hsp.1, hsp.2⟩, ⟨m2, by omega⟩, ⟨m4, by omega⟩, ⟨m6, m7⟩, ⟨m8, by omega⟩, by omega⟩)
      have HS5 := Lib.hid hs
      have HW5 := Lib.hid (below_only HW.out hg HNE.out.2 (Nat.le_refl _))
      have HEN := Lib.hid (rencode_own C w4 HOK.out)
      clear hs hg m0 m1 m2 m3 m4 m5 m6 m7 m8 m9 m10 hsp
      have HLE := Lib.hid (enc_len HOK.out)
      have HLG := Lib.hid (eb_length C 6)
      obtain ⟨ys, hys⟩ : ∃ ys, ys = encB C := ⟨_, rfl⟩
      have HYL := Lib.hid (show 7 ≤ ys.length ∧ ys.length ≤ 53 from ⟨by rw [hys]; unfold encB; have := HLG.out; simp; omega, by rw [hys]; exact HLE.out⟩)
      rw [← hys] at HEN
      clear hys HOK HLE HLG
      go_wp2_with fail
      refine HEN.out.mono ?_
      rintro e w6 ⟨v6, rfl, ho6, hw6⟩
      obtain ⟨q, cap, rfl, hq1, hq2⟩ := World.ownsRow.form ho6 (by have := HYL.out; omega)
      obtain ⟨n, hn⟩ : ∃ n, n = ys.length := ⟨_, rfl⟩
      rw [← hn] at ho6 HYL
      have hrow := RowAt.of_own ho6
      generalize (fun j => ys.getD j 0) = f at hrow
      have HCP := Lib.hid (Bs.of_own ho6).len
      have HS6 := Lib.hid (HS5.out.below hw6)
      have HW6 := Lib.hid (HW5.out.trans (hw6.mono HW5.out.size))
      have HNQ := Lib.hid (show q ≠ g by have := HS5.out.2.1; omega)
      have HBQ := Lib.hid (show B ≤ q by have := HS5.out.1; have := HS5.out.2.1; omega)
      have HR6 := Lib.hid hrow
      have hn7 : (7 : Int) ≤ (n : Int) := by have := HYL.out.1; omega
      have hn53 : (n : Int) ≤ 53 := by have := HYL.out.2; omega
      have hz : ((n : Int) == 0) = false := by simp; omega
      rw [← hn]
      clear ho6 hw6 hq1 hq2 hrow hn
      go_wp2
      go_cut [15] (fun s15 wx => s15 = .slice (some ⟨q, 0, none⟩) n cap ∧ ∃ f, RowAt wx q n f ∧ SrcAt wx B g ∧ Below w.heap.size w wx)
      case first =>
        go_region_with ((go_at_call 32; first
          | (refine (n_any B g _ HS7.out _ (by omega) (by omega)).mono ?_; rintro e w8 ⟨z, rfl, z1, z2, hs, hg⟩; have HS8 := Lib.hid hs; have HW8 := Lib.hid (below_only HW7.out hg HNE.out.2 (Nat.le_refl _)); have HR8 := Lib.hid (HR7.out.grown hg (fun e => HNQ.out (by injection e))); have hc8 := HR8.out.2.1 k hkn; have hf8 := HR8.out.2.2 k; unfold oct at hc8; clear hs hg)
          | (refine (n_any B g _ (SrcAt.drew HS6.out) _ (by omega) (by omega)).mono ?_; rintro e w7 ⟨k, rfl, k1, k2, hs, hg⟩; obtain ⟨k, rfl⟩ := Int.eq_ofNat_of_zero_le k1; have hkn : k < n := (by omega); have HS7 := Lib.hid hs; have HW7 := Lib.hid (below_only HW6.out (gdrew hg) HNE.out.2 (Nat.le_refl _)); have HR7 := Lib.hid (HR6.out.grown (gdrew hg) (fun e => HNQ.out (by injection e))); have hc7 := HR7.out.2.1 k hkn; have hf7 := HR7.out.2.2 k; unfold oct at hc7; clear hs hg)))
        all_goals
          obtain ⟨y, hy⟩ := xor_u8_oct ((f k).toNat : Int) (IntKind.u8.wrap z)
          have HY := Lib.hid hy
          have HR9 := Lib.hid (HR8.out.put k hkn y)
          have HS9 := Lib.hid (HS8.out.other (p := ⟨q, k, none⟩) HNQ.out HBQ.out (oct y))
          have HW9 := Lib.hid (HW8.out.setCell (p := ⟨q, k, none⟩) (by have := HNE.out.2; have := HBQ.out; have := HB'.out; show w.heap.size ≤ q; omega) (oct y))
          clear hc7 hf7 hc8 hf8 hy
          go_wp2_with fail
          go_meet
          rw [HY.out]
          exact ⟨rfl, _, HR9.out, HS9.out, HW9.out⟩
      case rest =>
        obtain ⟨rfl, f', hr9, hs9, hw9⟩ := hcut
        have HR9 := Lib.hid hr9
        have HS9 := Lib.hid hs9
        have HW9 := Lib.hid hw9
        obtain ⟨i0, hi0, hz0, hz1, hz2⟩ := info_parts info_u8
        have H0 := Lib.hid hi0
        have H1 := Lib.hid hz0
        have H2 := Lib.hid hz1
        have H3 := Lib.hid hz2
        clear hr9 hs9 hw9 hi0 hz0 hz1 hz2
        go_wp2
        go_cut [17] (fun s17 wx => ∃ L, s17 = .slice (some ⟨L, 0, none⟩) 4 4 ∧ Quad wx L ∧ Below w.heap.size w wx)
        case first =>
          go_region_held3 (fun W' => Tru W') (exact trivial)
            (first
            | (refine step_append_lies _ (by rfl) _ _ _ (by rfl) 0 5 i0 _ 1 1 Try.underlying41 H0.out H1.out H2.out H3.out rfl (by omega) (.slice none 0 0) 0 [] (by rfl) (World.ownsRow_nil _ _ _ _) ⟨q, 0, none⟩ n cap (((List.range n).map f').map oct) (by rfl) (by simp) (by first | exact RowAt.news HR10.out | exact RowAt.news (RowAt.alloc HR10.out _)) (oct_one _) (by omega) (by unfold maxLen; omega) (by omega) (Nat.zero_le _) _ rfl ?_; intro g1 cap1 w11 hown11 hgrow11 hat11 hlt11; rw [Nat.zero_add]; have HA11 := Lib.hid (app1 (a := w) (f := f') (q := q) (n := n) (by first | exact HR10.out | exact RowAt.alloc HR10.out _) (by first | exact HW10.out | exact Below.alloc HW10.out HW10.out.size _) hgrow11 hat11); have HO11 := Lib.hid (show w11.ownsRow 0 5 1 (.slice (some ⟨g1, 0, none⟩) n cap1) n (((List.range n).map f').map oct) from (by simpa using hown11)); have HG11 := Lib.hid hgrow11; clear hown11 hgrow11 hat11 hlt11)
            | (refine step_append_lies _ (by rfl) _ _ _ (by rfl) 0 5 i0 _ 1 1 Try.underlying41 H0.out H1.out H2.out H3.out rfl (by omega) (.slice (some ⟨g1, 0, none⟩) n cap1) n (((List.range n).map f').map oct) (by rfl) (HO11.out.alloc _) ⟨w11.heap.size, 0, none⟩ 1 1 [.int .u8 0] (by rfl) (by simp) (World.news_of_block (cs := #[.int .u8 0]) (t := 5) (fr := (0, 0)) (heap_alloc_new w11 _)) (by simp [Value.oneCell']) (by omega) (by unfold maxLen; omega) (by omega) (Nat.zero_le _) _ rfl ?_; intro g2 cap2 w12 hown12 hgrow12 hat12 hlt12; have HA12 := Lib.hid (app2 (a := w) (f := f') (q := q) (n := n) (RowAt.alloc HA11.out.1 _) (Below.alloc HA11.out.2.2.1 HA11.out.2.2.1.size _) hgrow12 HA11.out.2.1 HA11.out.2.2.2); have HO12 := Lib.hid (show Bs w12 w12.heap.size (.slice (some ⟨g2, 0, none⟩) (n + 1) cap2) ((List.range n).map f' ++ [0]) from Bs.of_own (base := 0) (e := 5) (n := n + 1) (by rw [List.map_append]; exact hown12)); clear hown12 hgrow12 hat12 hlt12)
            | (refine step_append_lies _ (by rfl) _ _ _ (by rfl) 0 5 i0 _ 1 1 Try.underlying41 H0.out H1.out H2.out H3.out rfl (by omega) (.slice (some ⟨g1, 0, none⟩) n cap1) n (((List.range n).map f').map oct) (by rfl) HO11.out ⟨w10.heap.size, 0, none⟩ 1 1 [.int .u8 0] (by rfl) (by simp) (World.news_of_block (cs := #[.int .u8 0]) (t := 5) (fr := (0, 0)) ((HG11.out.block w10.heap.size (by simp) (by simp [Value.ownBlock])).trans (heap_alloc_new w10 _))) (by simp [Value.oneCell']) (by omega) (by unfold maxLen; omega) (by omega) (Nat.zero_le _) _ rfl ?_; intro g2 cap2 w12 hown12 hgrow12 hat12 hlt12; have HA12 := Lib.hid (app2 (a := w) (f := f') (q := q) (n := n) HA11.out.1 HA11.out.2.2.1 hgrow12 HA11.out.2.1 HA11.out.2.2.2); have HO12 := Lib.hid (show Bs w12 w12.heap.size (.slice (some ⟨g2, 0, none⟩) (n + 1) cap2) ((List.range n).map f' ++ [0]) from Bs.of_own (base := 0) (e := 5) (n := n + 1) (by rw [List.map_append]; exact hown12)); clear hown12 hgrow12 hat12 hlt12)
            | (refine step_append_lies _ (by rfl) _ _ _ (by rfl) 0 5 i0 _ 1 1 Try.underlying41 H0.out H1.out H2.out H3.out rfl (by omega) (.slice (some ⟨g1, 0, none⟩) n cap1) n (((List.range n).map f').map oct) (by rfl) HO11.out ⟨wc.heap.size, 0, none⟩ 1 1 [.int .u8 0] (by rfl) (by simp) (World.news_of_block (cs := #[.int .u8 0]) (t := 5) (fr := (0, 0)) ((HG11.out.block wc.heap.size (by have := HG10.out.size; simp at this; omega) (by simp [Value.ownBlock])).trans ((HG10.out.block wc.heap.size (by simp) (fun e => by have := HS9.out.2.1; injection e with e; omega)).trans (heap_alloc_new wc.drew _)))) (by simp [Value.oneCell']) (by omega) (by unfold maxLen; omega) (by omega) (Nat.zero_le _) _ rfl ?_; intro g2 cap2 w12 hown12 hgrow12 hat12 hlt12; have HA12 := Lib.hid (app2 (a := w) (f := f') (q := q) (n := n) HA11.out.1 HA11.out.2.2.1 hgrow12 HA11.out.2.1 HA11.out.2.2.2); have HO12 := Lib.hid (show Bs w12 w12.heap.size (.slice (some ⟨g2, 0, none⟩) (n + 1) cap2) ((List.range n).map f' ++ [0]) from Bs.of_own (base := 0) (e := 5) (n := n + 1) (by rw [List.map_append]; exact hown12)); clear hown12 hgrow12 hat12 hlt12)
            | (go_simp; go_at_call 32; refine (n_any B g _ (by first | exact SrcAt.drew HS9.out | exact SrcAt.alloc (SrcAt.drew HS9.out) _) n (by omega) (by omega)).mono ?_; rintro e w10 ⟨x, rfl, x1, x2, hs, hg⟩; obtain ⟨x, rfl⟩ := Int.eq_ofNat_of_zero_le x1; have hxn : x ≤ n := (by omega); have hcut17 := cut_q q n cap x (by have := HCP.out.2.1; omega); have HG10 := Lib.hid hg; have HR10 := Lib.hid (RowAt.grown (f := f') (q := q) (n := n) (by first | exact RowAt.drew HR9.out | exact RowAt.alloc (RowAt.drew HR9.out) _) hg (fun e => HNQ.out (by injection e))); have HW10 := Lib.hid (below_only (B := w.heap.size) (a := w) (by first | exact Below.drew HW9.out | exact Below.alloc (Below.drew HW9.out) HW9.out.size _) hg HNE.out.2 (Nat.le_refl _)); clear hs hg))
          all_goals
            have HW13 := Lib.hid (Below.alloc HA12.out.2 HA12.out.2.size (.cells #[.slice a1 bs.length c1, .slice (some ⟨q, 0, none⟩) n cap, .slice (some ⟨q, 0, none⟩) x cap, .slice (some ⟨g2, 0, none⟩) (n + 1) cap2] 41))
            have HQ13 := Lib.hid (Quad.fresh w12 41 _ _ _ _ _ _ _ _ ((HV.out.below HA12.out.2).more HA12.out.2.size) (HA12.out.1.bs n cap (Nat.le_refl _) HCP.out.2.1 HCP.out.2.2) (HA12.out.1.bs x cap hxn (by have := HCP.out.2.1; omega) HCP.out.2.2) HO12.out (by have := HBL.out; omega) (by simp; omega) (by simp; omega) (by simp; omega))
            clear hcut17 x1 x2
            go_wp2_with fail
            go_meet
            exact ⟨w12.heap.size, rfl, HQ13.out, HW13.out⟩
        case rest =>
          obtain ⟨L, rfl, hq, hw⟩ := hcut
          have HQ14 := Lib.hid hq
          have HW14 := Lib.hid hw
          clear hq hw
          go_wp2
          go_loopw [18] (fun i wr => ∃ k : Nat, k ≤ 4 ∧ i = .int .i64 k ∧ Quad wr L ∧ Below w.heap.size w wr) (fun i _ => 4 - (intOf i).toNat)
          case atStart => exact ⟨0, by omega, rfl, HQ14.out, HW14.out⟩
          case round =>
            obtain ⟨k, hk, rfl, hq, hbel⟩ := hrel
            have HQr := Lib.hid hq
            have HWr := Lib.hid hbel
            clear hq hbel
            by_cases hlt : k < 4
            · obtain ⟨A, c, zs', hc, hb, hl⟩ := HQr.out.2 k hlt
              have HD1 := Lib.hid (decode_any A _ c zs' wr hb (by omega))
              have HD2 := Lib.hid (show ∀ w', Bs w' w'.heap.size (.slice A zs'.length c) zs' → Calls Try.prog 34 #[.slice A zs'.length c] w' (DcEnd w' zs') from fun w' hb' => rdecode_any A zs'.length c zs' w' hb' (by omega))
              unfold DcEnd at HD1 HD2
              have HBz := Lib.hid hb
              have hne := neqm (decF zs').1
              generalize (decF zs').1 = D at *
              generalize (decF zs').2 = e0 at *
              clear hb hl
              go_wp2_with fail
              refine HD1.out.mono ?_
              rintro e w20 ⟨rfl, hw20⟩
              have hb21 := Below.alloc hw20 hw20.size (.cells D.cs 23)
              have hc21 := (hb21.cell (p := ⟨L, k, none⟩) HQr.out.1).trans hc
              have HQ21 := Lib.hid (HQr.out.below hb21)
              have HW21 := Lib.hid (HWr.out.trans (hb21.mono HWr.out.size))
              have HB21 := Lib.hid ((HBz.out.below hb21).more hb21.size)
              have HP21 := Lib.hid (MAt.fresh (f := D.nth) w20 D.id D.rt D.ep D.ct D.gn D.st D.bd 23 rfl rfl rfl rfl rfl rfl)
              obtain ⟨p1, hp1⟩ : ∃ p1, p1 = w20.heap.size := ⟨_, rfl⟩
              rw [← hp1] at HP21
              have HPP1 := Lib.hid hp1
              clear hw20 hb21 hc hp1
              go_wp2_with fail
              rw [← HPP1.out]
              refine (HD2.out _ HB21.out).mono ?_
              rintro e w22 ⟨rfl, hw22⟩
              have hb23 := Below.alloc hw22 hw22.size (.cells D.cs 23)
              have HQ23 := Lib.hid (HQ21.out.below hb23)
              have HW23 := Lib.hid (HW21.out.trans (hb23.mono HW21.out.size))
              obtain ⟨⟨f0, f1, f2, f3, f4, f5, f6⟩, _⟩ := (HP21.out.below hb23 HP21.out.1).facts
              simp only [Msg.nth] at f0 f1 f2 f3 f4 f5
              clear hw22 hb23 hc21
              go_wp2
              go_roundw
              case rel => exact ⟨k + 1, by omega, by go_num, HQ23.out, HW23.out⟩
              case measure => simp [intOf]; omega
            · go_wp2_with fail
              refine (awake3_any _).mono ?_
              rintro e w20 ⟨rfl, hw20⟩
              have HW20 := Lib.hid (HWr.out.trans (hw20.mono HWr.out.size))
              clear hw20
              go_wp2
              go_ret
              exact ⟨rfl, HW20.out⟩

/-! The row's step, as the guide's shell has it. -/
namespace messageCodes
open Go.ChangeShapes Go.WideShapes Go.ChangeAt
open Go.ChangeMaps (open_string shut_string)
theorem own : ownKnob Try.prog.godebug = none := by kernel_rfl
theorem laidOut : laidOutB Try.prog = true := by kernel_rfl

set_option maxRecDepth 100000 in
theorem lifted (os : Os) (started : os.Started) (H : Type) (enc : TypeId × Value → H) :
    ReturnsInHanded {} Try.checked os 6 .any (Rows.messageCodesSpec.pre6 enc Try.prog Try.f6 Rows.messageCodesRow.domain false) (Rows.messageCodesSpec.post enc Try.prog Try.f6 false true false false) := by
  refine returnsInHanded_of_change (C := Try.checked) own started (by kernel_rfl) Try.func6
    (ChangeSpec.witness6 (enc := enc) (C := Try.checked) false ⟨#[], #[.agg #[.int .i64 0, .int .i64 0, .int .i64 0, .int .i64 0, .int .i64 0, .int .i64 0, .string ByteArray.empty], .slice none 0 0, .slice none 0 0], []⟩ 8 (by kernel_rfl) (by kernel_rfl) (by kernel_rfl) (by kernel_rfl)) ?_
  intro W base args ds gs before hval0 hW hcnd _
  have hval : ∀ (j : Nat) t v, Try.f6.params[j]? = some t → args[j]? = some v → Value.okWide Try.prog W .any base t v := hval0
  have hW' := hW
  obtain ⟨p, q, hA0, hV, rfl, hfz, hnd⟩ := hW
  have hA : DataW.TrodAll enc Try.prog W 0 (fun _ => true) true Try.f6.params.toList args.toList ds p := hA0
  rw [Try.params6] at hA hval
  obtain ⟨v0, vs0, d0, ds0, p0, q0, hargs, rfl, rfl, h0, r0⟩ := trodAll_cons hA
  obtain ⟨v1, vs1, d1, ds1, p1, q1, rfl, rfl, rfl, h1, r1⟩ := trodAll_cons r0
  obtain ⟨v2, vs2, d2, ds2, p2, q2, rfl, rfl, rfl, h2, r2⟩ := trodAll_cons r1
  obtain ⟨rfl, rfl, rfl⟩ := trodAll_nil r2
  obtain rfl : args = #[v0, v1, v2] := by cases args; simp_all
  obtain ⟨rfl, rfl⟩ := trodVars_none hV
  obtain ⟨a0, rfl, rfl, rfl, w0⟩ := open_msg (hval 0 23 v0 rfl rfl) h0
  obtain ⟨a1, len1, cap1, rfl⟩ := okWide_slice Try.underlying41 (hval 1 41 v1 rfl rfl)
  have k1 := h1
  have lt1 : ∀ x ∈ p1, x.block < W.heap.size := by obtain ⟨m, hm⟩ := k1; exact DataW.trod_lt m _ _ _ hm
  obtain ⟨z1, w1⟩ : ∃ zs, Bs W W.heap.size (.slice a1 len1 cap1) zs := by
    obtain ⟨fuel, hf⟩ := h1
    rcases open_ints Try.underlying41 Try.underlying5 (by kernel_rfl) hf with ⟨hcs, _⟩ | ⟨x, l, c, zs, hcs, _, hl, hm, hz, _, hcell, hwz⟩
    · simp [Value.cells] at hcs
      obtain ⟨rfl, rfl, rfl⟩ := hcs
      exact ⟨[], Bs.nil⟩
    · simp [Value.cells] at hcs
      obtain ⟨rfl, rfl, rfl⟩ := hcs
      exact Bs.of_cells hl hm (by simpa using hz) hcell hwz
  obtain ⟨a2, len2, cap2, rfl⟩ := okWide_slice Try.underlying32 (hval 2 32 v2 rfl rfl)
  have k2 := h2
  have lt2 : ∀ x ∈ p2, x.block < W.heap.size := by obtain ⟨m, hm⟩ := k2; exact DataW.trod_lt m _ _ _ hm
  obtain ⟨z2, w2⟩ : ∃ zs, Ns W W.heap.size (.slice a2 len2 cap2) zs := by
    obtain ⟨fuel, hf⟩ := h2
    rcases open_ints Try.underlying32 Try.underlying3 (by kernel_rfl) hf with ⟨hcs, _⟩ | ⟨x, l, c, zs, hcs, _, hl, hm, hz, _, hcell, hwz⟩
    · simp [Value.cells] at hcs
      obtain ⟨rfl, rfl, rfl⟩ := hcs
      exact ⟨[], Ns.nil⟩
    · simp [Value.cells] at hcs
      obtain ⟨rfl, rfl, rfl⟩ := hcs
      exact Ns.of_cells hl hm (by simpa using hz) hcell hwz
  clear hA0 hval0
  refine (MessageCodes_walk W a0 w0 a1 len1 cap1 z1 w1 a2 len2 cap2 z2 w2).mono fun e W' ⟨he, bel⟩ => ?_
  subst he
  exact ⟨_, rfl, _, _, _, [], _, [], hW', trodAll_mk1 (shut_bool Try.underlying4 _), (trodAll_cons_mk (shut_msg a0 w0) (trodAll_cons_mk (Below.trod laidOut (by kernel_rfl) (of_decide_eq_true (by kernel_rfl)) k1 bel lt1) (trodAll_cons_mk (Below.trod laidOut (by kernel_rfl) (of_decide_eq_true (by kernel_rfl)) k2 bel lt2) trodAll_mk0))), rfl, bel.frame _, fun h => by cases h⟩

theorem over : Rows.messageCodesRow.holds Try.pinned (OpenSpec.ofChange Rows.messageCodesSpec) :=
  OpenClaim.holds_of_wide 6 Try.f6 rfl rfl rfl rfl rfl rfl rfl ⟨rfl, rfl, rfl, rfl, rfl⟩ rfl rfl rfl rfl rfl (by kernel_rfl) Try.func6 (by kernel_rfl)
    (of_decide_eq_true (by kernel_rfl)) (by unfold Func.isWrapper; first | (rw [if_pos (by decide +kernel)]; kernel_rfl) | (rw [if_neg (by decide +kernel)]; exact ⟨rfl, rfl⟩))
    (fun os started H enc _ => lifted os started H enc)

/-- The statement. -/
theorem proved : Rows.MessageCodesSaid := over
#print axioms proved
end messageCodes
end Go.Proofs.Ytjiampelmiaflaa
