/- What is proved here: shardqueuelaw03.MessageBack returns true for every input and leaves its arguments as they were. No condition. -/
import Derived.Test.YtjiampelmiaflaaAwm
import Derived.Test.YtjiampelmiaflaaMtt
import Derived.Test.YtjiampelmiaflaaDec
import Derived.Test.YtjiampelmiaflaaSrn
import Derived.Test.YtjiampelmiaflaaSrm
import Derived.Test.YtjiampelmiaflaaEqm
import Derived.ProofKit
import Derived.OpenShut
import Derived.ShutString
import Derived.ChangeOld
namespace Go.Proofs.Ytjiampelmiaflaa
open Go.RowKit
set_option linter.unusedVariables false

set_option maxHeartbeats 16000000 in
set_option maxRecDepth 20000 in
theorem MessageBack_walk (w : World) (a0 : Option Addr) (l0 c0 : Nat) (zs : List Int) (hz : Ns w w.heap.size (.slice a0 l0 c0) zs) (a1 : Option Addr) (l1 c1 : Nat) (bs : List UInt8) (hv : Bs w w.heap.size (.slice a1 l1 c1) bs) :
    Calls Try.prog 7 #[.slice a0 l0 c0, .slice a1 l1 c1] w fun e w' => e = .returned (.bool true) ∧ Below w.heap.size w w' := by
  obtain ⟨rfl, _, _⟩ := hv.len
  obtain ⟨i0, hi0, hz0, hz1, hz2⟩ := info_parts info_u8
  have HI := Lib.hid hi0
  have HI1 := Lib.hid hz1
  have HV := Lib.hid hv
  have HN := Lib.hid (new_src a0 l0 c0 zs w hz)
  obtain ⟨B, hB⟩ : ∃ B, B = w.heap.size := ⟨_, rfl⟩
  have HB := Lib.hid hB
  have HQ := Lib.hid (show ∀ n, w.heap.size ≤ n → B ≤ n from fun n hn => by rw [hB]; exact hn)
  have HZ := Lib.hid (Nat.le_of_eq hB)
  clear hz hv hi0 hz0 hz1 hz2 hB
  go_enter Try.func7, Try.ntmps7
  go_wp2_with fail
  refine HN.out.mono ?_
  rintro e w1 ⟨g, rfl, hs, hb⟩
  rw [← HB.out] at hs hb
  have HS1 := Lib.hid hs
  have HW1 := Lib.hid hb
  have HBG := Lib.hid hs.1
  clear hs hb
  go_wp2_with fail
  refine (range_any B g _ HS1.out 1 100000 (by omega) (by omega) (by omega)).mono ?_
  rintro e w2 ⟨x, rfl, x1, x2, hs, hg⟩
  have HS2 := Lib.hid hs
  have HW2 := Lib.hid (below_only HW1.out hg HBG.out (by rw [HB.out]; exact Nat.le_refl _))
  clear hs hg
  go_wp2_with fail
  refine (message_any B g _ HS2.out x 0 65535).mono ?_
  rintro e w3 ⟨M, rfl, m0, m1, ⟨m2, m3⟩, ⟨m4, m5⟩, ⟨m6, m7⟩, ⟨m8, m9⟩, m10, hs, hg⟩
  have hsp := intoF_span (rtF x) 0 65535 (rtF_lt x).1 (rtF_lt x).2 (by omega) (by omega) (by omega)
  rw [← m1] at hsp
  have HOK := Lib.hid (show vf M = 0 from ok_vf ⟨⟨by omega, by omega⟩, ⟨hsp.1, hsp.2⟩, ⟨m2, by omega⟩, ⟨m4, by omega⟩, ⟨m6, m7⟩, ⟨m8, by omega⟩, by omega⟩)
  have HW3 := Lib.hid ((below_only HW2.out hg HBG.out (by rw [HB.out]; exact Nat.le_refl _)).alloc (by rw [HB.out]; exact (below_only HW2.out hg HBG.out (by rw [HB.out]; exact Nat.le_refl _)).size) (.cells M.cs 23))
  have hk := (MAt.fresh (f := M.nth) w3 M.id M.rt M.ep M.ct M.gn M.st M.bd 23 rfl rfl rfl rfl rfl rfl)
  have HK := Lib.hid hk
  have HE := Lib.hid (encode_any M (w3.alloc (.cells M.cs 23)))
  rw [show encF M = encB M from if_pos HOK.out, HOK.out] at HE
  clear hs hg hk m0 m1 m2 m3 m4 m5 m6 m7 m8 m9 m10 hsp x1 x2
  go_wp2_with fail
  refine HE.out.mono ?_
  rintro e w5 ⟨v5, rfl, hb5, hw5⟩
  obtain ⟨A5, c5, rfl, _, _, _⟩ := (show _ from hb5)
  have HB5 := Lib.hid hb5
  have HW5 := Lib.hid (HW3.out.trans (hw5.mono (HQ.out _ HW3.out.size)))
  have HK5 := Lib.hid (HK.out.below hw5 (by simp))
  have HLE := Lib.hid (enc_len HOK.out)
  have HD := Lib.hid (decode_any A5 _ c5 (encB M) w5 hb5 (by have := enc_len HOK.out; omega))
  unfold DcEnd at HD
  rw [dec_enc HOK.out] at HD
  clear hb5 hw5
  go_wp2_with fail
  refine HD.out.mono ?_
  rintro e w6 ⟨rfl, hw6⟩
  obtain ⟨m, hm⟩ : ∃ m, m = w3.heap.size := ⟨_, rfl⟩
  rw [← hm] at HK5
  have hk6 := (HK5.out.below hw6 HK5.out.1).alloc (.cells M.cs 23)
  obtain ⟨⟨a0', a1', a2, a3, a4, a5, a6⟩, _⟩ := hk6.facts
  simp only [Msg.nth] at a0' a1' a2 a3 a4 a5
  have hw6' := (HW5.out.trans (hw6.mono (HQ.out _ HW5.out.size)))
  have HW6 := Lib.hid (hw6'.alloc (HQ.out _ hw6'.size) (.cells M.cs 23))
  have HB6 := Lib.hid (show Bs (w6.alloc (.cells M.cs 23)) (w6.alloc (.cells M.cs 23)).heap.size (.slice A5 (encB M).length c5) (encB M) from ((HB5.out.below hw6).alloc hw6.size (.cells M.cs 23)).more (by have := hw6.size; simp; omega))
  have hne := neqm M
  clear hw6 hw6' hk6
  rw [← hm]
  have HM := Lib.hid hm
  clear hm
  go_wp2
  clear a0' a1' a2 a3 a4 a5 a6 hne
  go_loopw [11] (fun i wr => ∃ k : Nat, k ≤ (encB M).length ∧ i = .int .i64 k ∧ Below B w wr ∧ Bs wr wr.heap.size (.slice A5 (encB M).length c5) (encB M)) (fun i _ => (encB M).length - (intOf i).toNat)
  case atStart => exact ⟨0, Nat.zero_le _, rfl, HW6.out, HB6.out⟩
  case round =>
    obtain ⟨k, hk, rfl, hbel, hbs⟩ := hrel
    have HW := Lib.hid hbel
    have HS := Lib.hid hbs
    have hle := HLE.out
    clear hbel hbs
    by_cases hlt : k < (encB M).length
    · obtain ⟨A', hcut, hv'⟩ := run_upto (P := Try.prog) 41 5 i0 Try.underlying41 HI.out HI1.out HS.out .i64 k hk
      have HD := Lib.hid (decode_any A' k c5 ((encB M).take k) wr hv' (by omega))
      have hne := dec_cut HOK.out k hlt
      unfold DcEnd at HD
      generalize (decF ((encB M).take k)).1 = M' at *
      generalize (decF ((encB M).take k)).2 = e' at *
      have hne' : (e' == 0) = false := beq_eq_false_iff_ne.2 hne
      clear hv' hne
      go_wp2_with fail
      refine HD.out.mono ?_
      rintro e w7 ⟨rfl, hw7⟩
      have HW7 := Lib.hid ((HW.out.trans (hw7.mono (HQ.out _ HW.out.size))).alloc (HQ.out _ (HW.out.trans (hw7.mono (HQ.out _ HW.out.size))).size) (.cells M'.cs 23))
      have HB7 := Lib.hid (show Bs (w7.alloc (.cells M'.cs 23)) (w7.alloc (.cells M'.cs 23)).heap.size (.slice A5 (encB M).length c5) (encB M) from ((HS.out.below hw7).alloc hw7.size (.cells M'.cs 23)).more (by have := hw7.size; simp; omega))
      clear hw7 hcut
      go_wp2
      go_roundw
      case rel => exact ⟨k + 1, by omega, by go_num, HW7.out, HB7.out⟩
      case measure => simp [intOf]; omega
    · obtain rfl : k = (encB M).length := by omega
      by_cases hl : (100 : Int) < (bs.length : Int)
      · go_wp2
        go_ret
        exact ⟨rfl, HB.out ▸ HW.out⟩
      · have HV7 := Lib.hid ((HV.out.below (HB.out ▸ HW.out)).more (HB.out ▸ HW.out : Below w.heap.size w wr).size)
        have HD := Lib.hid (decode_any a1 _ c1 bs wr HV7.out (by omega))
        unfold DcEnd at HD
        by_cases hd : (decF bs).2 = 0
        · obtain ⟨hok, henc⟩ := enc_dec hd
          rw [hd] at HD
          have HE2 := Lib.hid (fun w => encode_any (decF bs).1 w)
          rw [hok, show encF (decF bs).1 = bs from (if_pos hok).trans henc] at HE2
          generalize (decF bs).1 = M' at *
          clear hd hok henc
          go_wp2_with fail
          refine HD.out.mono ?_
          rintro e w8 ⟨rfl, hw8⟩
          have HW8 := Lib.hid ((HW.out.trans (hw8.mono (HQ.out _ HW.out.size))).alloc (HQ.out _ (HW.out.trans (hw8.mono (HQ.out _ HW.out.size))).size) (.cells M'.cs 23))
          clear hw8
          go_wp2_with fail
          refine (HE2.out _).mono ?_
          rintro e w9 ⟨v9, rfl, hb9, hw9⟩
          obtain ⟨A9, c9, rfl, _, _, _⟩ := (show _ from hb9)
          have HW9 := Lib.hid (HW8.out.trans (hw9.mono (HQ.out _ HW8.out.size)))
          have HS9 := Lib.hid (same_any _ _ _ _ _ hb9 ((HV.out.below (HB.out ▸ HW9.out)).more (HB.out ▸ HW9.out : Below w.heap.size w w9).size))
          rw [show (bs == bs) = true by simp] at HS9
          clear hb9 hw9
          go_wp2_with fail
          refine HS9.out.mono ?_
          rintro e w10 ⟨rfl, rfl⟩
          go_wp2_with fail
          refine (awake3_any _).mono ?_
          rintro e w10 ⟨rfl, hw10⟩
          have HW10 := Lib.hid (HW9.out.trans (hw10.mono (HQ.out _ HW9.out.size)))
          clear hw10
          go_wp2
          go_ret
          exact ⟨rfl, HB.out ▸ HW10.out⟩
        · generalize (decF bs).1 = M' at *
          generalize (decF bs).2 = e' at *
          have hne' : (e' != 0) = true := bne_iff_ne.2 hd
          clear hd
          go_wp2_with fail
          refine HD.out.mono ?_
          rintro e w8 ⟨rfl, hw8⟩
          have HW8 := Lib.hid ((HW.out.trans (hw8.mono (HQ.out _ HW.out.size))).alloc (HQ.out _ (HW.out.trans (hw8.mono (HQ.out _ HW.out.size))).size) (.cells M'.cs 23))
          clear hw8
          go_wp2_with fail
          refine (awake3_any _).mono ?_
          rintro e w10 ⟨rfl, hw10⟩
          have HW10 := Lib.hid (HW8.out.trans (hw10.mono (HQ.out _ HW8.out.size)))
          clear hw10
          go_wp2
          go_ret
          exact ⟨rfl, HB.out ▸ HW10.out⟩
/-! The row's step, as the guide's shell has it. -/
namespace messageBack
open Go.ChangeShapes Go.WideShapes Go.ChangeAt
open Go.ChangeMaps (open_string shut_string)
theorem own : ownKnob Try.prog.godebug = none := by kernel_rfl
theorem laidOut : laidOutB Try.prog = true := by kernel_rfl

set_option maxRecDepth 100000 in
theorem lifted (os : Os) (started : os.Started) (H : Type) (enc : TypeId × Value → H) :
    ReturnsInHanded {} Try.checked os 7 .any (Rows.messageBackSpec.pre6 enc Try.prog Try.f7 Rows.messageBackRow.domain false) (Rows.messageBackSpec.post enc Try.prog Try.f7 false true false false) := by
  refine returnsInHanded_of_change (C := Try.checked) own started (by kernel_rfl) Try.func7
    (ChangeSpec.witness6 (enc := enc) (C := Try.checked) false ⟨#[], #[.slice none 0 0, .slice none 0 0], []⟩ 8 (by kernel_rfl) (by kernel_rfl) (by kernel_rfl) (by kernel_rfl)) ?_
  intro W base args ds gs before hval0 hW hcnd _
  have hval : ∀ (j : Nat) t v, Try.f7.params[j]? = some t → args[j]? = some v → Value.okWide Try.prog W .any base t v := hval0
  have hW' := hW
  obtain ⟨p, q, hA0, hV, rfl, hfz, hnd⟩ := hW
  have hA : DataW.TrodAll enc Try.prog W 0 (fun _ => true) true Try.f7.params.toList args.toList ds p := hA0
  rw [Try.params7] at hA hval
  obtain ⟨v0, vs0, d0, ds0, p0, q0, hargs, rfl, rfl, h0, r0⟩ := trodAll_cons hA
  obtain ⟨v1, vs1, d1, ds1, p1, q1, rfl, rfl, rfl, h1, r1⟩ := trodAll_cons r0
  obtain ⟨rfl, rfl, rfl⟩ := trodAll_nil r1
  obtain rfl : args = #[v0, v1] := by cases args; simp_all
  obtain ⟨rfl, rfl⟩ := trodVars_none hV
  obtain ⟨a0, len0, cap0, rfl⟩ := okWide_slice Try.underlying32 (hval 0 32 v0 rfl rfl)
  have k0 := h0
  have lt0 : ∀ x ∈ p0, x.block < W.heap.size := by obtain ⟨m, hm⟩ := k0; exact DataW.trod_lt m _ _ _ hm
  obtain ⟨z0, w0⟩ : ∃ zs, Ns W W.heap.size (.slice a0 len0 cap0) zs := by
    obtain ⟨fuel, hf⟩ := h0
    rcases open_ints Try.underlying32 Try.underlying3 (by kernel_rfl) hf with ⟨hcs, _⟩ | ⟨x, l, c, zs, hcs, _, hl, hm, hz, _, hcell, hwz⟩
    · simp [Value.cells] at hcs
      obtain ⟨rfl, rfl, rfl⟩ := hcs
      exact ⟨[], Ns.nil⟩
    · simp [Value.cells] at hcs
      obtain ⟨rfl, rfl, rfl⟩ := hcs
      exact Ns.of_cells hl hm (by simpa using hz) hcell hwz
  obtain ⟨a1, len1, cap1, rfl⟩ := okWide_slice Try.underlying41 (hval 1 41 v1 rfl rfl)
  have k1 := h1
  have lt1 : ∀ x ∈ p1, x.block < W.heap.size := by obtain ⟨m, hm⟩ := k1; exact DataW.trod_lt m _ _ _ hm
  obtain ⟨z1, w1⟩ : ∃ zs, Bs W W.heap.size (.slice a1 len1 cap1) zs := by
    obtain ⟨fuel, hf⟩ := h1
    rcases open_ints Try.underlying41 Try.underlying5 (by kernel_rfl) hf with ⟨hcs, _⟩ | ⟨x, l, c, zs, hcs, _, hl, hm, hz, _, hcell, hwz⟩
    · simp [Value.cells] at hcs
      obtain ⟨rfl, rfl, rfl⟩ := hcs
      exact ⟨[], Bs.nil⟩
    · simp [Value.cells] at hcs
      obtain ⟨rfl, rfl, rfl⟩ := hcs
      exact Bs.of_cells hl hm (by simpa using hz) hcell hwz
  clear hA0 hval0
  refine (MessageBack_walk W a0 len0 cap0 z0 w0 a1 len1 cap1 z1 w1).mono fun e W' ⟨he, bel⟩ => ?_
  subst he
  exact ⟨_, rfl, _, _, _, [], _, [], hW', trodAll_mk1 (shut_bool Try.underlying4 _), (trodAll_cons_mk (Below.trod laidOut (by kernel_rfl) (of_decide_eq_true (by kernel_rfl)) k0 bel lt0) (trodAll_cons_mk (Below.trod laidOut (by kernel_rfl) (of_decide_eq_true (by kernel_rfl)) k1 bel lt1) trodAll_mk0)), rfl, bel.frame _, fun h => by cases h⟩

theorem over : Rows.messageBackRow.holds Try.pinned (OpenSpec.ofChange Rows.messageBackSpec) :=
  OpenClaim.holds_of_wide 7 Try.f7 rfl rfl rfl rfl rfl rfl rfl ⟨rfl, rfl, rfl, rfl, rfl⟩ rfl rfl rfl rfl rfl (by kernel_rfl) Try.func7 (by kernel_rfl)
    (of_decide_eq_true (by kernel_rfl)) (by unfold Func.isWrapper; first | (rw [if_pos (by decide +kernel)]; kernel_rfl) | (rw [if_neg (by decide +kernel)]; exact ⟨rfl, rfl⟩))
    (fun os started H enc _ => lifted os started H enc)

/-- The statement. -/
theorem proved : Rows.MessageBackSaid := over
#print axioms proved
end messageBack
end Go.Proofs.Ytjiampelmiaflaa
