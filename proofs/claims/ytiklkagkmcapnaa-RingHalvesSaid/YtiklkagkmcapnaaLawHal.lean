/- What is proved here: shardqueuelaw04.RingHalves returns true for every input and leaves its arguments as they were. No condition. -/
import Derived.Test.YtiklkagkmcapnaaJ14
import Derived.Test.YtiklkagkmcapnaaJ22
import Derived.Test.YtiklkagkmcapnaaJ15
import Derived.Test.YtiklkagkmcapnaaJ21
import Derived.Test.YtiklkagkmcapnaaJ08
import Derived.Test.YtiklkagkmcapnaaJ20
import Derived.ProofKit
import Derived.OpenShut
import Derived.ShutString
import Derived.ChangeOld
namespace Go.Proofs.Ytiklkagkmcapnaa
open Go.RowKit
set_option linter.unusedVariables false

attribute [local go_sem ↓] Go.wp_at_zero Go.wp_at_succ
set_option maxHeartbeats 16000000 in
set_option maxRecDepth 20000 in
theorem RingHalves_walk (w : World) (a0 : Option Addr) (l0 c0 : Nat) (zs : List Int) (hz : Ns w w.heap.size (.slice a0 l0 c0) zs) :
    Calls Try.prog 6 #[.slice a0 l0 c0] w fun e w' => e = .returned (.bool true) ∧ Below w.heap.size w w' := by
  obtain ⟨i0, hi0, hz0⟩ := Option.map_eq_some_iff.1 info_msg
  simp only [Prod.mk.injEq] at hz0
  have HI := Lib.hid hi0
  have HZ := Lib.hid hz0
  have HN := Lib.hid (new_src a0 l0 c0 zs w hz)
  clear hz hi0 hz0
  go_enter Try.func6, Try.ntmps6
  go_wp2_with fail
  refine HN.out.mono ?_
  rintro e w1 ⟨g, rfl, hs, hb⟩
  have HW1 := Lib.hid hb
  have HS1 := Lib.hid hs
  clear hb hs
  go_wp2_with fail
  refine (ring_any w.heap.size g _ HS1.out 12 1 0 65535 (by omega) (by omega) (by omega) (by omega) (by omega) (by omega) (by omega)).mono ?_
  rintro e w2 ⟨A, c, k, hd, L, rfl, hnw, hl, k1, k2, hh, hL, hL8, hgd, hids, hs, hg⟩
  have HGD := Lib.hid hgd
  have HL2 := Lib.hid hl
  have HW2 := Lib.hid (below_only HW1.out hg HS1.out.1 (Nat.le_refl _))
  have HR2 := Lib.hid (RB.fresh w2 A k c hd L.length 24)
  have hL12 : (L.length : Int) ≤ 12 := hL8
  have HLI := Lib.hid (fun A c w1 (h : Ls w1 w1.heap.size (.slice A k c) (fil k hd L)) => (show Calls Try.prog 25 #[.agg #[.slice A k c, .int .i64 hd, .int .i64 L.length]] w1 (LsP L w1) by
    have := glist_any A k c (fil k hd L) hd L.length w1 h
    rw [lsF_fil k1 k2 hh hL hgd] at this
    exact this))
  clear hnw hl hgd hids hs hg
  go_wp2_with fail
  refine (HLI.out _ _ _ ((HL2.out.alloc (Nat.le_refl _) _).more (by simp))).mono ?_
  rintro e w3 ⟨v, rfl, _, hl, hb⟩
  obtain ⟨p, hp⟩ : ∃ p, p = w2.heap.size := ⟨_, rfl⟩
  obtain ⟨AL, cL, rfl, _, _⟩ := hl.form
  have HP := Lib.hid hp
  have HRV := Lib.hid (RvAt.mk (w := w) (p := p) (hp ▸ HR2.out.below hb (by simp)) ((HL2.out.alloc (Nat.le_refl _) _).more (by simp) |>.up hb) hl (btr (bal HW2.out (.cells #[.slice A k c, .int .i64 hd, .int .i64 L.length] 24)) hb) (hp ▸ HW2.out.size))
  rw [← hp]
  obtain ⟨r0, r1, r2, r3, r4, r5, hpl⟩ := HRV.out.rb.facts
  clear hl hb hp HR2
  go_wp2
  clear r0 r1 r2 r3 r4 r5 hpl
  go_loopw [6] (fun i wr => ∃ j : Nat, j ≤ L.length + 1 ∧ i = .int .i64 j ∧ RvAt w p A k c hd L AL cL wr) (fun i _ => L.length + 1 - (intOf i).toNat)
  case atStart => exact ⟨0, Nat.zero_le _, rfl, HRV.out⟩
  case round =>
    obtain ⟨j, hj, rfl, hrv⟩ := hrel
    have HR := Lib.hid hrv
    obtain ⟨r0, r1, r2, r3, r4, r5, hpl⟩ := hrv.rb.facts
    clear hrv
    by_cases hlt : j ≤ L.length
    · obtain ⟨hE, hC, hP⟩ := dt_fil k1 k2 hh hL HGD.out hlt
      have hTP : L.take (L.length - j) ++ L.drop (L.length - j) = L := List.take_append_drop _ _
      have hTL : (L.take (L.length - j)).length = L.length - j := by rw [List.length_take]; omega
      have hPL : (L.drop (L.length - j)).length = j := by rw [List.length_drop]; omega
      have HDT := Lib.hid (fun W (h : Ls W W.heap.size (.slice A k c) (fil k hd L)) => (show Calls Try.prog 26 #[.agg #[.slice A k c, .int .i64 hd, .int .i64 L.length], .int .i64 j] W (RLP W (fil k hd (L.take (L.length - j))) hd ((L.length : Int) - j) (L.drop (L.length - j)) 0) by
        have := detach_any A k c (fil k hd L) hd L.length j W h
        rw [hE, hC, hP, show ifE 0 (hd : Int) = hd from rfl, show ifE 0 ((L.length : Int) - j) = (L.length : Int) - j from rfl] at this
        exact this))
      have hab := ao_fil (l := L.take (L.length - j)) (P := L.drop (L.length - j)) k1 k2 hh (by rw [hTL, hPL]; omega) (by rw [hTP]; exact HGD.out)
      rw [hTP, hTL] at hab
      have HAB := Lib.hid (fun A' c' A2 c2 W (h : Ls W W.heap.size (.slice A' k c') (fil k hd (L.take (L.length - j)))) (h2 : Ls W W.heap.size (.slice A2 j c2) (L.drop (L.length - j))) => (show Calls Try.prog 27 #[.agg #[.slice A' k c', .int .i64 hd, .int .i64 ((L.length : Int) - j)], .slice A2 j c2] W (RP W (fil k hd L) hd L.length 0) by
        have := absorb_any A' k c' (fil k hd (L.take (L.length - j))) hd ((L.length : Int) - j) A2 j c2 (L.drop (L.length - j)) W h h2
        rw [show ((L.length : Int) - j) = ((L.length - j : Nat) : Int) by omega, hab.1, hab.2, hPL, show ifE 0 (hd : Int) = hd from rfl, show ifE 0 (((L.length - j : Nat) : Int) + (j : Int)) = ((L.length - j : Nat) : Int) + (j : Int) from rfl, show ((L.length - j : Nat) : Int) + (j : Int) = (L.length : Int) by omega] at this
        rw [show ((L.length : Int) - j) = ((L.length - j : Nat) : Int) by omega]
        exact this))
      have HLT := Lib.hid (fun A' c' W (h : Ls W W.heap.size (.slice A' k c') (fil k hd (L.take (L.length - j)))) => (show Calls Try.prog 25 #[.agg #[.slice A' k c', .int .i64 hd, .int .i64 ((L.length : Int) - j)]] W (LsP (L.take (L.length - j)) W) by
        have := glist_any A' k c' (fil k hd (L.take (L.length - j))) hd ((L.length : Int) - j) W h
        rw [show ((L.length : Int) - j) = ((L.take (L.length - j)).length : Int) by rw [hTL]; omega, lsF_fil k1 k2 hh (by rw [hTL]; omega) (gd_take HGD.out _)] at this
        rw [show ((L.length : Int) - j) = ((L.take (L.length - j)).length : Int) by rw [hTL]; omega]
        exact this))
      have HTP := Lib.hid hTP
      have HTL := Lib.hid hTL
      have HPL := Lib.hid hPL
      have HFT := Lib.hid (fil_len k hd (L.take (L.length - j)))
      have HFL := Lib.hid (fil_len k hd L)
      clear hE hC hP hTP hTL hPL hab
      generalize L.take (L.length - j) = T at *
      generalize L.drop (L.length - j) = Pt at *
      go_wp2_with fail
      refine (HDT.out _ HR.out.ls).mono ?_
      rintro e w4 ⟨A4, c4, A5, c5, rfl, hnw4, hnw5, hl4, hl5, hb⟩
      rw [HFT.out] at hl4 ⊢
      rw [HPL.out] at hl5 ⊢
      have HB4 := Lib.hid hb
      have HL4 := Lib.hid ((hl4.alloc (Nat.le_refl _) (.cells #[.slice A4 k c4, .int .i64 hd, .int .i64 ((L.length : Int) - j)] 24)).more (show w4.heap.size ≤ (w4.alloc (.cells #[.slice A4 k c4, .int .i64 hd, .int .i64 ((L.length : Int) - j)] 24)).heap.size by simp))
      have HL5 := Lib.hid ((hl5.alloc (Nat.le_refl _) (.cells #[.slice A4 k c4, .int .i64 hd, .int .i64 ((L.length : Int) - j)] 24)).more (show w4.heap.size ≤ (w4.alloc (.cells #[.slice A4 k c4, .int .i64 hd, .int .i64 ((L.length : Int) - j)] 24)).heap.size by simp))
      have HX4 := Lib.hid (RB.fresh w4 A4 k c4 hd ((L.length : Int) - j) 24)
      clear hnw4 hnw5 hl4 hl5 hb r0 r1 r2 r3 r4 r5 hpl
      go_wp2_with fail
      refine (HAB.out _ _ _ _ _ HL4.out HL5.out).mono ?_
      rintro e w5 ⟨A6, c6, rfl, hnw6, hl6, hb⟩
      rw [HFL.out] at hl6 ⊢
      have HB5 := Lib.hid (btr (bal HB4.out _) hb)
      have HX5 := Lib.hid (HX4.out.below hb (by simp))
      have HL55 := Lib.hid (HL5.out.up hb)
      have HL45 := Lib.hid (HL4.out.up hb)
      have HL6 := Lib.hid hl6
      clear hnw6 hl6 hb
      have HR5 := Lib.hid (HR.out.below HB5.out)
      obtain ⟨r0, r1, r2, r3, r4, r5, hpl⟩ := HR5.out.rb.facts
      obtain ⟨x0, x1, x2, x3, x4, x5, hxl⟩ := HX5.out.facts
      go_wp2_with fail
      refine (gsame_yes _ _ _ _ _ _ _ _ _ _ w5.heap.size w5.heap.size (by simp) (by simp) (HL6.out.alloc (Nat.le_refl _) _) (HR5.out.ls.alloc (Nat.le_refl _) _)).mono ?_
      rintro e w6 ⟨rfl, hb⟩
      have HB6 := Lib.hid (btr (bal (Below.refl w5.heap.size w5) _) hb)
      clear r0 r1 r2 r3 r4 r5 hpl x0 x1 x2 x3 x4 x5 hxl hb
      obtain ⟨x0, x1, x2, x3, x4, x5, hxl⟩ := (HX5.out.below HB6.out HX5.out.lt).facts
      go_wp2_with fail
      refine (HLT.out _ _ _ (HL45.out.up HB6.out)).mono ?_
      rintro e w7 ⟨v7, rfl, hnv, hl7, hb⟩
      obtain ⟨A7, c7, rfl, _, _⟩ := hl7.form
      rw [HTL.out] at hl7 ⊢
      have HL7 := Lib.hid hl7
      have HB7 := Lib.hid (btr HB6.out hb)
      have HL57 := Lib.hid (HL55.out.up HB7.out)
      clear hnv hl7 hb x0 x1 x2 x3 x4 x5 hxl
      have hj12 : j ≤ 12 := by omega
      have HTL' := Lib.hid (show L.length - j ≤ 12 by omega)
      go_wp2_with (first
        | (at_builtin; refine wpList_append_rw _ (by kernel_rfl) (.const (.slice none 0 0)) (.tmp 56) 22 (by rfl) w7.heap.size 26 i0 _ 7 64 Try.underlying22 HI.out HZ.out.1 HZ.out.2.1 HZ.out.2.2 rfl (by omega) (.slice none 0 0) 0 [] (by rfl) (World.ownsRow_nil _ _ _ _) w7.heap.size A7 (L.length - j) c7 (lcs T) (by rfl) HL7.out.rd (lcs_one _) (by have := HTL'.out; unfold maxLen; omega) (by have := HTL'.out; omega) (Nat.le_refl _) ?_; intro v8 w8 hown8 hgrow8 hat8; have HB8 := Lib.hid ((Below.refl w7.heap.size w7).grown hgrow8 (Nat.le_refl _) (fun k hk => by simp [Value.ownBlock] at hk)); have HO8 := Lib.hid hown8; have HL58 := Lib.hid (HL57.out.below HB8.out); clear hown8 hgrow8 hat8)
        | (at_builtin; refine wpList_append_rw _ (by kernel_rfl) (.tmp 57) (.tmp 58) 22 (by rfl) w7.heap.size 26 i0 _ 7 64 Try.underlying22 HI.out HZ.out.1 HZ.out.2.1 HZ.out.2.2 rfl (by omega) v8 (0 + (L.length - j)) ([] ++ lcs T) (by rfl) HO8.out w7.heap.size A5 j c5 (lcs Pt) (by rfl) HL58.out.rd (lcs_one _) (by have := HTL'.out; unfold maxLen; omega) (by have := HTL'.out; omega) HB8.out.size ?_; intro v9 w9 hown9 hgrow9 hat9; obtain ⟨A9, c9, rfl⟩ := own_form hown9; have HB9 := Lib.hid (HB8.out.grown hgrow9 HB8.out.size (fun k hk => (HO8.out.lt k hk).1)); have HO9 := Lib.hid hown9; clear hown9 hgrow9 hat9))
      have HN9 := Lib.hid (show 0 + (L.length - j) + j = L.length by omega)
      rw [HN9.out] at HO9
      have HL9 := Lib.hid (show Ls w9 w9.heap.size (.slice A9 L.length c9) L from Ls.of_own (show w9.ownsRow w7.heap.size 26 7 (.slice A9 L.length c9) L.length (lcs L) by have := HO9.out; rw [show lcs L = [] ++ lcs T ++ lcs Pt by rw [List.nil_append, ← lcs_app, HTP.out]]; exact this))
      have HB59 := Lib.hid (btr HB7.out HB9.out)
      have HR9 := Lib.hid (HR5.out.below HB59.out)
      refine (rsame_yes _ _ _ _ _ _ _ _ _ _ HL9.out HR9.out.la).mono ?_
      rintro e w10 ⟨rfl, hb⟩
      have HR10 := Lib.hid (HR9.out.below hb)
      clear hb
      go_wp2
      go_roundw
      case rel => exact ⟨j + 1, by omega, by go_num, HR10.out⟩
      case measure => simp [intOf]; omega
    · go_wp2_with fail
      refine (awake4_any _).mono ?_
      rintro e w4 ⟨rfl, hb⟩
      have HB4 := Lib.hid (HR.out.bel.trans (hb.mono HR.out.bel.size))
      clear hb
      go_wp2
      go_ret
      exact ⟨rfl, HB4.out⟩
/-! The row's step, as the guide's shell has it. -/
namespace ringHalves
open Go.ChangeShapes Go.WideShapes Go.ChangeAt
open Go.ChangeMaps (open_string shut_string)
theorem own : ownKnob Try.prog.godebug = none := by kernel_rfl
theorem laidOut : laidOutB Try.prog = true := by kernel_rfl

set_option maxRecDepth 100000 in
theorem lifted (os : Os) (started : os.Started) (H : Type) (enc : TypeId × Value → H) :
    ReturnsInHanded {} Try.checked os 6 .any (Rows.ringHalvesSpec.pre6 enc Try.prog Try.f6 Rows.ringHalvesRow.domain false) (Rows.ringHalvesSpec.post enc Try.prog Try.f6 false true false false) := by
  refine returnsInHanded_of_change (C := Try.checked) own started (by kernel_rfl) Try.func6
    (ChangeSpec.witness6 (enc := enc) (C := Try.checked) false ⟨#[], #[.slice none 0 0], []⟩ 8 (by kernel_rfl) (by kernel_rfl) (by kernel_rfl) (by kernel_rfl)) ?_
  intro W base args ds gs before hval0 hW hcnd _
  have hval : ∀ (j : Nat) t v, Try.f6.params[j]? = some t → args[j]? = some v → Value.okWide Try.prog W .any base t v := hval0
  have hW' := hW
  obtain ⟨p, q, hA0, hV, rfl, hfz, hnd⟩ := hW
  have hA : DataW.TrodAll enc Try.prog W 0 (fun _ => true) true Try.f6.params.toList args.toList ds p := hA0
  rw [Try.params6] at hA hval
  obtain ⟨v0, vs0, d0, ds0, p0, q0, hargs, rfl, rfl, h0, r0⟩ := trodAll_cons hA
  obtain ⟨rfl, rfl, rfl⟩ := trodAll_nil r0
  obtain rfl : args = #[v0] := by cases args; simp_all
  obtain ⟨rfl, rfl⟩ := trodVars_none hV
  obtain ⟨a0, len0, cap0, rfl⟩ := okWide_slice Try.underlying34 (hval 0 34 v0 rfl rfl)
  have k0 := h0
  have lt0 : ∀ x ∈ p0, x.block < W.heap.size := by obtain ⟨m, hm⟩ := k0; exact DataW.trod_lt m _ _ _ hm
  obtain ⟨z0, w0⟩ : ∃ zs, Ns W W.heap.size (.slice a0 len0 cap0) zs := by
    obtain ⟨fuel, hf⟩ := h0
    rcases open_ints Try.underlying34 Try.underlying3 (by kernel_rfl) hf with ⟨hcs, _⟩ | ⟨x, l, c, zs, hcs, _, hl, hm, hz, _, hcell, hwz⟩
    · simp [Value.cells] at hcs
      obtain ⟨rfl, rfl, rfl⟩ := hcs
      exact ⟨[], Ns.nil⟩
    · simp [Value.cells] at hcs
      obtain ⟨rfl, rfl, rfl⟩ := hcs
      exact Ns.of_cells hl hm (by simpa using hz) hcell hwz
  clear hA0 hval0
  refine (RingHalves_walk W a0 len0 cap0 z0 w0).mono fun e W' ⟨he, bel⟩ => ?_
  subst he
  exact ⟨_, rfl, _, _, _, [], _, [], hW', trodAll_mk1 (shut_bool Try.underlying4 _), (trodAll_cons_mk (Below.trod laidOut (by kernel_rfl) (of_decide_eq_true (by kernel_rfl)) k0 bel lt0) trodAll_mk0), rfl, bel.frame _, fun h => by cases h⟩

theorem over : Rows.ringHalvesRow.holds Try.pinned (OpenSpec.ofChange Rows.ringHalvesSpec) :=
  OpenClaim.holds_of_wide 6 Try.f6 rfl rfl rfl rfl rfl rfl rfl ⟨rfl, rfl, rfl, rfl, rfl⟩ rfl rfl rfl rfl rfl (by kernel_rfl) Try.func6 (by kernel_rfl)
    (of_decide_eq_true (by kernel_rfl)) (by unfold Func.isWrapper; first | (rw [if_pos (by decide +kernel)]; kernel_rfl) | (rw [if_neg (by decide +kernel)]; exact ⟨rfl, rfl⟩))
    (fun os started H enc _ => lifted os started H enc)

/-- The statement. -/
theorem proved : Rows.RingHalvesSaid := over
#print axioms proved
end ringHalves
end Go.Proofs.Ytiklkagkmcapnaa
