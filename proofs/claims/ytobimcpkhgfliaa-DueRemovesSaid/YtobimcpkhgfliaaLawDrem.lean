/- What is proved here: shardqueuelaw05.DueRemoves returns true for every input and leaves its argument as it was. No condition. -/
import Derived.Test.YtobimcpkhgfliaaJ12
import Derived.Test.YtobimcpkhgfliaaJ13
import Derived.Test.YtobimcpkhgfliaaJ14
import Derived.ProofKit
import Derived.OpenShut
import Derived.ShutString
import Derived.ChangeOld
namespace Go.Proofs.Ytobimcpkhgfliaa
open Go.RowKit
set_option linter.unusedVariables false

theorem ge_inj {l : List Du} (hd : ¬ dupD l) {i k : Nat} (hi : i < l.length) (hk : k < l.length) (h : ge l i = ge l k) : i = k := by
  rcases Nat.lt_trichotomy i k with e | e | e
  · exact absurd ⟨i, k, e, hk, by rw [h]⟩ hd
  · exact e
  · exact absurd ⟨k, i, e, hi, by rw [h]⟩ hd
theorem cut_in {l : List Du} (hv : vaF l = 0) {i k : Nat} (hi : i < l.length) (hk : k < l.length) : ge l k ∈ cuF l i ↔ k ≠ i := by
  obtain ⟨_, _, hd, _⟩ := vaF_zero hv
  rw [(cuF_perm hi).mem_iff, List.mem_eraseIdx_iff_getElem]
  constructor
  · rintro ⟨j, hj, hji, e⟩ rfl
    rw [ge_get hj] at e
    exact hji (ge_inj hd hj hk e)
  · intro h
    exact ⟨k, hk, h, ge_get hk⟩
theorem rm_at {l : List Du} (hv : vaF l = 0) {i : Nat} (hi : i < l.length) : rmE l (ge l i).id = 0 ∧ rmR l (ge l i).id = cuF l i := by
  obtain ⟨_, _, hd, _⟩ := vaF_zero hv
  have hx : ixD l (ge l i).id = i := ixD_self (fun a b hab hb e => hd ⟨a, b, hab, hb, e⟩) hi
  have he : rmE l (ge l i).id = 0 := by unfold rmE; rw [if_neg (by simpa using hv), if_neg (by rw [hx]; omega)]
  exact ⟨he, by unfold rmR; rw [if_pos he, hx]; rfl⟩
theorem memd_take_succ {U : List Du} {k : Nat} (hk : k < U.length) (x : Du) : x ∈ U.take (k + 1) ↔ x ∈ U.take k ∨ ge U k = x := by
  rw [← List.take_append_getElem hk, List.mem_append, List.mem_singleton, ge_get hk]
  exact ⟨fun h => h.imp_right Eq.symm, fun h => h.imp_right Eq.symm⟩
/-- What a statement about Remove holds. -/
structure RtAt (w : World) (A : Option Addr) (n c : Nat) (l : List Du) (AX : Option Addr) (m cX : Nat) (X : List Du) (W : World) : Prop where
  dl : Dl W W.heap.size (.slice A n c) l
  dx : Dl W W.heap.size (.slice AX m cX) X
  bel : Below w.heap.size w W
theorem RtAt.drewN {w W : World} {A : Option Addr} {n c : Nat} {l : List Du} {AX : Option Addr} {m cX : Nat} {X : List Du} (h : RtAt w A n c l AX m cX X W) (k : Nat) : RtAt w A n c l AX m cX X (W.drewN k) := ⟨h.dl, h.dx, bel_drewN h.bel k⟩
open Classical in
noncomputable def sameD (a b : Du) : Bool := decide (a = b)
open Classical in
theorem sameD_iff (a b : Du) : sameD a b = true ↔ a = b := decide_eq_true_iff
open Classical in
theorem eqd_run (a b : Du) : ∀ W, (binOp .eql 24 a.v b.v).run Try.prog W = .ok (.bool (sameD a b)) W := fun W => by
  rw [run_eql_struct, eqd_in]; rfl

set_option maxHeartbeats 16000000 in
set_option maxRecDepth 20000 in
theorem DueRemoves_walk (w : World) (a0 : Option Addr) (l0 c0 : Nat) (zs : List Int) (hz : Ns w w.heap.size (.slice a0 l0 c0) zs) :
    Calls Try.prog 6 #[.slice a0 l0 c0] w fun e w' => e = .returned (.bool true) ∧ Below w.heap.size w w' := by
  have HN := Lib.hid (new_src a0 l0 c0 zs w hz)
  clear hz
  go_enter Try.func6, Try.ntmps6
  go_wp2_with fail
  refine HN.out.mono ?_
  rintro e w1 ⟨g, rfl, hs, hb⟩
  have HW1 := Lib.hid hb
  have HS1 := Lib.hid hs
  have HBG := Lib.hid (show w.heap.size ≤ g from hs.1)
  clear hb hs
  go_wp2_with fail
  refine (heap_any w.heap.size g _ HS1.out).mono ?_
  rintro e w2 ⟨A, c, l, rfl, hv, hnw, hl, hs, hg⟩
  have HV := Lib.hid hv
  have HL12 := Lib.hid (vaF_zero hv).1
  have HLW := Lib.hid (show Dl w2 w2.heap.size (.slice A l.length c) l ∧ Below w.heap.size w w2 from ⟨hl, below_only HW1.out hg HBG.out (Nat.le_refl _)⟩)
  obtain ⟨n, hn⟩ : ∃ n, n = l.length := ⟨_, rfl⟩
  rw [← hn] at HL12 HLW ⊢
  have HNL := Lib.hid hn
  have hl12 : (n : Int) ≤ 12 := by have := HL12.out; omega
  clear hv hnw hl hs hg hn
  go_wp2
  go_loopw [4] (fun iv wr => ∃ i : Nat, i ≤ n ∧ iv = .int .i64 i ∧ Dl wr wr.heap.size (.slice A n c) l ∧ Below w.heap.size w wr) (fun iv _ => n - (intOf iv).toNat)
  case atStart => exact ⟨0, Nat.zero_le _, rfl, HLW.out⟩
  case round =>
    obtain ⟨i, hi, rfl, hd, hb⟩ := hrel
    have HD := Lib.hid hd
    have HB := Lib.hid hb
    clear hd hb
    by_cases hlt : i < n
    · have hlt' : (i : Int) < (n : Int) := by omega
      obtain ⟨m, hm⟩ : ∃ m, n = m + 1 := ⟨n - 1, by omega⟩
      have HRM := Lib.hid (rm_at HV.out (i := i) (by have := HNL.out; omega))
      have HVC := Lib.hid (vaF_cut HV.out (i := i) (by have := HNL.out; omega))
      have HCL := Lib.hid (show (cuF l i).length = m by rw [cuF_len (by have := HNL.out; omega)]; have := HNL.out; omega)
      have HCI := Lib.hid (fun k (hk : k < n) => cut_in HV.out (i := i) (k := k) (by have := HNL.out; omega) (by have := HNL.out; omega))
      have HRE := Lib.hid (dremove_any A n c l (ge l i).id wr HD.out)
      rw [HRM.out.1, HRM.out.2] at HRE
      generalize cuF l i = Z at *
      obtain ⟨b, o, rfl, hbl, c0', c1'⟩ := HD.out.atg (k := i) (by have := HNL.out; omega)
      generalize ge l i = Y at *
      have HMN := Lib.hid hm
      clear hbl hm c0' HRM
      go_wp2_with fail
      refine HRE.out.mono ?_
      rintro e w3 ⟨A3, c3, rfl, _, hl3, hb3⟩
      rw [HCL.out] at hl3 ⊢
      have H3 := Lib.hid (show RtAt w (some ⟨b, o, none⟩) n c l A3 m c3 Z w3 from ⟨HD.out.up hb3, hl3, HB.out.trans (hb3.mono HB.out.size)⟩)
      have HVX := Lib.hid (dvalid_any A3 m c3 Z w3 hl3)
      rw [HVC.out] at HVX
      clear hl3 hb3 c1'
      go_wp2_with fail
      refine HVX.out.mono ?_
      rintro e w4 ⟨rfl, hb4⟩
      have H4 := Lib.hid (show RtAt w (some ⟨b, o, none⟩) n c l A3 m c3 Z w4 from ⟨H3.out.dl.up hb4, H3.out.dx.up hb4, H3.out.bel.trans (hb4.mono H3.out.bel.size)⟩)
      have hmn : ((m : Int) != (n : Int) - 1) = false := by have := HMN.out; simp; omega
      have hm12 : (m : Int) ≤ 12 := by have := HMN.out; have := HL12.out; omega
      clear hb4
      go_wp2
      go_loopw [7] (fun kv wr => ∃ k : Nat, k ≤ n ∧ kv = .int .i64 k ∧ RtAt w (some ⟨b, o, none⟩) n c l A3 m c3 Z wr) (fun kv _ => n - (intOf kv).toNat)
      case atStart => exact ⟨0, Nat.zero_le _, rfl, H4.out⟩
      case round =>
        obtain ⟨k, hk, rfl, hr⟩ := hrel
        have HR := Lib.hid hr
        clear hr
        by_cases hkl : k < n
        · have hkl' : (k : Int) < (n : Int) := by omega
          obtain ⟨V, hV⟩ : ∃ V, ge l k = V := ⟨_, rfl⟩
          have HVV := Lib.hid hV
          have HIV := Lib.hid (show V ∈ Z ↔ k ≠ i by rw [← hV]; exact HCI.out k hkl)
          clear hV
          go_wp2
          go_loopw [8, 9] (fun bv jv wr => ∃ (j : Nat) (bb : Bool), j ≤ m ∧ jv = .int .i64 j ∧ bv = .bool bb ∧ (bb = true ↔ V ∈ Z.take j) ∧ RtAt w (some ⟨b, o, none⟩) n c l A3 m c3 Z wr) (fun _ jv _ => m - (intOf jv).toNat)
          case atStart => exact ⟨0, false, Nat.zero_le _, rfl, rfl, by simp, HR.out⟩
          case round =>
            obtain ⟨j, bb, hj, rfl, rfl, hbj, hr⟩ := hrel
            have HT2 := Lib.hid hr
            have HBK := Lib.hid hbj
            clear hr hbj
            by_cases hjl : j < m
            · have hjl' : (j : Int) < (m : Int) := by omega
              have hjz : j < Z.length := by rw [HCL.out]; exact hjl
              cases bb with
              | true =>
                have HBN := Lib.hid (show V ∈ Z.take (j + 1) from (memd_take_succ hjz _).2 (.inl (HBK.out.1 rfl)))
                clear hjz
                go_wp2
                go_quiet (fail)
                go_wp2
                go_roundw
                case rel => exact ⟨j + 1, true, by omega, by go_num, rfl, ⟨fun _ => HBN.out, fun _ => rfl⟩, HT2.out.drewN _⟩
                case measure => simp [intOf]; omega
              | false =>
                obtain ⟨bz, oz, rfl, _, e0, e1⟩ := HT2.out.dx.atg hjz
                obtain ⟨bl2, ol2, el2, _, d0, d1⟩ := HT2.out.dl.atg (k := k) (by have := HNL.out; omega)
                injection el2 with el2
                injection el2 with el3 el4
                subst el3; subst el4
                rw [HVV.out] at d0 d1
                have HBN := Lib.hid (show sameD (ge Z j) V = true ↔ V ∈ Z.take (j + 1) by
                  rw [memd_take_succ hjz, sameD_iff]
                  exact ⟨.inr, fun h => h.resolve_left (fun h => by have := HBK.out.2 h; cases this)⟩)
                have hrun := eqd_run (ge Z j) V
                generalize ge Z j = Q at *
                obtain ⟨b2, hb2⟩ : ∃ b2, sameD Q V = b2 := ⟨_, rfl⟩
                rw [hb2] at HBN hrun
                clear hb2 hjz
                go_wp2
                go_quiet (fail)
                go_wp2
                go_roundw
                case rel => exact ⟨j + 1, b2, by omega, by go_num, rfl, HBN.out, HT2.out.drewN _⟩
                case measure => simp [intOf]; omega
            · obtain rfl : j = m := by omega
              have HB1 := Lib.hid (show bb = true ↔ k ≠ i by rw [HBK.out, ← HCL.out, List.take_length]; exact HIV.out)
              by_cases hki : k = i
              · have hbb : bb = false := by cases bb with | false => rfl | true => exact absurd hki (HB1.out.1 rfl)
                subst hbb
                have hq : ((k : Int) == (i : Int)) = true := by simp [hki]
                clear hki
                go_wp2
                go_roundw
                case rel => exact ⟨k + 1, by omega, by go_num, HT2.out⟩
                case measure => simp [intOf]; omega
              · have hbb : bb = true := HB1.out.2 hki
                subst hbb
                have hq : ((k : Int) == (i : Int)) = false := by simp; omega
                clear hki
                go_wp2
                go_roundw
                case rel => exact ⟨k + 1, by omega, by go_num, HT2.out⟩
                case measure => simp [intOf]; omega
        · obtain rfl : k = n := by omega
          go_wp2
          go_roundw
          case rel => exact ⟨i + 1, by omega, by go_num, HR.out.dl, HR.out.bel⟩
          case measure => simp [intOf]; omega
    · obtain rfl : i = n := by omega
      go_wp2_with fail
      refine (awake5_any _).mono ?_
      rintro e w5 ⟨rfl, hb⟩
      have HB5 := Lib.hid (HB.out.trans (hb.mono HB.out.size))
      clear hb
      go_wp2
      go_ret
      exact ⟨rfl, HB5.out⟩

/-! The row's step, as the guide's shell has it. -/
namespace dueRemoves
open Go.ChangeShapes Go.WideShapes Go.ChangeAt
open Go.ChangeMaps (open_string shut_string)
theorem own : ownKnob Try.prog.godebug = none := by kernel_rfl
theorem laidOut : laidOutB Try.prog = true := by kernel_rfl

set_option maxRecDepth 100000 in
theorem lifted (os : Os) (started : os.Started) (H : Type) (enc : TypeId × Value → H) :
    ReturnsInHanded {} Try.checked os 6 .any (Rows.dueRemovesSpec.pre6 enc Try.prog Try.f6 Rows.dueRemovesRow.domain false) (Rows.dueRemovesSpec.post enc Try.prog Try.f6 false true false false) := by
  refine returnsInHanded_of_change (C := Try.checked) own started (by kernel_rfl) Try.func6
    (ChangeSpec.witness6 (enc := enc) (C := Try.checked) false ⟨#[], #[.slice none 0 0], []⟩ 8 (by kernel_rfl) (by kernel_rfl) (by kernel_rfl) (by kernel_rfl)) ?_
  intro W base args ds gs before hval0 hW hcnd _
  have hval : ∀ (j : Nat) t v, Try.f6.params[j]? = some t → args[j]? = some v → Value.okWide Try.prog W .any base t v := hval0
  have hW' := hW
  obtain ⟨p, q, hA0, hV, rfl, hfz, hnd⟩ := hW
  have hA : DataW.TrodAll enc Try.prog W 0 (fun _ => true) true Try.f6.params.toList args.toList ds p := hA0
  rw [Try.params6] at hA hval
  obtain ⟨v0, vs0, d0, ds0, p0, q0, hargs, rfl, rfl, h0, r0⟩ := trodAll_cons hA
  obtain ⟨rfl, rfl, rfl⟩ := trodAll_nil r0
  obtain rfl : args = #[v0] := by cases args; simp_all
  obtain ⟨rfl, rfl⟩ := trodVars_none hV
  obtain ⟨a0, len0, cap0, rfl⟩ := okWide_slice Try.underlying27 (hval 0 27 v0 rfl rfl)
  have k0 := h0
  have lt0 : ∀ x ∈ p0, x.block < W.heap.size := by obtain ⟨m, hm⟩ := k0; exact DataW.trod_lt m _ _ _ hm
  obtain ⟨z0, w0⟩ : ∃ zs, Ns W W.heap.size (.slice a0 len0 cap0) zs := by
    obtain ⟨fuel, hf⟩ := h0
    rcases open_ints Try.underlying27 Try.underlying3 (by kernel_rfl) hf with ⟨hcs, _⟩ | ⟨x, l, c, zs, hcs, _, hl, hm, hz, _, hcell, hwz⟩
    · simp [Value.cells] at hcs
      obtain ⟨rfl, rfl, rfl⟩ := hcs
      exact ⟨[], Ns.nil⟩
    · simp [Value.cells] at hcs
      obtain ⟨rfl, rfl, rfl⟩ := hcs
      exact Ns.of_cells hl hm (by simpa using hz) hcell hwz
  clear hA0 hval0
  refine (DueRemoves_walk W a0 len0 cap0 z0 w0).mono fun e W' ⟨he, bel⟩ => ?_
  subst he
  exact ⟨_, rfl, _, _, _, [], _, [], hW', trodAll_mk1 (shut_bool Try.underlying4 _), (trodAll_cons_mk (Below.trod laidOut (by kernel_rfl) (of_decide_eq_true (by kernel_rfl)) k0 bel lt0) trodAll_mk0), rfl, bel.frame _, fun h => by cases h⟩

theorem over : Rows.dueRemovesRow.holds Try.pinned (OpenSpec.ofChange Rows.dueRemovesSpec) :=
  OpenClaim.holds_of_wide 6 Try.f6 rfl rfl rfl rfl rfl rfl rfl ⟨rfl, rfl, rfl, rfl, rfl⟩ rfl rfl rfl rfl rfl (by kernel_rfl) Try.func6 (by kernel_rfl)
    (of_decide_eq_true (by kernel_rfl)) (by unfold Func.isWrapper; first | (rw [if_pos (by decide +kernel)]; kernel_rfl) | (rw [if_neg (by decide +kernel)]; exact ⟨rfl, rfl⟩))
    (fun os started H enc _ => lifted os started H enc)

/-- The statement. -/
theorem proved : Rows.DueRemovesSaid := over
#print axioms proved
end dueRemoves
end Go.Proofs.Ytobimcpkhgfliaa
