/- What is proved here: shardqueuelaw05.DueUntil returns true for every input and leaves its argument as it was. No condition. -/
import Derived.Test.YtobimcpkhgfliaaJ12
import Derived.Test.YtobimcpkhgfliaaJ13
import Derived.Test.YtobimcpkhgfliaaJ14
import Derived.ProofKit
import Derived.OpenShut
import Derived.ShutString
import Derived.ChangeOld
namespace Go.Proofs.Ytobimcpkhgfliaa
open Go.RowKit
set_option linter.unusedVariables false

theorem un_in {l : List Du} {now : Int} (hv : vaF l = 0) {i : Nat} (hi : i < l.length) : (ge l i).id ∈ unF l now ↔ (ge l i).dl ≤ now := by
  obtain ⟨_, _, hd, hh⟩ := vaF_zero hv
  rw [unF_mem hh]
  constructor
  · rintro ⟨d, hm, hle, hid⟩
    obtain ⟨j, hj, rfl⟩ := ge_mem hm
    rcases Nat.lt_trichotomy i j with e | e | e
    · exact absurd ⟨i, j, e, hj, hid.symm⟩ hd
    · rw [e]; exact hle
    · exact absurd ⟨j, i, e, hi, hid⟩ hd
  · intro h
    exact ⟨_, mem_ge hi, h, rfl⟩
theorem mem_take_succ {U : List Int} {k : Nat} (hk : k < U.length) (x : Int) : x ∈ U.take (k + 1) ↔ x ∈ U.take k ∨ U[k] = x := by
  rw [← List.take_append_getElem hk, List.mem_append, List.mem_singleton]
  exact ⟨fun h => h.imp_right Eq.symm, fun h => h.imp_right Eq.symm⟩
/-- What a statement about Until holds. -/
structure UtAt (w : World) (A : Option Addr) (c : Nat) (l : List Du) (AU : Option Addr) (cU : Nat) (U : List Int) (W : World) : Prop where
  dl : Dl W W.heap.size (.slice A l.length c) l
  nr : Nr W W.heap.size (.slice AU U.length cU) U
  bel : Below w.heap.size w W
theorem UtAt.drewN {w W : World} {A : Option Addr} {c : Nat} {l : List Du} {AU : Option Addr} {cU : Nat} {U : List Int} (h : UtAt w A c l AU cU U W) (k : Nat) : UtAt w A c l AU cU U (W.drewN k) := ⟨h.dl, h.nr, bel_drewN h.bel k⟩

set_option maxHeartbeats 16000000 in
set_option maxRecDepth 20000 in
theorem DueUntil_walk (w : World) (a0 : Option Addr) (l0 c0 : Nat) (zs : List Int) (hz : Ns w w.heap.size (.slice a0 l0 c0) zs) (now : Int) (wn : (Lit.int .i64 now).wf = true) :
    Calls Try.prog 7 #[.slice a0 l0 c0, .int .i64 now] w fun e w' => e = .returned (.bool true) ∧ Below w.heap.size w w' := by
  have HN := Lib.hid (new_src a0 l0 c0 zs w hz)
  clear hz wn
  go_enter Try.func7, Try.ntmps7
  go_wp2_with fail
  refine HN.out.mono ?_
  rintro e w1 ⟨g, rfl, hs, hb⟩
  have HW1 := Lib.hid hb
  have HS1 := Lib.hid hs
  have HBG := Lib.hid (show w.heap.size ≤ g from hs.1)
  clear hb hs
  go_wp2_with fail
  refine (heap_any w.heap.size g _ HS1.out).mono ?_
  rintro e w2 ⟨A, c, l, rfl, hv, hnw, hl, hs, hg⟩
  have HL2 := Lib.hid hl
  have HV := Lib.hid hv
  have HL12 := Lib.hid (vaF_zero hv).1
  have hl12 : (l.length : Int) ≤ 12 := by have := HL12.out; omega
  have HW2 := Lib.hid (below_only HW1.out hg HBG.out (Nat.le_refl _))
  clear hv hnw hl hs hg
  go_wp2_with fail
  generalize bits BinOp.and IntKind.i64 now 15 = nw at *
  have HU := Lib.hid (show unR l nw = unF l nw from if_pos HV.out)
  have HIN := Lib.hid (fun i hi => un_in (l := l) (now := nw) HV.out (i := i) hi)
  have HUL := Lib.hid (show (unF l nw).length = (flK l nw l.length).length by rw [unF_len (vaF_zero HV.out).2.2.2, flK_all, List.length_map])
  refine (duntil_any A l.length c l nw w2 HL2.out).mono ?_
  rintro e w3 ⟨v, rfl, hn, hb⟩
  rw [HU.out] at hn
  generalize unF l nw = U at *
  obtain ⟨AU, cU, rfl⟩ := hn.form
  have H3 := Lib.hid (show UtAt w A c l AU cU U w3 from ⟨HL2.out.up hb, hn, HW2.out.trans (hb.mono HW2.out.size)⟩)
  have HU12 := Lib.hid (show U.length ≤ 12 by rw [HUL.out]; exact Nat.le_trans (flK_len _ _ _) HL12.out)
  have hu12 : (U.length : Int) ≤ 12 := by have := HU12.out; omega
  clear hn hb
  go_wp2
  go_loopw [7, 8] (fun nv iv wr => ∃ i : Nat, i ≤ l.length ∧ iv = .int .i64 i ∧ nv = .int .i64 (flK l nw i).length ∧ UtAt w A c l AU cU U wr) (fun _ iv _ => l.length - (intOf iv).toNat)
  case atStart => exact ⟨0, Nat.zero_le _, rfl, by rw [flK_zero]; rfl, H3.out⟩
  case round =>
    obtain ⟨i, hi, rfl, rfl, hu⟩ := hrel
    have HT := Lib.hid hu
    have HFL := Lib.hid (Nat.le_trans (flK_len l nw i) (Nat.le_trans hi HL12.out))
    have hfl : ((flK l nw i).length : Int) ≤ 12 := by have := HFL.out; omega
    clear hu
    by_cases hlt : i < l.length
    · have hlt' : (i : Int) < (l.length : Int) := by omega
      obtain ⟨X, hX⟩ : ∃ X, ge l i = X := ⟨_, rfl⟩
      have HX := Lib.hid hX
      have HIX := Lib.hid (show X.id ∈ U ↔ X.dl ≤ nw by rw [← hX]; exact HIN.out i hlt)
      clear hX
      go_wp2
      go_loopw [9, 10] (fun bv kv wr => ∃ (k : Nat) (b : Bool), k ≤ U.length ∧ kv = .int .i64 k ∧ bv = .bool b ∧ (b = true ↔ X.id ∈ U.take k) ∧ UtAt w A c l AU cU U wr) (fun _ kv _ => U.length - (intOf kv).toNat)
      case atStart => exact ⟨0, false, Nat.zero_le _, rfl, rfl, by simp, HT.out⟩
      case round =>
        obtain ⟨k, b, hk, rfl, rfl, hbk, hu⟩ := hrel
        have HT2 := Lib.hid hu
        have HBK := Lib.hid hbk
        clear hu hbk
        by_cases hkl : k < U.length
        · have hkl' : (k : Int) < (U.length : Int) := by omega
          cases b with
          | true =>
            have HBN := Lib.hid (show X.id ∈ U.take (k + 1) from (mem_take_succ hkl _).2 (.inl (HBK.out.1 rfl)))
            go_wp2
            go_quiet (fail)
            go_wp2
            go_roundw
            case rel => exact ⟨k + 1, true, by omega, by go_num, rfl, ⟨fun _ => HBN.out, fun _ => rfl⟩, HT2.out.drewN _⟩
            case measure => simp [intOf]; omega
          | false =>
            obtain ⟨bu, ou, rfl, _, e0⟩ := HT2.out.nr.at_ hkl
            obtain ⟨bl, ol, rfl, _, _, c1⟩ := HT2.out.dl.atg hlt
            rw [HX.out] at c1
            obtain ⟨b2, hb2⟩ : ∃ b2 : Bool, b2 = (U[k] == X.id) := ⟨_, rfl⟩
            have HBN := Lib.hid (show b2 = true ↔ X.id ∈ U.take (k + 1) by
              rw [mem_take_succ hkl, hb2, beq_iff_eq]
              exact ⟨.inr, fun h => h.resolve_left (fun h => by have := HBK.out.2 h; cases this)⟩)
            generalize U[k] = y at *
            have hyb : (y == X.id) = b2 := hb2.symm
            clear hb2
            go_wp2
            go_quiet (fail)
            go_wp2
            go_roundw
            case rel => exact ⟨k + 1, b2, by omega, by go_num, rfl, HBN.out, HT2.out.drewN _⟩
            case measure => simp [intOf]; omega
        · obtain rfl : k = U.length := by omega
          have HB1 := Lib.hid (show b = true ↔ X.dl ≤ nw by rw [HBK.out, List.take_length]; exact HIX.out)
          obtain ⟨bl, ol, rfl, _, c0, c1⟩ := HT2.out.dl.atg hlt
          rw [HX.out] at c0
          clear c1
          by_cases hd : X.dl ≤ nw
          · have hb : b = true := HB1.out.2 hd
            subst hb
            have HNX := Lib.hid (show (flK l nw (i + 1)).length = (flK l nw i).length + 1 by rw [flK_hit hlt (by rw [HX.out]; exact hd), List.length_append]; rfl)
            go_wp2
            go_roundw
            case rel => exact ⟨i + 1, by omega, by go_num, by rw [HNX.out]; go_num, HT2.out⟩
            case measure => simp [intOf]; omega
          · have hb : b = false := by cases b with | false => rfl | true => exact absurd (HB1.out.1 rfl) hd
            subst hb
            have HNX := Lib.hid (show (flK l nw (i + 1)).length = (flK l nw i).length by rw [flK_miss hlt (by rw [HX.out]; exact hd)])
            go_wp2
            go_roundw
            case rel => exact ⟨i + 1, by omega, by go_num, by rw [HNX.out], HT2.out⟩
            case measure => simp [intOf]; omega
    · obtain rfl : i = l.length := by omega
      have heq : (((flK l nw l.length).length : Int) == (U.length : Int)) = true := by simp [HUL.out]
      go_wp2_with fail
      refine (awake5_any _).mono ?_
      rintro e w5 ⟨rfl, hb⟩
      have HB5 := Lib.hid (HT.out.bel.trans (hb.mono HT.out.bel.size))
      clear hb
      go_wp2
      go_ret
      exact ⟨rfl, HB5.out⟩

/-! The row's step, as the guide's shell has it. -/
namespace dueUntil
open Go.ChangeShapes Go.WideShapes Go.ChangeAt
open Go.ChangeMaps (open_string shut_string)
theorem own : ownKnob Try.prog.godebug = none := by kernel_rfl
theorem laidOut : laidOutB Try.prog = true := by kernel_rfl

set_option maxRecDepth 100000 in
theorem lifted (os : Os) (started : os.Started) (H : Type) (enc : TypeId × Value → H) :
    ReturnsInHanded {} Try.checked os 7 .any (Rows.dueUntilSpec.pre6 enc Try.prog Try.f7 Rows.dueUntilRow.domain false) (Rows.dueUntilSpec.post enc Try.prog Try.f7 false true false false) := by
  refine returnsInHanded_of_change (C := Try.checked) own started (by kernel_rfl) Try.func7
    (ChangeSpec.witness6 (enc := enc) (C := Try.checked) false ⟨#[], #[.slice none 0 0, .int .i64 0], []⟩ 8 (by kernel_rfl) (by kernel_rfl) (by kernel_rfl) (by kernel_rfl)) ?_
  intro W base args ds gs before hval0 hW hcnd _
  have hval : ∀ (j : Nat) t v, Try.f7.params[j]? = some t → args[j]? = some v → Value.okWide Try.prog W .any base t v := hval0
  have hW' := hW
  obtain ⟨p, q, hA0, hV, rfl, hfz, hnd⟩ := hW
  have hA : DataW.TrodAll enc Try.prog W 0 (fun _ => true) true Try.f7.params.toList args.toList ds p := hA0
  rw [Try.params7] at hA hval
  obtain ⟨v0, vs0, d0, ds0, p0, q0, hargs, rfl, rfl, h0, r0⟩ := trodAll_cons hA
  obtain ⟨v1, vs1, d1, ds1, p1, q1, rfl, rfl, rfl, h1, r1⟩ := trodAll_cons r0
  obtain ⟨rfl, rfl, rfl⟩ := trodAll_nil r1
  obtain rfl : args = #[v0, v1] := by cases args; simp_all
  obtain ⟨rfl, rfl⟩ := trodVars_none hV
  obtain ⟨a0, len0, cap0, rfl⟩ := okWide_slice Try.underlying27 (hval 0 27 v0 rfl rfl)
  have k0 := h0
  have lt0 : ∀ x ∈ p0, x.block < W.heap.size := by obtain ⟨m, hm⟩ := k0; exact DataW.trod_lt m _ _ _ hm
  obtain ⟨z0, w0⟩ : ∃ zs, Ns W W.heap.size (.slice a0 len0 cap0) zs := by
    obtain ⟨fuel, hf⟩ := h0
    rcases open_ints Try.underlying27 Try.underlying3 (by kernel_rfl) hf with ⟨hcs, _⟩ | ⟨x, l, c, zs, hcs, _, hl, hm, hz, _, hcell, hwz⟩
    · simp [Value.cells] at hcs
      obtain ⟨rfl, rfl, rfl⟩ := hcs
      exact ⟨[], Ns.nil⟩
    · simp [Value.cells] at hcs
      obtain ⟨rfl, rfl, rfl⟩ := hcs
      exact Ns.of_cells hl hm (by simpa using hz) hcell hwz
  obtain ⟨a1, rfl, rfl, rfl, w1⟩ := open_int Try.underlying3 (hval 1 3 v1 rfl rfl) h1
  clear hA0 hval0
  refine (DueUntil_walk W a0 len0 cap0 z0 w0 a1 w1).mono fun e W' ⟨he, bel⟩ => ?_
  subst he
  exact ⟨_, rfl, _, _, _, [], _, [], hW', trodAll_mk1 (shut_bool Try.underlying4 _), (trodAll_cons_mk (Below.trod laidOut (by kernel_rfl) (of_decide_eq_true (by kernel_rfl)) k0 bel lt0) (trodAll_cons_mk (shut_int Try.underlying3 w1) trodAll_mk0)), rfl, bel.frame _, fun h => by cases h⟩

theorem over : Rows.dueUntilRow.holds Try.pinned (OpenSpec.ofChange Rows.dueUntilSpec) :=
  OpenClaim.holds_of_wide 7 Try.f7 rfl rfl rfl rfl rfl rfl rfl ⟨rfl, rfl, rfl, rfl, rfl⟩ rfl rfl rfl rfl rfl (by kernel_rfl) Try.func7 (by kernel_rfl)
    (of_decide_eq_true (by kernel_rfl)) (by unfold Func.isWrapper; first | (rw [if_pos (by decide +kernel)]; kernel_rfl) | (rw [if_neg (by decide +kernel)]; exact ⟨rfl, rfl⟩))
    (fun os started H enc _ => lifted os started H enc)

/-- The statement. -/
theorem proved : Rows.DueUntilSaid := over
#print axioms proved
end dueUntil
end Go.Proofs.Ytobimcpkhgfliaa
