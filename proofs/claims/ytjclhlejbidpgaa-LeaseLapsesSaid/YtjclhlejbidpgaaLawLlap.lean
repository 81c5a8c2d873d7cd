/- What is proved here: shardqueuelaw06.LeaseLapses returns true for every input and leaves its argument as it was. No condition. -/
import Derived.Test.YtjclhlejbidpgaaJ21
import Derived.Test.YtjclhlejbidpgaaJ26
import Derived.Test.YtjclhlejbidpgaaJ27
import Derived.ProofKit
import Derived.OpenShut
import Derived.ShutString
import Derived.ChangeOld
namespace Go.Proofs.Ytjclhlejbidpgaa
open Go.RowKit
set_option linter.unusedVariables false

theorem mem_take_succ {U : List Int} {k : Nat} (hk : k < U.length) (x : Int) : x ∈ U.take (k + 1) ↔ x ∈ U.take k ∨ U[k] = x := by
  rw [← List.take_append_getElem hk, List.mem_append, List.mem_singleton]
  exact ⟨fun h => h.imp_right Eq.symm, fun h => h.imp_right Eq.symm⟩
/-- What a statement about Lapsed holds. -/
structure LtAt (w : World) (p : Nat) (A : Option Addr) (c : Nat) (l : List Le) (A2 : Option Addr) (c2 : Nat) (h : List Du) (AU : Option Addr) (cU : Nat) (U : List Int) (W : World) : Prop where
  va : VaA w p A c l A2 c2 h W
  nr : Nr W W.heap.size (.slice AU U.length cU) U
theorem LtAt.drewN {w W : World} {p : Nat} {A : Option Addr} {c : Nat} {l : List Le} {A2 : Option Addr} {c2 : Nat} {h : List Du} {AU : Option Addr} {cU : Nat} {U : List Int} (k : LtAt w p A c l A2 c2 h AU cU U W) (n : Nat) : LtAt w p A c l A2 c2 h AU cU U (W.drewN n) := ⟨k.va.drewN n, k.nr⟩

set_option maxHeartbeats 16000000 in
set_option maxRecDepth 20000 in
theorem LeaseLapses_walk (w : World) (a0 : Option Addr) (l0 c0 : Nat) (zs : List Int) (hz : Ns w w.heap.size (.slice a0 l0 c0) zs) (now : Int) (wn : (Lit.int .i64 now).wf = true) (ep : Int) (we : (Lit.int .i64 ep).wf = true) :
    Calls Try.prog 4 #[.slice a0 l0 c0, .int .i64 now, .int .i64 ep] w fun e w' => e = .returned (.bool true) ∧ Below w.heap.size w w' := by
  have HN := Lib.hid (new_src a0 l0 c0 zs w hz)
  clear hz wn we
  go_enter Try.func4, Try.ntmps4
  go_wp2_with fail
  refine HN.out.mono ?_
  rintro e w1 ⟨g, rfl, hs, hb⟩
  have HW1 := Lib.hid hb
  have HS1 := Lib.hid hs
  have HBG := Lib.hid (show w.heap.size ≤ g from hs.1)
  clear hb hs
  go_wp2_with fail
  refine (table_any w.heap.size g _ HS1.out 12 1 0 65535 (by omega) (by omega) (by omega) (by omega)).mono ?_
  rintro e w2 ⟨A, c, A2, c2, l, h, rfl, ok, n1, n2, hl, hh, hs, hg⟩
  have HV2 := Lib.hid (VaA.start 28 hl hh)
  have HOK := Lib.hid ok
  have hl12 : (l.length : Int) ≤ 12 := by have := HOK.out.len; omega
  have HW2 := Lib.hid (below_only HW1.out hg HBG.out (Nat.le_refl _))
  clear n1 n2 hl hh hs hg ok
  obtain ⟨p, hp⟩ : ∃ p, p = w2.heap.size := ⟨_, rfl⟩
  obtain ⟨T0, T1, T2⟩ := HV2.out.tb
  go_wp2_with fail
  clear T0 T1 T2
  rw [← hp] at HV2 ⊢
  clear hp
  generalize bits BinOp.and IntKind.i64 now 31 = nw at *
  generalize bits BinOp.and IntKind.i64 ep 3 = ew at *
  have HIN := Lib.hid (fun i hi => HOK.out.lav_mem nw ew (k := i) hi)
  have HUL := Lib.hid (HOK.out.lcN_all nw ew)
  generalize w2.alloc (.cells #[.slice A l.length c, .slice A2 h.length c2] 28) = w3 at *
  refine (llapsed_any A l.length c l A2 h.length c2 h nw ew w3 HV2.out.el HV2.out.dl).mono ?_
  generalize laV l h nw ew = U at *
  rintro e w4 ⟨AU, cU, rfl, hn, hb⟩
  have H4 := Lib.hid (show LtAt w2 p A c l A2 c2 h AU cU U w4 from ⟨HV2.out.below hb, hn⟩)
  have HLN := Lib.hid (fun i (hi : i ≤ l.length) => show lcN l nw ew i ≤ 12 from by
    have h1 : lcN l nw ew i ≤ (l.take i).length := List.length_filter_le _ _
    have h2 := HOK.out.len
    rw [List.length_take] at h1
    omega)
  have HU12 := Lib.hid (show U.length ≤ 12 by rw [← HUL.out]; exact HLN.out _ (Nat.le_refl _))
  have hu12 : (U.length : Int) ≤ 12 := by have := HU12.out; omega
  clear hn hb
  go_wp2
  go_loopw [9, 10] (fun nv iv wr => ∃ i : Nat, i ≤ l.length ∧ iv = .int .i64 i ∧ nv = .int .i64 (lcN l nw ew i) ∧ Hid (LtAt w2 p A c l A2 c2 h AU cU U wr)) (fun _ iv _ => l.length - (intOf iv).toNat)
  case atStart => exact ⟨0, Nat.zero_le _, rfl, by rw [lcN_zero]; rfl, H4⟩
  case round =>
    clear H4 HV2
    obtain ⟨i, hi, rfl, rfl, HT⟩ := hrel
    have HFL := Lib.hid (HLN.out i hi)
    have hfl : ((lcN l nw ew i : Nat) : Int) ≤ 12 := by have := HFL.out; omega
    obtain ⟨T0, T1, T2⟩ := HT.out.va.tb
    by_cases hlt : i < l.length
    · have hlt' : (i : Int) < (l.length : Int) := by omega
      obtain ⟨X, hX⟩ : ∃ X, l[i] = X := ⟨_, rfl⟩
      have HX := Lib.hid hX
      have HIX := Lib.hid (show X.m.id ∈ U ↔ X.dl ≤ nw ∧ ew ≤ X.m.ep by rw [← hX]; exact HIN.out i hlt)
      have HNX := Lib.hid (show lcN l nw ew (i + 1) = lcN l nw ew i + if X.dl ≤ nw ∧ ew ≤ X.m.ep then 1 else 0 by rw [← hX]; exact lcN_succ hlt)
      obtain ⟨N, hN⟩ : ∃ N, N = lcN l nw ew i := ⟨_, rfl⟩
      rw [← hN] at HNX hfl ⊢
      clear hX hN HFL
      go_wp2
      go_loopw [11, 12] (fun bv kv wr => ∃ (k : Nat) (b : Bool), k ≤ U.length ∧ kv = .int .i64 k ∧ bv = .bool b ∧ Hid (b = true ↔ X.m.id ∈ U.take k) ∧ Hid (LtAt w2 p A c l A2 c2 h AU cU U wr)) (fun _ kv _ => U.length - (intOf kv).toNat)
      case atStart => exact ⟨0, false, Nat.zero_le _, rfl, rfl, Lib.hid (by simp), HT⟩
      case round =>
        clear HT T0 T1 T2
        obtain ⟨k, b, hk, rfl, rfl, HBK, HT2⟩ := hrel
        obtain ⟨T0, T1, T2⟩ := HT2.out.va.tb
        by_cases hkl : k < U.length
        · have hkl' : (k : Int) < (U.length : Int) := by omega
          cases b with
          | true =>
            have HBN := Lib.hid (show X.m.id ∈ U.take (k + 1) from (mem_take_succ hkl _).2 (.inl (HBK.out.1 rfl)))
            go_wp2
            go_quiet (fail)
            go_wp2
            go_roundw
            case rel => exact ⟨k + 1, true, by omega, by go_num, rfl, Lib.hid ⟨fun _ => HBN.out, fun _ => rfl⟩, Lib.hid (HT2.out.drewN _)⟩
            case measure => simp [intOf]; omega
          | false =>
            obtain ⟨bu, ou, rfl, _, e0⟩ := HT2.out.nr.at_ hkl
            obtain ⟨bl, ol, rfl, _, f0, _, _, _, _, _, _, _⟩ := HT2.out.va.el.at_ hlt
            rw [HX.out] at f0
            obtain ⟨b2, hb2⟩ : ∃ b2 : Bool, b2 = (U[k] == X.m.id) := ⟨_, rfl⟩
            have HBN := Lib.hid (show b2 = true ↔ X.m.id ∈ U.take (k + 1) by
              rw [mem_take_succ hkl, hb2, beq_iff_eq]
              exact ⟨.inr, fun h => h.resolve_left (fun h => by have := HBK.out.2 h; cases this)⟩)
            generalize U[k] = y at *
            have hyb : (y == X.m.id) = b2 := hb2.symm
            clear hb2
            go_wp2
            go_quiet (fail)
            go_wp2
            go_roundw
            case rel => exact ⟨k + 1, b2, by omega, by go_num, rfl, HBN, Lib.hid (HT2.out.drewN _)⟩
            case measure => simp [intOf]; omega
        · obtain rfl : k = U.length := by omega
          have HB1 := Lib.hid (show b = true ↔ X.dl ≤ nw ∧ ew ≤ X.m.ep by rw [HBK.out, List.take_length]; exact HIX.out)
          obtain ⟨bl, ol, rfl, _, f0, _, f2, _, _, _, _, f7⟩ := HT2.out.va.el.at_ hlt
          rw [HX.out] at f2 f7
          clear f0
          by_cases hd : X.dl ≤ nw
          · by_cases hq : ew ≤ X.m.ep
            · have hb : b = true := HB1.out.2 ⟨hd, hq⟩
              subst hb
              have HNX2 := Lib.hid (show lcN l nw ew (i + 1) = N + 1 by rw [HNX.out, if_pos ⟨hd, hq⟩])
              go_wp2
              go_roundw
              case rel => exact ⟨i + 1, by omega, by go_num, by rw [HNX2.out]; go_num, HT2⟩
              case measure => simp [intOf]; omega
            · have hb : b = false := by cases b with | false => rfl | true => exact absurd (HB1.out.1 rfl).2 hq
              subst hb
              have HNX2 := Lib.hid (show lcN l nw ew (i + 1) = N by rw [HNX.out, if_neg (fun e => hq e.2), Nat.add_zero])
              go_wp2
              go_roundw
              case rel => exact ⟨i + 1, by omega, by go_num, by rw [HNX2.out], HT2⟩
              case measure => simp [intOf]; omega
          · have hb : b = false := by cases b with | false => rfl | true => exact absurd (HB1.out.1 rfl).1 hd
            subst hb
            have HNX2 := Lib.hid (show lcN l nw ew (i + 1) = N by rw [HNX.out, if_neg (fun e => hd e.1), Nat.add_zero])
            go_wp2
            go_roundw
            case rel => exact ⟨i + 1, by omega, by go_num, by rw [HNX2.out], HT2⟩
            case measure => simp [intOf]; omega
    · obtain rfl : i = l.length := by omega
      have heq : ((lcN l nw ew l.length : Nat) : Int) = (U.length : Int) := by rw [HUL.out]
      rw [heq]
      clear heq hfl
      have heq : ((U.length : Int) == (U.length : Int)) = true := by simp
      have HBF := Lib.hid (HW2.out.trans (HT.out.va.bel.mono HW2.out.size))
      go_wp2_with fail
      refine (awake6_any _).mono ?_
      rintro e w5 ⟨rfl, hb⟩
      have HB5 := Lib.hid (HBF.out.trans (hb.mono HBF.out.size))
      clear hb
      go_wp2
      go_ret
      exact ⟨rfl, HB5.out⟩
/-! The row's step, as the guide's shell has it. -/
namespace leaseLapses
open Go.ChangeShapes Go.WideShapes Go.ChangeAt
open Go.ChangeMaps (open_string shut_string)
theorem own : ownKnob Try.prog.godebug = none := by kernel_rfl
theorem laidOut : laidOutB Try.prog = true := by kernel_rfl

set_option maxRecDepth 100000 in
theorem lifted (os : Os) (started : os.Started) (H : Type) (enc : TypeId × Value → H) :
    ReturnsInHanded {} Try.checked os 4 .any (Rows.leaseLapsesSpec.pre6 enc Try.prog Try.f4 Rows.leaseLapsesRow.domain false) (Rows.leaseLapsesSpec.post enc Try.prog Try.f4 false true false false) := by
  refine returnsInHanded_of_change (C := Try.checked) own started (by kernel_rfl) Try.func4
    (ChangeSpec.witness6 (enc := enc) (C := Try.checked) false ⟨#[], #[.slice none 0 0, .int .i64 0, .int .i64 0], []⟩ 8 (by kernel_rfl) (by kernel_rfl) (by kernel_rfl) (by kernel_rfl)) ?_
  intro W base args ds gs before hval0 hW hcnd _
  have hval : ∀ (j : Nat) t v, Try.f4.params[j]? = some t → args[j]? = some v → Value.okWide Try.prog W .any base t v := hval0
  have hW' := hW
  obtain ⟨p, q, hA0, hV, rfl, hfz, hnd⟩ := hW
  have hA : DataW.TrodAll enc Try.prog W 0 (fun _ => true) true Try.f4.params.toList args.toList ds p := hA0
  rw [Try.params4] at hA hval
  obtain ⟨v0, vs0, d0, ds0, p0, q0, hargs, rfl, rfl, h0, r0⟩ := trodAll_cons hA
  obtain ⟨v1, vs1, d1, ds1, p1, q1, rfl, rfl, rfl, h1, r1⟩ := trodAll_cons r0
  obtain ⟨v2, vs2, d2, ds2, p2, q2, rfl, rfl, rfl, h2, r2⟩ := trodAll_cons r1
  obtain ⟨rfl, rfl, rfl⟩ := trodAll_nil r2
  obtain rfl : args = #[v0, v1, v2] := by cases args; simp_all
  obtain ⟨rfl, rfl⟩ := trodVars_none hV
  obtain ⟨a0, len0, cap0, rfl⟩ := okWide_slice Try.underlying22 (hval 0 22 v0 rfl rfl)
  have k0 := h0
  have lt0 : ∀ x ∈ p0, x.block < W.heap.size := by obtain ⟨m, hm⟩ := k0; exact DataW.trod_lt m _ _ _ hm
  obtain ⟨z0, w0⟩ : ∃ zs, Ns W W.heap.size (.slice a0 len0 cap0) zs := by
    obtain ⟨fuel, hf⟩ := h0
    rcases open_ints Try.underlying22 Try.underlying3 (by kernel_rfl) hf with ⟨hcs, _⟩ | ⟨x, l, c, zs, hcs, _, hl, hm, hz, _, hcell, hwz⟩
    · simp [Value.cells] at hcs
      obtain ⟨rfl, rfl, rfl⟩ := hcs
      exact ⟨[], Ns.nil⟩
    · simp [Value.cells] at hcs
      obtain ⟨rfl, rfl, rfl⟩ := hcs
      exact Ns.of_cells hl hm (by simpa using hz) hcell hwz
  obtain ⟨a1, rfl, rfl, rfl, w1⟩ := open_int Try.underlying3 (hval 1 3 v1 rfl rfl) h1
  obtain ⟨a2, rfl, rfl, rfl, w2⟩ := open_int Try.underlying3 (hval 2 3 v2 rfl rfl) h2
  clear hA0 hval0
  refine (LeaseLapses_walk W a0 len0 cap0 z0 w0 a1 w1 a2 w2).mono fun e W' ⟨he, bel⟩ => ?_
  subst he
  exact ⟨_, rfl, _, _, _, [], _, [], hW', trodAll_mk1 (shut_bool Try.underlying4 _), (trodAll_cons_mk (Below.trod laidOut (by kernel_rfl) (of_decide_eq_true (by kernel_rfl)) k0 bel lt0) (trodAll_cons_mk (shut_int Try.underlying3 w1) (trodAll_cons_mk (shut_int Try.underlying3 w2) trodAll_mk0))), rfl, bel.frame _, fun h => by cases h⟩

theorem over : Rows.leaseLapsesRow.holds Try.pinned (OpenSpec.ofChange Rows.leaseLapsesSpec) :=
  OpenClaim.holds_of_wide 4 Try.f4 rfl rfl rfl rfl rfl rfl rfl ⟨rfl, rfl, rfl, rfl, rfl⟩ rfl rfl rfl rfl rfl (by kernel_rfl) Try.func4 (by kernel_rfl)
    (of_decide_eq_true (by kernel_rfl)) (by unfold Func.isWrapper; first | (rw [if_pos (by decide +kernel)]; kernel_rfl) | (rw [if_neg (by decide +kernel)]; exact ⟨rfl, rfl⟩))
    (fun os started H enc _ => lifted os started H enc)

/-- The statement. -/
theorem proved : Rows.LeaseLapsesSaid := over
#print axioms proved
end leaseLapses
end Go.Proofs.Ytjclhlejbidpgaa
