/- What is proved here: shardqueuelaw01.OctetsNumbers returns true for every input and leaves its arguments as they were: Put and Get return what the reference of the chapter returns. No condition. -/
import Derived.Test.YtoljknfmamkdpaaGet
import Derived.ProofKit
import Derived.OpenShut
import Derived.ShutString
import Derived.ChangeOld
namespace Go.Proofs.Ytoljknfmamkdpaa
open Go.RowKit
set_option linter.unusedVariables false

set_option maxHeartbeats 4000000 in
set_option maxRecDepth 20000 in
theorem OctetsNumbers_walk (w : World) (a0 : Option Addr) (l c : Nat) (bs : List UInt8) (hv : Bs w w.heap.size (.slice a0 l c) bs) (n : Int) (hn : (Lit.int .i64 n).wf = true) (s : Int) (hs : (Lit.int .i64 s).wf = true) (at_ : Int) (ha : (Lit.int .i64 at_).wf = true) :
    Calls Try.prog 3 #[.slice a0 l c, .int .i64 n, .int .i64 s, .int .i64 at_] w fun e w' => e = .returned (.bool true) ∧ Below w.heap.size w w' := by
  obtain ⟨rfl, hlc, hm⟩ := hv.len
  by_cases hl : (300 : Int) < (bs.length : Int)
  · clear hv hn ha hs hlc hm
    go_enter Try.func3, Try.ntmps3
    go_wp2
    go_ret
    exact ⟨rfl, Below.refl _ _⟩
  · obtain ⟨i0, hi0, hz0, hz1, hz2⟩ := info_parts info_u8
    have HV := Lib.hid hv
    have HL := Lib.hid (show bs.length ≤ 1099511627000 by omega)
    have HL2 := Lib.hid (show bs.length ≤ 1099511627776 by omega)
    have HR := Lib.hid hv.rd
    clear hv hn ha hs hlc hm
    go_enter Try.func3, Try.ntmps3
    go_wp2_with (at_builtin; refine wpList_append_rd _ rfl _ _ 22 rfl w.heap.size 5 i0 _ 1 1 Try.underlying22 hi0 hz0 hz1 hz2 rfl (by omega) _ _ _ rfl (World.ownsRow_nil _ _ _ _) _ _ _ _ _ rfl HR.out (oct_one _) (by have := HL.out; unfold maxLen; omega) (by have := HL.out; omega) (by omega) ?_; intro v2 w2 hown2 hg2 _)
    simp only [Nat.zero_add, List.nil_append] at hown2
    obtain ⟨A2, c2, rfl⟩ := own_form hown2
    have HO2 := Lib.hid (Bs.of_own hown2)
    have HW2 := Lib.hid ((Below.refl _ _).grown hg2 (Nat.le_refl _) (fun k hk => (World.ownsRow.lt (World.ownsRow_nil w w.heap.size 5 1) k hk).1))
    have hz2' := HW2.out.size
    clear hown2 hg2
    go_wp2_with fail
    refine (put_all _ _ _ bs _ _ _ HO2.out HL.out).mono ?_
    rintro e w3 ⟨v3, rfl, hb3, hw3⟩
    have HB3 := Lib.hid hb3
    have HW3 := Lib.hid (HW2.out.trans (hw3.mono hz2'))
    have HO3 := Lib.hid ((HO2.out.below hw3).more hw3.size)
    have hz3 := HW3.out.size
    clear hb3 hw3
    go_wp2_with fail
    refine (rput_all _ _ _ bs _ _ _ ((HV.out.below HW3.out).more hz3) HL.out).mono ?_
    rintro e w4 ⟨v4, rfl, hb4, hw4⟩
    have HB4 := Lib.hid hb4
    have HW4 := Lib.hid (HW3.out.trans (hw4.mono hz3))
    have HB3' := Lib.hid ((HB3.out.below hw4).more hw4.size)
    have HO4 := Lib.hid ((HO3.out.below hw4).more hw4.size)
    have hz4 := HW4.out.size
    clear hb4 hw4
    go_wp2_with fail
    refine (get_all _ _ _ bs _ _ _ HO4.out HL2.out).mono ?_
    rintro e w5 ⟨rfl, rfl⟩
    go_wp2_with fail
    refine (rget_all _ _ _ bs _ _ _ ((HV.out.below HW4.out).more hz4) HL2.out).mono ?_
    rintro e w5 ⟨rfl, rfl⟩
    go_wp2_with fail
    refine (same_any _ _ _ _ _ HB3'.out HB4.out).mono ?_
    rintro e w5 ⟨rfl, rfl⟩
    go_wp2_with fail
    refine (same_any _ _ _ _ _ HO4.out ((HV.out.below HW4.out).more hz4)).mono ?_
    rintro e w5 ⟨rfl, rfl⟩
    go_wp2_with fail
    refine (awake_any _).mono ?_
    rintro e w6 ⟨rfl, hb6⟩
    have HB6 := Lib.hid hb6
    clear hb6
    go_wp2
    go_ret
    exact ⟨rfl, HW4.out.trans (HB6.out.mono hz4)⟩

/-! The row's step, as the guide's shell has it. -/
namespace octetsNumbers
open Go.ChangeShapes Go.WideShapes Go.ChangeAt
open Go.ChangeMaps (open_string shut_string)
theorem own : ownKnob Try.prog.godebug = none := by kernel_rfl
theorem laidOut : laidOutB Try.prog = true := by kernel_rfl

set_option maxRecDepth 100000 in
theorem lifted (os : Os) (started : os.Started) (H : Type) (enc : TypeId × Value → H) :
    ReturnsInHanded {} Try.checked os 3 .any (Rows.octetsNumbersSpec.pre6 enc Try.prog Try.f3 Rows.octetsNumbersRow.domain false) (Rows.octetsNumbersSpec.post enc Try.prog Try.f3 false true false false) := by
  refine returnsInHanded_of_change (C := Try.checked) own started (by kernel_rfl) Try.func3
    (ChangeSpec.witness6 (enc := enc) (C := Try.checked) false ⟨#[], #[.slice none 0 0, .int .i64 0, .int .i64 0, .int .i64 0], []⟩ 8 (by kernel_rfl) (by kernel_rfl) (by kernel_rfl) (by kernel_rfl)) ?_
  intro W base args ds gs before hval0 hW hcnd _
  have hval : ∀ (j : Nat) t v, Try.f3.params[j]? = some t → args[j]? = some v → Value.okWide Try.prog W .any base t v := hval0
  have hW' := hW
  obtain ⟨p, q, hA0, hV, rfl, hfz, hnd⟩ := hW
  have hA : DataW.TrodAll enc Try.prog W 0 (fun _ => true) true Try.f3.params.toList args.toList ds p := hA0
  rw [Try.params3] at hA hval
  obtain ⟨v0, vs0, d0, ds0, p0, q0, hargs, rfl, rfl, h0, r0⟩ := trodAll_cons hA
  obtain ⟨v1, vs1, d1, ds1, p1, q1, rfl, rfl, rfl, h1, r1⟩ := trodAll_cons r0
  obtain ⟨v2, vs2, d2, ds2, p2, q2, rfl, rfl, rfl, h2, r2⟩ := trodAll_cons r1
  obtain ⟨v3, vs3, d3, ds3, p3, q3, rfl, rfl, rfl, h3, r3⟩ := trodAll_cons r2
  obtain ⟨rfl, rfl, rfl⟩ := trodAll_nil r3
  obtain rfl : args = #[v0, v1, v2, v3] := by cases args; simp_all
  obtain ⟨rfl, rfl⟩ := trodVars_none hV
  obtain ⟨a0, len0, cap0, rfl⟩ := okWide_slice Try.underlying22 (hval 0 22 v0 rfl rfl)
  have k0 := h0
  have lt0 : ∀ x ∈ p0, x.block < W.heap.size := by obtain ⟨m, hm⟩ := k0; exact DataW.trod_lt m _ _ _ hm
  obtain ⟨z0, w0⟩ : ∃ zs, Bs W W.heap.size (.slice a0 len0 cap0) zs := by
    obtain ⟨fuel, hf⟩ := h0
    rcases open_ints Try.underlying22 Try.underlying5 (by kernel_rfl) hf with ⟨hcs, _⟩ | ⟨x, l, c, zs, hcs, _, hl, hm, hz, _, hcell, hwz⟩
    · simp [Value.cells] at hcs
      obtain ⟨rfl, rfl, rfl⟩ := hcs
      exact ⟨[], Bs.nil⟩
    · simp [Value.cells] at hcs
      obtain ⟨rfl, rfl, rfl⟩ := hcs
      exact Bs.of_cells hl hm (by simpa using hz) hcell hwz
  obtain ⟨a1, rfl, rfl, rfl, w1⟩ := open_int Try.underlying3 (hval 1 3 v1 rfl rfl) h1
  obtain ⟨a2, rfl, rfl, rfl, w2⟩ := open_int Try.underlying3 (hval 2 3 v2 rfl rfl) h2
  obtain ⟨a3, rfl, rfl, rfl, w3⟩ := open_int Try.underlying3 (hval 3 3 v3 rfl rfl) h3
  clear hA0 hval0
  refine (OctetsNumbers_walk W a0 len0 cap0 z0 w0 a1 w1 a2 w2 a3 w3).mono fun e W' ⟨he, bel⟩ => ?_
  subst he
  exact ⟨_, rfl, _, _, _, [], _, [], hW', trodAll_mk1 (shut_bool Try.underlying4 _), (trodAll_cons_mk (Below.trod laidOut (by kernel_rfl) (of_decide_eq_true (by kernel_rfl)) k0 bel lt0) (trodAll_cons_mk (shut_int Try.underlying3 w1) (trodAll_cons_mk (shut_int Try.underlying3 w2) (trodAll_cons_mk (shut_int Try.underlying3 w3) trodAll_mk0)))), rfl, bel.frame _, fun h => by cases h⟩

theorem over : Rows.octetsNumbersRow.holds Try.pinned (OpenSpec.ofChange Rows.octetsNumbersSpec) :=
  OpenClaim.holds_of_wide 3 Try.f3 rfl rfl rfl rfl rfl rfl rfl ⟨rfl, rfl, rfl, rfl, rfl⟩ rfl rfl rfl rfl rfl (by kernel_rfl) Try.func3 (by kernel_rfl)
    (of_decide_eq_true (by kernel_rfl)) (by unfold Func.isWrapper; first | (rw [if_pos (by decide +kernel)]; kernel_rfl) | (rw [if_neg (by decide +kernel)]; exact ⟨rfl, rfl⟩))
    (fun os started H enc _ => lifted os started H enc)

/-- The statement. -/
theorem proved : Rows.OctetsNumbersSaid := over
#print axioms proved
end octetsNumbers
end Go.Proofs.Ytoljknfmamkdpaa
