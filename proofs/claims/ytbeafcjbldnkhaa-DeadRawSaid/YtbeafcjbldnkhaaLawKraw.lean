/- What is proved here: shardqueuelaw08.DeadRaw returns true for every input and leaves its arguments as they were. No condition. -/
import Derived.Test.YtbeafcjbldnkhaaJ12
import Derived.Test.YtbeafcjbldnkhaaJ13
import Derived.ProofKit
import Derived.OpenShut
import Derived.ShutString
import Derived.ChangeOld
namespace Go.Proofs.Ytbeafcjbldnkhaa
open Go.RowKit
set_option linter.unusedVariables false

set_option maxHeartbeats 16000000 in
set_option maxRecDepth 20000 in
theorem DeadRaw_walk (w : World) (cap : Int) (wc : (Lit.int .i64 cap).wf = true) (A : Option Addr) (n c : Nat) (l : List Msg) (hv : Ls w w.heap.size (.slice A n c) l) (Ax : Option Addr) (nx cx : Nat) (x : List Msg) (hx : Ls w w.heap.size (.slice Ax nx cx) x) (k : Int) (wk : (Lit.int .i64 k).wf = true) (ep : Int) (we : (Lit.int .i64 ep).wf = true) :
    Calls Try.prog 3 #[.agg #[.int .i64 cap, .slice A n c], .slice Ax nx cx, .int .i64 k, .int .i64 ep] w fun e w' => e = .returned (.bool true) ∧ Below w.heap.size w w' := by
  obtain ⟨rfl, hm1, hm2⟩ := hv.len
  obtain ⟨rfl, hm3, hm4⟩ := hx.len
  have hL : l.length ≤ 9223372036854775807 := by unfold maxLen at hm2; omega
  have hLx : x.length ≤ 9223372036854775807 := by unfold maxLen at hm4; omega
  have HX := Lib.hid hx
  have H0 := Lib.hid (VaAt8.start 24 cap hv)
  clear wc wk we hv hx hm1 hm2 hm3 hm4
  by_cases h1 : 30 < (l.length : Int)
  · obtain ⟨t0, t1, tl⟩ := H0.out.db.facts
    go_enter Try.func3, Try.ntmps3
    go_wp2
    go_ret
    exact ⟨rfl, H0.out.bel⟩
  · by_cases h2 : 30 < (x.length : Int)
    · obtain ⟨t0, t1, tl⟩ := H0.out.db.facts
      go_enter Try.func3, Try.ntmps3
      go_wp2
      go_ret
      exact ⟨rfl, H0.out.bel⟩
    · have C1 := Lib.hid (fun W => new8_any k W)
      have C2 := Lib.hid (fun W => rnew8_any k W)
      have C3 := Lib.hid (fun lo lo' a b C D d L E e W (h : Re8 lo a C D d L W) (h' : Re8 lo' b C E e L W) => rsame8_yes C D E L.length L.length d e L W h.ls h'.ls)
      have C4 := Lib.hid (fun p W (h : VaAt8 w p cap A c l W) => agrees8_any cap A l.length c l Ax x.length cx x k ep W h.here ((HX.out.below h.bel).more h.bel.size))
      have C5 := Lib.hid (fun W => awake8_any W)
      generalize nw8 k = R at *
      generalize nw8E k = E at *
      have q0 : (E == E) = true := by simp
      go_enter Try.func3, Try.ntmps3
      obtain ⟨t0, t1, tl⟩ := H0.out.db.facts
      go_wp2_with fail
      clear t0 t1 tl
      obtain ⟨p, hp⟩ : ∃ p, p = w.heap.size := ⟨_, rfl⟩
      rw [← hp] at H0
      rw [← hp]
      clear hp
      refine (C1.out _).mono ?_
      rintro e w2 ⟨rfl, hb⟩
      have H1 := Lib.hid ((H0.out.below hb).alloc (.cells #[.int .i64 R, .slice none 0 0] 24))
      have HA1 := Lib.hid (Re8.start (lo := 0) (C := R) (L := []) (W := w2) 24 Ls.nil nw_none)
      clear hb H0
      go_wp2_with fail
      obtain ⟨a, ha⟩ : ∃ a, a = w2.heap.size := ⟨_, rfl⟩
      rw [← ha] at HA1
      rw [← ha]
      clear ha
      generalize w2.alloc (.cells #[.int .i64 R, .slice none 0 0] 24) = w3 at *
      refine (C2.out _).mono ?_
      rintro e w4 ⟨rfl, hb⟩
      have H2 := Lib.hid ((H1.out.below hb).alloc (.cells #[.int .i64 R, .slice none 0 0] 24))
      have HA2 := Lib.hid ((HA1.out.below hb).alloc (.cells #[.int .i64 R, .slice none 0 0] 24))
      have HB2 := Lib.hid (Re8.start (lo := 0) (C := R) (L := []) (W := w4) 24 Ls.nil nw_none)
      have HAL := Lib.hid (show a < w4.heap.size from (HA1.out.below hb).db.lt)
      clear hb HA1 H1
      obtain ⟨a0, a1, al⟩ := HA2.out.db.facts
      obtain ⟨b0, b1, bl⟩ := HB2.out.db.facts
      go_wp2_with fail
      clear a0 a1 al b0 b1 bl
      obtain ⟨b, hb⟩ : ∃ b, b = w4.heap.size := ⟨_, rfl⟩
      rw [← hb] at HB2 HAL
      rw [← hb]
      clear hb
      generalize w4.alloc (.cells #[.int .i64 R, .slice none 0 0] 24) = w5 at *
      refine (C3.out _ _ _ _ _ _ _ _ _ _ _ HA2.out HB2.out).mono ?_
      rintro e w6 ⟨rfl, hb⟩
      have H3 := Lib.hid (H2.out.below hb)
      clear hb H2 HA2 HB2
      obtain ⟨t0, t1, tl⟩ := H3.out.db.facts
      go_wp2_with fail
      clear t0 t1 tl
      refine (C4.out _ _ H3.out).mono ?_
      rintro e w7 ⟨rfl, hb⟩
      have H4 := Lib.hid (H3.out.below hb)
      clear hb H3
      go_wp2_with fail
      refine (C5.out _).mono ?_
      rintro e w8 ⟨rfl, hb⟩
      have H5 := Lib.hid (H4.out.below hb)
      clear hb H4
      go_wp2
      go_ret
      exact ⟨rfl, H5.out.bel⟩

/-! The row's step, as the guide's shell has it. -/
namespace deadRaw
open Go.ChangeShapes Go.WideShapes Go.ChangeAt
open Go.ChangeMaps (open_string shut_string)
theorem own : ownKnob Try.prog.godebug = none := by kernel_rfl
theorem laidOut : laidOutB Try.prog = true := by kernel_rfl

set_option maxRecDepth 100000 in
theorem lifted (os : Os) (started : os.Started) (H : Type) (enc : TypeId × Value → H) :
    ReturnsInHanded {} Try.checked os 3 .any (Rows.deadRawSpec.pre6 enc Try.prog Try.f3 Rows.deadRawRow.domain false) (Rows.deadRawSpec.post enc Try.prog Try.f3 false true false false) := by
  refine returnsInHanded_of_change (C := Try.checked) own started (by kernel_rfl) Try.func3
    (ChangeSpec.witness6 (enc := enc) (C := Try.checked) false ⟨#[], #[.agg #[.int .i64 0, .slice none 0 0], .slice none 0 0, .int .i64 0, .int .i64 0], []⟩ 8 (by kernel_rfl) (by kernel_rfl) (by kernel_rfl) (by kernel_rfl)) ?_
  intro W base args ds gs before hval0 hW hcnd _
  have hval : ∀ (j : Nat) t v, Try.f3.params[j]? = some t → args[j]? = some v → Value.okWide Try.prog W .any base t v := hval0
  have hW' := hW
  obtain ⟨p, q, hA0, hV, rfl, hfz, hnd⟩ := hW
  have hA : DataW.TrodAll enc Try.prog W 0 (fun _ => true) true Try.f3.params.toList args.toList ds p := hA0
  rw [Try.params3] at hA hval
  obtain ⟨v0, vs0, d0, ds0, p0, q0, hargs, rfl, rfl, h0, r0⟩ := trodAll_cons hA
  obtain ⟨v1, vs1, d1, ds1, p1, q1, rfl, rfl, rfl, h1, r1⟩ := trodAll_cons r0
  obtain ⟨v2, vs2, d2, ds2, p2, q2, rfl, rfl, rfl, h2, r2⟩ := trodAll_cons r1
  obtain ⟨v3, vs3, d3, ds3, p3, q3, rfl, rfl, rfl, h3, r3⟩ := trodAll_cons r2
  obtain ⟨rfl, rfl, rfl⟩ := trodAll_nil r3
  obtain rfl : args = #[v0, v1, v2, v3] := by cases args; simp_all
  obtain ⟨rfl, rfl⟩ := trodVars_none hV
  have k0 := h0
  have lt0 : ∀ x ∈ p0, x.block < W.heap.size := by obtain ⟨m, hm⟩ := k0; exact DataW.trod_lt m _ _ _ hm
  obtain ⟨n0, a0, len0, cap0, z0, rfl, u0, w0⟩ := open_dead (hval 0 24 v0 rfl rfl) h0
  obtain ⟨a1, len1, cap1, rfl⟩ := okWide_slice Try.underlying22 (hval 1 22 v1 rfl rfl)
  have k1 := h1
  have lt1 : ∀ x ∈ p1, x.block < W.heap.size := by obtain ⟨m, hm⟩ := k1; exact DataW.trod_lt m _ _ _ hm
  obtain ⟨z1, w1⟩ : ∃ zs, Ls W W.heap.size (.slice a1 len1 cap1) zs := by
    obtain ⟨fuel, hf⟩ := h1
    obtain ⟨A, n, c, l, hcs, hl⟩ := open_msgs hf
    simp [Value.cells] at hcs
    obtain ⟨rfl, rfl, rfl⟩ := hcs
    exact ⟨l, hl⟩
  obtain ⟨a2, rfl, rfl, rfl, w2⟩ := open_int Try.underlying3 (hval 2 3 v2 rfl rfl) h2
  obtain ⟨a3, rfl, rfl, rfl, w3⟩ := open_int Try.underlying3 (hval 3 3 v3 rfl rfl) h3
  clear hA0 hval0
  refine (DeadRaw_walk W n0 u0 a0 len0 cap0 z0 w0 a1 len1 cap1 z1 w1 a2 w2 a3 w3).mono fun e W' ⟨he, bel⟩ => ?_
  subst he
  exact ⟨_, rfl, _, _, _, [], _, [], hW', trodAll_mk1 (shut_bool Try.underlying4 _), (trodAll_cons_mk (Below.trod laidOut (by kernel_rfl) (of_decide_eq_true (by kernel_rfl)) k0 bel lt0) (trodAll_cons_mk (Below.trod laidOut (by kernel_rfl) (of_decide_eq_true (by kernel_rfl)) k1 bel lt1) (trodAll_cons_mk (shut_int Try.underlying3 w2) (trodAll_cons_mk (shut_int Try.underlying3 w3) trodAll_mk0)))), rfl, bel.frame _, fun h => by cases h⟩

theorem over : Rows.deadRawRow.holds Try.pinned (OpenSpec.ofChange Rows.deadRawSpec) :=
  OpenClaim.holds_of_wide 3 Try.f3 rfl rfl rfl rfl rfl rfl rfl ⟨rfl, rfl, rfl, rfl, rfl⟩ rfl rfl rfl rfl rfl (by kernel_rfl) Try.func3 (by kernel_rfl)
    (of_decide_eq_true (by kernel_rfl)) (by unfold Func.isWrapper; first | (rw [if_pos (by decide +kernel)]; kernel_rfl) | (rw [if_neg (by decide +kernel)]; exact ⟨rfl, rfl⟩))
    (fun os started H enc _ => lifted os started H enc)

/-- The statement. -/
theorem proved : Rows.DeadRawSaid := over
#print axioms proved
end deadRaw
end Go.Proofs.Ytbeafcjbldnkhaa
