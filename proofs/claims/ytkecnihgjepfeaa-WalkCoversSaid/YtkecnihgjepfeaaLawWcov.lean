/- What is proved here: shardqueuelaw16.WalkCovers returns true for every input and leaves its arguments as they were. No condition. -/
import Derived.Test.YtkecnihgjepfeaaJ03
import Derived.Test.YtkecnihgjepfeaaJ04
import Derived.ProofKit
import Derived.OpenShut
import Derived.ChangeOld
import Derived.Deep.DeepCutAuto
import Derived.Deep.RegionHeld3
namespace Go.Proofs.Ytkecnihgjepfeaa
open Go.RowKit
set_option linter.unusedVariables false
set_option linter.unusedSimpArgs false

/-- What holds of a walk that began at a route, has covered C routes, and took S steps. -/
structure Wi16 (st C S : Int) (x : Wk) : Prop where
  c0 : 0 ≤ C
  s0 : 0 ≤ S
  cv : x.cv = C
  nx : x.nx = (st + C) % 65536
  up : C ≤ 131071
  m : 1001 * (S - (st + C) / 65536) ≤ C
theorem Wi16.step {st C S : Int} {x : Wk} (s1 : 0 ≤ st) (s2 : st ≤ 65535) (h : Wi16 st C S x) (ho : C < 65536) {lo k : Int} (l0 : 0 ≤ lo) (l1 : lo ≤ x.nx) (k0 : 0 ≤ k) (k1 : k ≤ 29999) :
    S < 400 ∧ (0 ≤ x.nx ∧ x.nx ≤ 65535) ∧ adB x lo (min 65535 (x.nx + 1000 + k)) = true ∧ Wi16 st (C + (min 65535 (x.nx + 1000 + k) - x.nx + 1)) (S + 1) ⟨nxW (min 65535 (x.nx + 1000 + k)), x.cv + min 65535 (x.nx + 1000 + k) - x.nx + 1⟩ ∧ (x.nx ≤ min 65535 (x.nx + 1000 + k) ∧ min 65535 (x.nx + 1000 + k) ≤ 65535) := by
  obtain ⟨a1, a2, a3, a4, a5, a6⟩ := h
  have hx : 0 ≤ x.nx ∧ x.nx ≤ 65535 := by rw [a4]; omega
  obtain ⟨hi, hhi⟩ : ∃ hi, hi = min 65535 (x.nx + 1000 + k) := ⟨_, rfl⟩
  rw [← hhi]
  have h1 : x.nx ≤ hi ∧ hi ≤ 65535 := by omega
  have hS : S < 400 := by omega
  refine ⟨hS, hx, ?_, ?_, h1⟩
  · unfold adB
    rw [wki_t l0 l1, wki_t h1.1 h1.2, wki_t (by omega) (by omega)]
    rfl
  · have e := nxW_of (hi := hi) (by omega) h1.2
    refine ⟨by omega, by omega, by show x.cv + hi - x.nx + 1 = _; omega, ?_, by omega, ?_⟩
    · show nxW hi = _
      rw [e]
      split <;> omega
    · omega
set_option maxHeartbeats 8000000 in
set_option maxRecDepth 20000 in
theorem WalkCovers_walk (w : World) (a1 : Option Addr) (l1 c1 : Nat) (zs : List Int) (hz : Ns w w.heap.size (.slice a1 l1 c1) zs) (ro : Int) (wr0 : (Lit.int .i64 ro).wf = true) :
    Calls Try.prog 5 #[.slice a1 l1 c1, .int .i64 ro] w fun e w' => e = .returned (.bool true) ∧ Below w.heap.size w w' := by
  have HNS := Lib.hid (new_src a1 l1 c1 zs w hz)
  obtain ⟨st, hst⟩ : ∃ st, st = ro % 65536 := ⟨_, rfl⟩
  have hand : bits .and .i64 ro 65535 = st := by rw [hst]; exact i64_and65535 ro
  have s12 : 0 ≤ st ∧ st ≤ 65535 := by omega
  have HST := Lib.hid s12
  have HBE := Lib.hid (fun W => wbegin_any st W)
  rw [(bgW_y (wki_t s12.1 s12.2)).1, (bgW_y (wki_t s12.1 s12.2)).2] at HBE
  have HAD := Lib.hid (fun V a b W => wadvance_any V a b W)
  have HOV := Lib.hid (fun V W => wover_any V W)
  have HAW := Lib.hid (fun W => awake16_any W)
  clear hst s12 wr0 hz
  go_enter Try.func5, Try.ntmps5
  go_wp2_with fail
  refine HNS.out.mono ?_
  rintro e w1 ⟨g, rfl, hs, hb⟩
  have HW := Lib.hid (show Wr w w.heap.size g [] w1 from ⟨hs, fun q hq => absurd hq (by simp), hb, by have := hs.1; omega, Nat.le_refl _⟩)
  clear hs hb HNS
  go_wp2_with fail
  refine (HBE.out _).mono ?_
  rintro e w2 ⟨rfl, hb⟩
  have HW := Lib.hid ((HW.out.below hb).box ⟨st, 0⟩ 23)
  obtain ⟨p, hq⟩ : ∃ q, q = w2.heap.size := ⟨_, rfl⟩
  have HPB := Lib.hid (show w.heap.size ≤ p from by rw [hq]; exact (HW.out.bx (w2.heap.size, ⟨st, 0⟩) (by simp)).2.2)
  rw [← hq] at HW
  clear hb HBE
  go_upto_region 4 with (fail)
  rw [← hq]
  clear hq
  generalize w2.alloc (.cells #[.int .i64 st, .int .i64 0] 23) = w2a at *
  go_upto_region 7 with (fail)
  go_loopw [9, 10, 11, 12, 13, 14] (fun c s _ _ _ _ wr => ∃ (C S : Int) (x : Wk), c = .int .i64 C ∧ s = .int .i64 S ∧ Wi16 st C S x ∧ Hid (Wr w w.heap.size g [(p, x)] wr)) (fun c s _ _ _ _ _ => 400 - (intOf s).toNat)
  case atStart => exact ⟨0, 0, ⟨st, 0⟩, rfl, rfl, ⟨by omega, by omega, rfl, by have := HST.out; show st = (st + 0) % 65536; omega, by omega, by have := HST.out; omega⟩, HW⟩
  case round =>
    obtain ⟨C, S, x, rfl, rfl, hI, HW⟩ := hrel
    have HI := Lib.hid hI
    clear hI
    obtain ⟨x0, x1, xl, f0, f1⟩ := (HW.out.bx (p, x) (by simp)).1.all
    go_wp2_with fail
    refine (HOV.out x _).mono ?_
    rintro e w3 ⟨rfl, hb⟩
    have HW := Lib.hid (HW.out.below hb)
    clear x0 x1 xl f0 f1 hb
    by_cases ho : C < 65536
    · have hov : ovB x = false := decide_eq_false (by have := HI.out.cv; omega)
      rw [hov]
      have h5 := HI.out.step HST.out.1 HST.out.2 ho (lo := 0) (k := 0) (Int.le_refl _) (by have := HI.out.nx; omega) (Int.le_refl _) (by omega)
      have hS := h5.1
      have hx := h5.2.1
      have hw1 : IntKind.i64.wrap (x.nx + 1) = x.nx + 1 := IntWalk.i64_in _ (by omega)
      have HX := Lib.hid hx
      have HO := Lib.hid ho
      clear h5 hx ho
      obtain ⟨x0, x1, xl, f0, f1⟩ := (HW.out.bx (p, x) (by simp)).1.all
      go_wp2_with fail
      refine (n_any w.heap.size g _ HW.out.src (x.nx + 1) (by have := HX.out; omega) (by have := HX.out; omega)).mono ?_
      rintro e w4 ⟨lo, rfl, l0, l1, hs, hg⟩
      have HW := Lib.hid (HW.out.turn hs hg)
      have HL := Lib.hid (And.intro l0 l1)
      clear x0 x1 xl f0 f1 hs hg l0 l1 hw1
      go_upto_region 9 with (fail)
      have hw2 : IntKind.i64.wrap (x.nx + 1000) = x.nx + 1000 := IntWalk.i64_in _ (by have := HX.out; omega)
      have HW := Lib.hid HW.out.drew
      have HS := Lib.hid (show _ = _ from (HW.out.bx (p, x) (by simp)).1.c0)
      go_region_held3 (fun W => W.cell? ⟨p, 0, none⟩ = some (.int .i64 x.nx))
        (first | with_reducible exact HS.out)
        (first
        | (go_at_call 11; (with_reducible refine (n_any w.heap.size g _ HW.out.src 30000 (by omega) (by omega)).mono ?_); rintro e w5 ⟨k, rfl, k0, k1, hs, hg⟩; have HW := Lib.hid (HW.out.turn hs hg); have HS := Lib.hid (show _ = _ from (HW.out.bx (p, x) (by simp)).1.c0); have hw3 : IntKind.i64.wrap (x.nx + 1000 + k) = x.nx + 1000 + k := IntWalk.i64_in _ (by have := HX.out; omega); have HK := Lib.hid (And.intro k0 k1); clear hs hg k0 k1))
      have h5 := HI.out.step HST.out.1 HST.out.2 HO.out HL.out.1 (by have := HL.out.2; omega) HK.out.1 (by have := HK.out.2; omega)
      obtain ⟨hi, hhi⟩ : ∃ hi, hi = min 65535 (x.nx + 1000 + k) := ⟨_, rfl⟩
      rw [← hhi] at h5 ⊢
      obtain ⟨-, -, hB, hI2, hh⟩ := h5
      have hA := adW_y hB
      obtain ⟨y1, hy1⟩ : ∃ y, y = nxW hi := ⟨_, rfl⟩
      obtain ⟨y2, hy2⟩ : ∃ y, y = x.cv + hi - x.nx + 1 := ⟨_, rfl⟩
      obtain ⟨C2, hC2⟩ : ∃ y, y = C + (hi - x.nx + 1) := ⟨_, rfl⟩
      rw [← hy1, ← hy2] at hA hI2
      rw [← hC2] at hI2
      have HADk := Lib.hid (HAD.out x lo hi)
      rw [hA.1, hA.2] at HADk
      have HI2 := Lib.hid hI2
      have HH := Lib.hid hh
      have HC2 := Lib.hid hC2
      have HY2 := Lib.hid hy2
      have HY1 := Lib.hid hy1
      have HCV := Lib.hid HI.out.cv
      have HCU := Lib.hid (And.intro HI.out.c0 HI.out.up)
      have HSS := Lib.hid HI.out.s0
      clear hB hI2 hh hA hy1 hy2 hC2 hhi hw2 hw3 HS
      obtain ⟨x0, x1, xl, f0, f1⟩ := (HW.out.bx (p, x) (by simp)).1.all
      go_wp2_with fail
      refine (HADk.out _).mono ?_
      rintro e w6 ⟨rfl, hb⟩
      have HQP := Lib.hid (show w6.heap.size ≠ p from by have := ((HW.out.below hb).bx (p, x) (by simp)).1.lt; have h2 : p < w6.heap.size := this; omega)
      have HW := Lib.hid ((HW.out.below hb).box ⟨y1, y2⟩ 23)
      clear x0 x1 xl f0 f1 hb HADk
      obtain ⟨q, hq⟩ : ∃ q, q = w6.heap.size := ⟨_, rfl⟩
      rw [← hq] at HW HQP
      go_upto_region 11 with (fail)
      rw [← hq]
      clear hq
      generalize w6.alloc (.cells #[.int .i64 y1, .int .i64 y2] 23) = w6a at *
      obtain ⟨x0, x1, xl, f0, f1⟩ := (HW.out.bx (p, x) (by simp)).1.all
      obtain ⟨u0, u1, ul, g0, g1⟩ := (HW.out.bx (q, ⟨y1, y2⟩) (by simp)).1.all
      have hw4 : IntKind.i64.wrap (y2 - x.cv) = y2 - x.cv := IntWalk.i64_in _ (by have := HY2.out; have := HH.out; have := HX.out; omega)
      have hw5 : IntKind.i64.wrap (hi - x.nx) = hi - x.nx := IntWalk.i64_in _ (by have := HH.out; have := HX.out; omega)
      have hw6 : IntKind.i64.wrap (hi - x.nx + 1) = hi - x.nx + 1 := IntWalk.i64_in _ (by have := HH.out; have := HX.out; omega)
      have hw7 : IntKind.i64.wrap (hi + 1) = hi + 1 := IntWalk.i64_in _ (by have := HH.out; have := HX.out; omega)
      have hw8 : (hi + 1).tmod 65536 = y1 := HY1.out.symm
      have hw9 : IntKind.i64.wrap y1 = y1 := IntWalk.i64_in _ (by have h1 := HI2.out.nx; have h2 : y1 = _ := h1; omega)
      have hn1 : (y2 - x.cv != hi - x.nx + 1) = false := by simp; have := HY2.out; omega
      have hn2 : (y1 != y1) = false := by simp
      go_upto_region 13 with (fail)
      clear hw4 hw7 hw8 hw9 hn1 hn2
      have hwa : IntKind.i64.wrap (C + (hi - x.nx + 1)) = C2 := by rw [← HC2.out]; exact IntWalk.i64_in _ (by have := HI2.out.c0; have := HI2.out.up; omega)
      go_upto_region 14 with (fail)
      have HW := Lib.hid ((HW.out.set (p := p) (x := x) (by simp) (fun r hr e => by
        rcases List.mem_cons.1 hr with rfl | hr
        · exact absurd e HQP.out
        · simpa using hr) HPB.out ⟨y1, y2⟩).sub (bs' := [(p, ⟨y1, y2⟩)]) (fun r hr => by
        obtain rfl : r = (p, ⟨y1, y2⟩) := by simpa using hr
        simp))
      go_upto_region 15 with (fail)
      clear x0 x1 xl f0 f1 u0 u1 ul g0 g1 hwa hw5 hw6
      generalize (w6a.setCell ⟨p, 0, none⟩ (.int .i64 y1)).setCell ⟨p, 1, none⟩ (.int .i64 y2) = w7 at *
      have hwb : IntKind.i64.wrap (S + 1) = S + 1 := IntWalk.i64_in _ (by have := HSS.out; omega)
      go_upto_region 16 with (fail)
      obtain ⟨x0, x1, xl, f0, f1⟩ := (HW.out.bx (p, ⟨y1, y2⟩) (by simp)).1.all
      have hwc : IntKind.i64.wrap (st + C2) = st + C2 := IntWalk.i64_in _ (by have := HI2.out.c0; have := HI2.out.up; have := HST.out; omega)
      have hwd : (st + C2).tmod 65536 = y1 := by
        have h1 := HI2.out.nx
        have h2 : y1 = (st + C2) % 65536 := h1
        rw [Int.tmod_eq_emod_of_nonneg (by have := HI2.out.c0; have := HST.out; omega), h2]
      have hwe : IntKind.i64.wrap y1 = y1 := IntWalk.i64_in _ (by have h1 := HI2.out.nx; have h2 : y1 = _ := h1; omega)
      go_wp2
      clear x0 x1 xl f0 f1
      go_roundw
      case rel => exact ⟨C2, S + 1, ⟨y1, y2⟩, rfl, rfl, HI2.out, HW⟩
      case measure => simp only [intOf]; have := HSS.out; omega
    · have hov : ovB x = true := decide_eq_true (by have := HI.out.cv; omega)
      rw [hov]
      have hC : 65536 ≤ C := by omega
      have hov2 : ovB x = true := hov
      have HOX := Lib.hid (HOV.out x)
      rw [hov] at HOX
      clear ho hov hov2
      go_upto_region 18 with (fail)
      obtain ⟨x0, x1, xl, f0, f1⟩ := (HW.out.bx (p, x) (by simp)).1.all
      go_wp2_with fail
      refine (HOX.out _).mono ?_
      rintro e w4 ⟨rfl, hb⟩
      have HW := Lib.hid (HW.out.below hb)
      clear x0 x1 xl f0 f1 hb
      go_wp2_with fail
      refine (HAW.out _).mono ?_
      rintro e w5 ⟨rfl, hb⟩
      have HF := Lib.hid (HW.out.below hb).bel
      clear hb
      go_wp2
      go_ret
      exact ⟨rfl, HF.out⟩

/-! The row's step, as the guide's shell has it. -/
namespace walkCovers
open Go.ChangeShapes Go.WideShapes Go.ChangeAt
open Go.ChangeMaps (open_string shut_string)
theorem own : ownKnob Try.prog.godebug = none := by kernel_rfl
theorem laidOut : laidOutB Try.prog = true := by kernel_rfl

set_option maxRecDepth 100000 in
theorem lifted (os : Os) (started : os.Started) (H : Type) (enc : TypeId × Value → H) :
    ReturnsInHanded {} Try.checked os 5 .any (Rows.walkCoversSpec.pre6 enc Try.prog Try.f5 Rows.walkCoversRow.domain false) (Rows.walkCoversSpec.post enc Try.prog Try.f5 false true false false) := by
  refine returnsInHanded_of_change (C := Try.checked) own started (by kernel_rfl) Try.func5
    (ChangeSpec.witness6 (enc := enc) (C := Try.checked) false ⟨#[], #[.slice none 0 0, .int .i64 0], []⟩ 8 (by kernel_rfl) (by kernel_rfl) (by kernel_rfl) (by kernel_rfl)) ?_
  intro W base args ds gs before hval0 hW hcnd _
  have hval : ∀ (j : Nat) t v, Try.f5.params[j]? = some t → args[j]? = some v → Value.okWide Try.prog W .any base t v := hval0
  have hW' := hW
  obtain ⟨p, q, hA0, hV, rfl, hfz, hnd⟩ := hW
  have hA : DataW.TrodAll enc Try.prog W 0 (fun _ => true) true Try.f5.params.toList args.toList ds p := hA0
  rw [Try.params5] at hA hval
  obtain ⟨v0, vs0, d0, ds0, p0, q0, hargs, rfl, rfl, h0, r0⟩ := trodAll_cons hA
  obtain ⟨v1, vs1, d1, ds1, p1, q1, rfl, rfl, rfl, h1, r1⟩ := trodAll_cons r0
  obtain ⟨rfl, rfl, rfl⟩ := trodAll_nil r1
  obtain rfl : args = #[v0, v1] := by cases args; simp_all
  obtain ⟨rfl, rfl⟩ := trodVars_none hV
  obtain ⟨a0, len0, cap0, rfl⟩ := okWide_slice Try.underlying24 (hval 0 24 v0 rfl rfl)
  have k0 := h0
  have lt0 : ∀ x ∈ p0, x.block < W.heap.size := by obtain ⟨m, hm⟩ := k0; exact DataW.trod_lt m _ _ _ hm
  obtain ⟨z0, w0⟩ : ∃ zs, Ns W W.heap.size (.slice a0 len0 cap0) zs := by
    obtain ⟨fuel, hf⟩ := h0
    rcases open_ints Try.underlying24 Try.underlying3 (by kernel_rfl) hf with ⟨hcs, _⟩ | ⟨x, l, c, zs, hcs, _, hl, hm, hz, _, hcell, hwz⟩
    · simp [Value.cells] at hcs
      obtain ⟨rfl, rfl, rfl⟩ := hcs
      exact ⟨[], Ns.nil⟩
    · simp [Value.cells] at hcs
      obtain ⟨rfl, rfl, rfl⟩ := hcs
      exact Ns.of_cells hl hm (by simpa using hz) hcell hwz
  obtain ⟨a1, rfl, rfl, rfl, w1⟩ := open_int Try.underlying3 (hval 1 3 v1 rfl rfl) h1
  clear hA0 hval0
  refine (WalkCovers_walk W a0 len0 cap0 z0 w0 a1 w1).mono fun e W' ⟨he, bel⟩ => ?_
  subst he
  exact ⟨_, rfl, _, _, _, [], _, [], hW', trodAll_mk1 (shut_bool Try.underlying4 _), (trodAll_cons_mk (Below.trod laidOut (by kernel_rfl) (of_decide_eq_true (by kernel_rfl)) k0 bel lt0) (trodAll_cons_mk (shut_int Try.underlying3 w1) trodAll_mk0)), rfl, bel.frame _, fun h => by cases h⟩

theorem over : Rows.walkCoversRow.holds Try.pinned (OpenSpec.ofChange Rows.walkCoversSpec) :=
  OpenClaim.holds_of_wide 5 Try.f5 rfl rfl rfl rfl rfl rfl rfl ⟨rfl, rfl, rfl, rfl, rfl⟩ rfl rfl rfl rfl rfl (by kernel_rfl) Try.func5 (by kernel_rfl)
    (of_decide_eq_true (by kernel_rfl)) (by unfold Func.isWrapper; first | (rw [if_pos (by decide +kernel)]; kernel_rfl) | (rw [if_neg (by decide +kernel)]; exact ⟨rfl, rfl⟩))
    (fun os started H enc _ => lifted os started H enc)

/-- The statement. -/
theorem proved : Rows.WalkCoversSaid := over
#print axioms proved
end walkCovers
end Go.Proofs.Ytkecnihgjepfeaa
