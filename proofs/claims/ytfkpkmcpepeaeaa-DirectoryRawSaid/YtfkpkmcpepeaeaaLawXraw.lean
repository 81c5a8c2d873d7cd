/- What is proved here: shardqueuelaw10.DirectoryRaw returns true for every input and leaves its arguments as they were. No condition. -/
import Derived.Test.YtfkpkmcpepeaeaaJ13
import Derived.Test.YtfkpkmcpepeaeaaJ14
import Derived.ProofKit
import Derived.OpenShut
import Derived.ChangeOld
namespace Go.Proofs.Ytfkpkmcpepeaeaa
open Go.RowKit
set_option linter.unusedVariables false

set_option maxHeartbeats 8000000 in
set_option maxRecDepth 20000 in
theorem DirectoryRaw_walk (w : World) (d : Dd) (X : Dx) (hd : DR w w.heap.size d X) (e : Ed) (we : e.wf) (ro : Int) (w2 : (Lit.int .i64 ro).wf = true) (sl : Int) (w3 : (Lit.int .i64 sl).wf = true) (ss : Int) (w4 : (Lit.int .i64 ss).wf = true) (lv : Int) (w5 : (Lit.int .i64 lv).wf = true) :
    Calls Try.prog 3 #[dv d X, e.v, .int .i64 ro, .int .i64 sl, .int .i64 ss, .int .i64 lv] w fun r w' => r = .returned (.bool true) ∧ Below w.heap.size w w' := by
  have H0 := Lib.hid (Ah10.start (e := e) hd)
  obtain ⟨D, hD⟩ : ∃ D, D = nwD ss lv := ⟨_, rfl⟩
  obtain ⟨x, hx⟩ : ∃ x, x = nwE10 ss lv := ⟨_, rfl⟩
  have HN1 := Lib.hid (fun W => dnew_any ss lv W)
  have HN2 := Lib.hid (fun W => rnew10_any ss lv W)
  have HG := Lib.hid (fun p q W (k : Ah10 w p q d X e W) (hl : d.l.length ≤ 90) (hn : d.F.length ≤ 1000) => agrees10_any d X e ro sl W k.da.dr hl hn)
  have HAW := Lib.hid (fun W => awake10_any W)
  have HSM := Lib.hid (fun Y Z W (h1 : DR W W.heap.size D Y) (h2 : DR W W.heap.size D Z) => rsame10_yes D Y Z W h1 h2)
  rw [← hD, ← hx] at HN1 HN2
  obtain ⟨p, hp⟩ : ∃ p, p = w.heap.size := ⟨_, rfl⟩
  obtain ⟨q, hq⟩ : ∃ q, q = w.heap.size + 1 := ⟨_, rfl⟩
  have HPP := Lib.hid (And.intro hp hq)
  clear hD hx hp hq hd we w2 w3 w4 w5
  have hway : 12 < d.l.length ∨ (d.l.length ≤ 12 ∧ 12 < d.F.length) ∨ (d.l.length ≤ 12 ∧ d.F.length ≤ 12) := by omega
  rcases hway with l1 | ⟨l1, l2⟩ | ⟨l1, l2⟩
  iterate 2
    · go_enter Try.func3, Try.ntmps3
      obtain ⟨⟨x0, x1, x2, xl⟩, -⟩ := H0.out.da.db.all
      obtain ⟨y0, y1, y2, y3, yl⟩ := H0.out.eb
      go_wp2
      go_ret
      exact ⟨rfl, H0.out.da.bel⟩
  · go_enter Try.func3, Try.ntmps3
    obtain ⟨⟨x0, x1, x2, xl⟩, -⟩ := H0.out.da.db.all
    obtain ⟨y0, y1, y2, y3, yl⟩ := H0.out.eb
    go_wp2_with fail
    clear x0 x1 x2 xl y0 y1 y2 y3 yl
    rw [← HPP.out.2, ← HPP.out.1] at H0
    generalize (w.alloc (.cells #[.int .i64 d.vn, .slice X.A d.l.length X.c, .slice X.A2 d.F.length X.c2] 25)).alloc (.cells #[.int .i64 e.kd, .int .i64 e.fr, .int .i64 e.to, .int .i64 e.md] 27) = w2 at *
    rw [← HPP.out.2, ← HPP.out.1]
    have HL := Lib.hid (show d.l.length ≤ 90 ∧ d.F.length ≤ 1000 by omega)
    clear l1 l2
    refine (HN1.out _).mono ?_
    rintro r w3 ⟨Y, rfl, -, hdr, hb⟩
    have HA := ((Below.refl w3.heap.size w3).alloc (Nat.le_refl _) (.cells #[.int .i64 D.vn, .slice Y.A D.l.length Y.c, .slice Y.A2 D.F.length Y.c2] 25))
    have H1 := Lib.hid ((H0.out.below hb).below HA)
    have HT1 := Lib.hid (Dh10.start hdr 25)
    clear hb H0 hdr HA
    go_wp2_with fail
    obtain ⟨r1, hr1⟩ : ∃ r, r = w3.heap.size := ⟨_, rfl⟩
    rw [← hr1] at HT1 ⊢
    clear hr1
    generalize w3.alloc (.cells #[.int .i64 D.vn, .slice Y.A D.l.length Y.c, .slice Y.A2 D.F.length Y.c2] 25) = w4 at *
    refine (HN2.out _).mono ?_
    rintro r w5 ⟨Z, rfl, -, hdr, hb⟩
    have HA := ((Below.refl w5.heap.size w5).alloc (Nat.le_refl _) (.cells #[.int .i64 D.vn, .slice Z.A D.l.length Z.c, .slice Z.A2 D.F.length Z.c2] 25))
    have H2 := Lib.hid ((H1.out.below hb).below HA)
    have HT1 := Lib.hid ((HT1.out.up hb).up HA)
    have HU1 := Lib.hid (Dh10.start hdr 25)
    clear hb H1 HA hdr
    obtain ⟨⟨a0, a1, a2, al⟩, -⟩ := HT1.out.db.all
    go_wp2_with fail
    obtain ⟨r2, hr2⟩ : ∃ r, r = w5.heap.size := ⟨_, rfl⟩
    rw [← hr2] at HU1 ⊢
    clear hr2
    generalize w5.alloc (.cells #[.int .i64 D.vn, .slice Z.A D.l.length Z.c, .slice Z.A2 D.F.length Z.c2] 25) = w6 at *
    obtain ⟨⟨b0, b1, b2, bl⟩, -⟩ := HU1.out.db.all
    go_wp2_with fail
    clear a0 a1 a2 al b0 b1 b2 bl
    refine (HSM.out Y Z _ HT1.out.dr HU1.out.dr).mono ?_
    rintro r w11 ⟨rfl, hb⟩
    have H5 := Lib.hid (H2.out.below hb)
    clear hb H2 HT1 HU1
    obtain ⟨⟨x0, x1, x2, xl⟩, -⟩ := H5.out.da.db.all
    obtain ⟨y0, y1, y2, y3, yl⟩ := H5.out.eb
    go_wp2_with fail
    clear x0 x1 x2 xl y0 y1 y2 y3 yl
    refine (HG.out _ _ _ H5.out HL.out.1 HL.out.2).mono ?_
    rintro r w12 ⟨rfl, hb⟩
    have H6 := Lib.hid (H5.out.below hb)
    clear hb H5
    go_wp2_with fail
    refine (HAW.out _).mono ?_
    rintro r w13 ⟨rfl, hb⟩
    have H7 := Lib.hid (H6.out.below hb)
    clear hb H6
    go_wp2
    go_ret
    exact ⟨rfl, H7.out.da.bel⟩

/-! The row's step, as the guide's shell has it. -/
namespace directoryRaw
open Go.ChangeShapes Go.WideShapes Go.ChangeAt
open Go.ChangeMaps (open_string shut_string)
theorem own : ownKnob Try.prog.godebug = none := by kernel_rfl
theorem laidOut : laidOutB Try.prog = true := by kernel_rfl

set_option maxRecDepth 100000 in
theorem lifted (os : Os) (started : os.Started) (H : Type) (enc : TypeId × Value → H) :
    ReturnsInHanded {} Try.checked os 3 .any (Rows.directoryRawSpec.pre6 enc Try.prog Try.f3 Rows.directoryRawRow.domain false) (Rows.directoryRawSpec.post enc Try.prog Try.f3 false true false false) := by
  refine returnsInHanded_of_change (C := Try.checked) own started (by kernel_rfl) Try.func3
    (ChangeSpec.witness6 (enc := enc) (C := Try.checked) false ⟨#[], #[.agg #[.int .i64 0, .slice none 0 0, .slice none 0 0], .agg #[.int .i64 0, .int .i64 0, .int .i64 0, .int .i64 0], .int .i64 0, .int .i64 0, .int .i64 0, .int .i64 0], []⟩ 8 (by kernel_rfl) (by kernel_rfl) (by kernel_rfl) (by kernel_rfl)) ?_
  intro W base args ds gs before hval0 hW hcnd _
  have hval : ∀ (j : Nat) t v, Try.f3.params[j]? = some t → args[j]? = some v → Value.okWide Try.prog W .any base t v := hval0
  have hW' := hW
  obtain ⟨p, q, hA0, hV, rfl, hfz, hnd⟩ := hW
  have hA : DataW.TrodAll enc Try.prog W 0 (fun _ => true) true Try.f3.params.toList args.toList ds p := hA0
  rw [Try.params3] at hA hval
  obtain ⟨v0, vs0, d0, ds0, p0, q0, hargs, rfl, rfl, h0, r0⟩ := trodAll_cons hA
  obtain ⟨v1, vs1, d1, ds1, p1, q1, rfl, rfl, rfl, h1, r1⟩ := trodAll_cons r0
  obtain ⟨v2, vs2, d2, ds2, p2, q2, rfl, rfl, rfl, h2, r2⟩ := trodAll_cons r1
  obtain ⟨v3, vs3, d3, ds3, p3, q3, rfl, rfl, rfl, h3, r3⟩ := trodAll_cons r2
  obtain ⟨v4, vs4, d4, ds4, p4, q4, rfl, rfl, rfl, h4, r4⟩ := trodAll_cons r3
  obtain ⟨v5, vs5, d5, ds5, p5, q5, rfl, rfl, rfl, h5, r5⟩ := trodAll_cons r4
  obtain ⟨rfl, rfl, rfl⟩ := trodAll_nil r5
  obtain rfl : args = #[v0, v1, v2, v3, v4, v5] := by cases args; simp_all
  obtain ⟨rfl, rfl⟩ := trodVars_none hV
  have k0 := h0
  have lt0 : ∀ x ∈ p0, x.block < W.heap.size := by obtain ⟨m, hm⟩ := k0; exact DataW.trod_lt m _ _ _ hm
  obtain ⟨a0, x0, rfl, w0⟩ := open_directory (hval 0 25 v0 rfl rfl) h0
  obtain ⟨a1, rfl, rfl, rfl, w1⟩ := open_edit (hval 1 27 v1 rfl rfl) h1
  obtain ⟨a2, rfl, rfl, rfl, w2⟩ := open_int Try.underlying3 (hval 2 3 v2 rfl rfl) h2
  obtain ⟨a3, rfl, rfl, rfl, w3⟩ := open_int Try.underlying3 (hval 3 3 v3 rfl rfl) h3
  obtain ⟨a4, rfl, rfl, rfl, w4⟩ := open_int Try.underlying3 (hval 4 3 v4 rfl rfl) h4
  obtain ⟨a5, rfl, rfl, rfl, w5⟩ := open_int Try.underlying3 (hval 5 3 v5 rfl rfl) h5
  clear hA0 hval0
  refine (DirectoryRaw_walk W a0 x0 w0 a1 w1 a2 w2 a3 w3 a4 w4 a5 w5).mono fun e W' ⟨he, bel⟩ => ?_
  subst he
  exact ⟨_, rfl, _, _, _, [], _, [], hW', trodAll_mk1 (shut_bool Try.underlying4 _), (trodAll_cons_mk (Below.trod laidOut (by kernel_rfl) (of_decide_eq_true (by kernel_rfl)) k0 bel lt0) (trodAll_cons_mk (shut_edit a1 w1) (trodAll_cons_mk (shut_int Try.underlying3 w2) (trodAll_cons_mk (shut_int Try.underlying3 w3) (trodAll_cons_mk (shut_int Try.underlying3 w4) (trodAll_cons_mk (shut_int Try.underlying3 w5) trodAll_mk0)))))), rfl, bel.frame _, fun h => by cases h⟩

theorem over : Rows.directoryRawRow.holds Try.pinned (OpenSpec.ofChange Rows.directoryRawSpec) :=
  OpenClaim.holds_of_wide 3 Try.f3 rfl rfl rfl rfl rfl rfl rfl ⟨rfl, rfl, rfl, rfl, rfl⟩ rfl rfl rfl rfl rfl (by kernel_rfl) Try.func3 (by kernel_rfl)
    (of_decide_eq_true (by kernel_rfl)) (by unfold Func.isWrapper; first | (rw [if_pos (by decide +kernel)]; kernel_rfl) | (rw [if_neg (by decide +kernel)]; exact ⟨rfl, rfl⟩))
    (fun os started H enc _ => lifted os started H enc)

/-- The statement. -/
theorem proved : Rows.DirectoryRawSaid := over
#print axioms proved
end directoryRaw
end Go.Proofs.Ytfkpkmcpepeaeaa
