/- What is proved here: shardqueuelaw09.HandleUnique returns true for every input and leaves its arguments as they were. No condition. -/
import Derived.Test.YtkkgfnncdaiooaaJ05
import Derived.Test.YtkkgfnncdaiooaaJ07
import Derived.Test.YtkkgfnncdaiooaaJ08
import Derived.Test.YtkkgfnncdaiooaaJ09
import Derived.ProofKit
import Derived.OpenShut
import Derived.ShutString
import Derived.ChangeOld
import Derived.Deep.DeepCutAuto
import Derived.Deep.RegionHeld3
namespace Go.Proofs.Ytkkgfnncdaiooaa
open Go.RowKit
set_option linter.unusedVariables false

/-- Two boxes of handles. -/
structure U2 (w : World) (p q : Nat) (a b : Hq) (W : World) : Prop where
  pb : Qb W p a
  qb : Qb W q b
  ne : p < q
  old : w.heap.size ≤ p
  bel : Below w.heap.size w W
section
variable {w W W' : World} {p q : Nat} {a b : Hq}
theorem U2.up (h : U2 w p q a b W) (hb : Below W.heap.size W W') : U2 w p q a b W' := ⟨h.pb.up hb, h.qb.up hb, h.ne, h.old, h.bel.trans (hb.mono h.bel.size)⟩
abbrev Q8 (p q : Nat) (a b : Hq) (W : World) : Prop := W.cell? ⟨p, 0, none⟩ = some (.int .i64 a.id) ∧ W.cell? ⟨p, 1, none⟩ = some (.int .i64 a.gn) ∧ W.cell? ⟨p, 2, none⟩ = some (.int .i64 a.rt) ∧ W.cell? ⟨p, 3, none⟩ = some (.int .i64 a.ht) ∧ W.cell? ⟨q, 0, none⟩ = some (.int .i64 b.id) ∧ W.cell? ⟨q, 1, none⟩ = some (.int .i64 b.gn) ∧ W.cell? ⟨q, 2, none⟩ = some (.int .i64 b.rt) ∧ W.cell? ⟨q, 3, none⟩ = some (.int .i64 b.ht)
theorem U2.q8 (h : U2 w p q a b W) : Q8 p q a b W := ⟨h.pb.c0, h.pb.c1, h.pb.c2, h.pb.c3, h.qb.c0, h.qb.c1, h.qb.c2, h.qb.c3⟩
theorem U2.setp (h : U2 w p q a b W) (x : Hq) : U2 w p q x b ((((W.setCell ⟨p, 0, none⟩ (.int .i64 x.id)).setCell ⟨p, 1, none⟩ (.int .i64 x.gn)).setCell ⟨p, 2, none⟩ (.int .i64 x.rt)).setCell ⟨p, 3, none⟩ (.int .i64 x.ht)) :=
  have hn : ∀ o, (⟨p, o, none⟩ : Addr).block ≠ q := fun o => by have := h.ne; show p ≠ q; omega
  ⟨h.pb.set x.id x.gn x.rt x.ht, (((h.qb.other (hn 0) _).other (hn 1) _).other (hn 2) _).other (hn 3) _, h.ne, h.old, (((h.bel.setCell (p := ⟨p, 0, none⟩) h.old _).setCell (p := ⟨p, 1, none⟩) h.old _).setCell (p := ⟨p, 2, none⟩) h.old _).setCell (p := ⟨p, 3, none⟩) h.old _⟩
theorem U2.setq (h : U2 w p q a b W) (x : Hq) : U2 w p q a x ((((W.setCell ⟨q, 0, none⟩ (.int .i64 x.id)).setCell ⟨q, 1, none⟩ (.int .i64 x.gn)).setCell ⟨q, 2, none⟩ (.int .i64 x.rt)).setCell ⟨q, 3, none⟩ (.int .i64 x.ht)) :=
  have hn : ∀ o, (⟨q, o, none⟩ : Addr).block ≠ p := fun o => by have := h.ne; show q ≠ p; omega
  have ho : w.heap.size ≤ q := by have := h.ne; have := h.old; omega
  ⟨(((h.pb.other (hn 0) _).other (hn 1) _).other (hn 2) _).other (hn 3) _, h.qb.set x.id x.gn x.rt x.ht, h.ne, h.old, (((h.bel.setCell (p := ⟨q, 0, none⟩) ho _).setCell (p := ⟨q, 1, none⟩) ho _).setCell (p := ⟨q, 2, none⟩) ho _).setCell (p := ⟨q, 3, none⟩) ho _⟩
end

open Classical in
set_option maxHeartbeats 4000000 in
set_option maxRecDepth 20000 in
theorem HandleUnique_walk (w : World) (a : Hq) (wa : a.wf) (b : Hq) (wb : b.wf) :
    Calls Try.prog 6 #[a.v, b.v] w fun e w' => e = .returned (.bool true) ∧ Below w.heap.size w w' := by
  clear wa wb
  have ra := smH_ok a
  have rb := smH_ok b
  have HSA := Lib.hid (fun W => someh_any a W)
  have HSB := Lib.hid (fun W => someh_any b W)
  generalize smH a = A at *
  generalize smH b = B at *
  have HEA := Lib.hid (fun W => show Calls Try.prog 8 #[A.v] W (Put2 W (hq16 A) 0) by
    have := enc_any A W
    rwa [hqB_yes ra, hqE_yes ra] at this)
  have HEB := Lib.hid (fun W => show Calls Try.prog 8 #[B.v] W (Put2 W (hq16 B) 0) by
    have := enc_any B W
    rwa [hqB_yes rb, hqE_yes rb] at this)
  have HAW := Lib.hid (fun W => awake9_any W)
  have hq : (hq16 A == hq16 B) = decide (A = B) := by
    by_cases e : A = B
    · rw [e]; simp
    · rw [decide_eq_false e]
      have : hq16 A ≠ hq16 B := fun e2 => e (hq16_inj ra rb e2)
      simpa using this
  have hN := eqh A B
  generalize decide (A = B) = D at *
  have HQ := Lib.hid hq
  clear hq
  generalize hq16 A = X at *
  generalize hq16 B = Y at *
  clear ra rb
  go_enter Try.func6, Try.ntmps6
  go_wp2_with fail
  obtain ⟨p, hp⟩ : ∃ p, p = w.heap.size := ⟨_, rfl⟩
  obtain ⟨w0, hw0⟩ : ∃ w0, w0 = ((w.alloc (.cells #[.int .i64 a.id, .int .i64 a.gn, .int .i64 a.rt, .int .i64 a.ht] 23)).alloc (.cells #[.int .i64 b.id, .int .i64 b.gn, .int .i64 b.rt, .int .i64 b.ht] 23)) := ⟨_, rfl⟩
  have HP0 := Lib.hid (show U2 w p (p + 1) a b w0 from by
    rw [hw0, hp]
    have h1 := Qb.start w a.id a.gn a.rt a.ht 23
    have h2 := Qb.start (w.alloc (.cells #[.int .i64 a.id, .int .i64 a.gn, .int .i64 a.rt, .int .i64 a.ht] 23)) b.id b.gn b.rt b.ht 23
    exact ⟨h1.alloc _, by simpa using h2, Nat.lt_succ_self _, Nat.le_refl _, ((Below.refl _ _).alloc (Nat.le_refl _) _).alloc (by simp) _⟩)
  rw [← hw0, ← hp]
  clear hw0 hp
  obtain ⟨q, hq⟩ : ∃ q, q = p + 1 := ⟨_, rfl⟩
  rw [← hq] at HP0 ⊢
  clear hq
  obtain ⟨⟨x0, x1, x2, x3, xl⟩, e0, e1, e2, e3⟩ := HP0.out.pb.all
  obtain ⟨⟨y0, y1, y2, y3, yl⟩, f0, f1, f2, f3⟩ := HP0.out.qb.all
  have HP := Lib.hid (HP0.out.up (Below.refl _ _).drew)
  have hpq : p < q := HP0.out.ne
  go_cut [2] (fun s2 wx => s2 = .pointer (some ⟨p, 0, none⟩) ∧ Hid (U2 w p q A B wx))
  case first =>
    go_region_with ((go_at_call 14; (first | (with_reducible refine (HSA.out _).mono ?_) | (with_reducible refine (HSB.out _).mono ?_)); rintro e w3 ⟨rfl, hb⟩; have HP := Lib.hid (HP.out.up hb); obtain ⟨⟨x0, x1, x2, x3, xl⟩, e0, e1, e2, e3⟩ := HP.out.pb.all; obtain ⟨⟨y0, y1, y2, y3, yl⟩, f0, f1, f2, f3⟩ := HP.out.qb.all; clear hb))
    all_goals
      clear x0 x1 x2 x3 xl y0 y1 y2 y3 yl e0 e1 e2 e3 f0 f1 f2 f3
      go_wp2_with fail
      go_meet
      first
      | exact ⟨rfl, Lib.hid ((HP.out.setp A).setq B)⟩
      | exact ⟨rfl, Lib.hid ((HP.out.setq B).setp A)⟩
  case rest =>
    clear x0 x1 x2 x3 xl y0 y1 y2 y3 yl e0 e1 e2 e3 f0 f1 f2 f3 HP HP0
    obtain ⟨rfl, HP⟩ := hcut
    obtain ⟨⟨x0, x1, x2, x3, xl⟩, -⟩ := HP.out.pb.all
    go_wp2_with fail
    refine (HEA.out _).mono ?_
    rintro e w1 ⟨v1, rfl, h1, hb1⟩
    have HX1 := Lib.hid h1
    have HP1 := Lib.hid (HP.out.up hb1)
    clear h1 hb1 HP x0 x1 x2 x3 xl
    obtain ⟨⟨y0, y1, y2, y3, yl⟩, -⟩ := HP1.out.qb.all
    go_wp2_with fail
    clear y0 y1 y2 y3 yl
    refine (HEB.out _).mono ?_
    rintro e w2 ⟨v2, rfl, h2, hb2⟩
    have HX2 := Lib.hid ((HX1.out.below hb2).more hb2.size)
    have HY2 := Lib.hid h2
    have HP2 := Lib.hid (HP1.out.up hb2)
    have HPD := Lib.hid (HP1.out.up (hb2.trans (Below.refl _ _).drew))
    clear h2 hb2 HP1 HX1
    have HSM := Lib.hid (show ∀ W, Bs W W.heap.size v1 X → Bs W W.heap.size v2 Y → Calls Try.prog 12 #[v1, v2] W fun e w' => e = .returned (.bool D) ∧ W = w' from fun W h1 h2 => by
      have := same_any v1 v2 X Y W h1 h2
      rwa [HQ.out] at this)
    have HS0 := Lib.hid (show Q8 p q A B w2 from HP2.out.q8)
    have HS1 := Lib.hid (show Q8 p q A B w2.drew from HPD.out.q8)
    have HX3 := Lib.hid (show Bs w2.drew w2.drew.heap.size v1 X from HX2.out)
    have HY3 := Lib.hid (show Bs w2.drew w2.drew.heap.size v2 Y from HY2.out)
    obtain ⟨⟨x0, x1, x2, x3, xl⟩, -⟩ := HP2.out.pb.all
    obtain ⟨⟨y0, y1, y2, y3, yl⟩, -⟩ := HP2.out.qb.all
    cases D with
    | true =>
      go_wp2_with fail
      go_region_held3 (fun W => Q8 p q A B W)
        (first | with_reducible exact HS0.out | with_reducible exact HS1.out | with_reducible exact HS2.out)
        (first
        | (go_at_call 12; (with_reducible refine (HSM.out _ HX3.out HY3.out).mono ?_); rintro e w3 ⟨rfl, rfl⟩)
        | (go_at_call 13; (with_reducible refine (HAW.out _).mono ?_); rintro e w3 ⟨rfl, hb⟩; have HS2 := Lib.hid (HPD.out.up hb).q8; have HW2 := Lib.hid (HPD.out.up hb).bel; clear hb))
      go_wp2
      go_ret
      exact ⟨rfl, HW2.out⟩
    | false =>
      go_wp2_with fail
      go_region_held3 (fun W => Q8 p q A B W)
        (first | with_reducible exact HS0.out | with_reducible exact HS1.out | with_reducible exact HS2.out)
        (first
        | (go_at_call 12; (with_reducible refine (HSM.out _ HX3.out HY3.out).mono ?_); rintro e w3 ⟨rfl, rfl⟩)
        | (go_at_call 13; (with_reducible refine (HAW.out _).mono ?_); rintro e w3 ⟨rfl, hb⟩; have HS2 := Lib.hid (HPD.out.up hb).q8; have HW2 := Lib.hid (HPD.out.up hb).bel; clear hb))
      go_wp2
      go_ret
      exact ⟨rfl, HW2.out⟩

/-! The row's step, as the guide's shell has it. -/
namespace handleUnique
open Go.ChangeShapes Go.WideShapes Go.ChangeAt
open Go.ChangeMaps (open_string shut_string)
theorem own : ownKnob Try.prog.godebug = none := by kernel_rfl
theorem laidOut : laidOutB Try.prog = true := by kernel_rfl

set_option maxRecDepth 100000 in
theorem lifted (os : Os) (started : os.Started) (H : Type) (enc : TypeId × Value → H) :
    ReturnsInHanded {} Try.checked os 6 .any (Rows.handleUniqueSpec.pre6 enc Try.prog Try.f6 Rows.handleUniqueRow.domain false) (Rows.handleUniqueSpec.post enc Try.prog Try.f6 false true false false) := by
  refine returnsInHanded_of_change (C := Try.checked) own started (by kernel_rfl) Try.func6
    (ChangeSpec.witness6 (enc := enc) (C := Try.checked) false ⟨#[], #[.agg #[.int .i64 0, .int .i64 0, .int .i64 0, .int .i64 0], .agg #[.int .i64 0, .int .i64 0, .int .i64 0, .int .i64 0]], []⟩ 8 (by kernel_rfl) (by kernel_rfl) (by kernel_rfl) (by kernel_rfl)) ?_
  intro W base args ds gs before hval0 hW hcnd _
  have hval : ∀ (j : Nat) t v, Try.f6.params[j]? = some t → args[j]? = some v → Value.okWide Try.prog W .any base t v := hval0
  have hW' := hW
  obtain ⟨p, q, hA0, hV, rfl, hfz, hnd⟩ := hW
  have hA : DataW.TrodAll enc Try.prog W 0 (fun _ => true) true Try.f6.params.toList args.toList ds p := hA0
  rw [Try.params6] at hA hval
  obtain ⟨v0, vs0, d0, ds0, p0, q0, hargs, rfl, rfl, h0, r0⟩ := trodAll_cons hA
  obtain ⟨v1, vs1, d1, ds1, p1, q1, rfl, rfl, rfl, h1, r1⟩ := trodAll_cons r0
  obtain ⟨rfl, rfl, rfl⟩ := trodAll_nil r1
  obtain rfl : args = #[v0, v1] := by cases args; simp_all
  obtain ⟨rfl, rfl⟩ := trodVars_none hV
  obtain ⟨a0, rfl, rfl, rfl, w0⟩ := open_handle (hval 0 23 v0 rfl rfl) h0
  obtain ⟨a1, rfl, rfl, rfl, w1⟩ := open_handle (hval 1 23 v1 rfl rfl) h1
  clear hA0 hval0
  simp only [List.append_nil] at hW'
  refine (HandleUnique_walk W a0 w0 a1 w1).mono fun e W' ⟨he, bel⟩ => ?_
  subst he
  exact ⟨_, rfl, _, _, _, [], _, [], hW', trodAll_mk1 (shut_bool Try.underlying4 _), (trodAll_cons_mk (shut_handle a0 w0) (trodAll_cons_mk (shut_handle a1 w1) trodAll_mk0)), rfl, bel.frame _, fun h => by cases h⟩

theorem over : Rows.handleUniqueRow.holds Try.pinned (OpenSpec.ofChange Rows.handleUniqueSpec) :=
  OpenClaim.holds_of_wide 6 Try.f6 rfl rfl rfl rfl rfl rfl rfl ⟨rfl, rfl, rfl, rfl, rfl⟩ rfl rfl rfl rfl rfl (by kernel_rfl) Try.func6 (by kernel_rfl)
    (of_decide_eq_true (by kernel_rfl)) (by unfold Func.isWrapper; first | (rw [if_pos (by decide +kernel)]; kernel_rfl) | (rw [if_neg (by decide +kernel)]; exact ⟨rfl, rfl⟩))
    (fun os started H enc _ => lifted os started H enc)

/-- The statement. -/
theorem proved : Rows.HandleUniqueSaid := over
#print axioms proved
end handleUnique
end Go.Proofs.Ytkkgfnncdaiooaa
