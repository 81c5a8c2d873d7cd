/- What is proved here: shardqueuelaw06.LeaseFull returns true for every input. No condition. -/
import Derived.Test.YtjclhlejbidpgaaJ21
import Derived.Test.YtjclhlejbidpgaaJ26
import Derived.ProofKit
import Derived.OpenShut
import Derived.ShutString
import Derived.ChangeOld
namespace Go.Proofs.Ytjclhlejbidpgaa
open Go.RowKit
set_option linter.unusedVariables false

/-- The lease that is granted at step i. -/
def fuX (i : Int) : Le := ⟨⟨i, 0, 0, 0, 65536, 0, ⟨#[]⟩⟩, 1073741824⟩
theorem fuX_ok {i : Int} (h1 : 1 ≤ i) (h2 : i ≤ 20) : leOk (fuX i) := by
  refine ⟨?_, by show (65536 : Int) ≠ 0; omega, by show (0 : Int) ≤ 1073741824; omega, by show (1073741824 : Int) ≤ 1073741824; omega⟩
  have e : hv (fuX i).m = true := by
    show hv ⟨i, 0, 0, 0, 65536, 0, ⟨#[]⟩⟩ = true
    simp [hv, wi]
    omega
  unfold vf
  rw [if_pos e, if_neg (by show ¬ (16 : Int) < ((0 : Nat) : Int); omega)]
/-- The table after i - 1 grants. -/
structure FtAt (w : World) (r : Nat) (A : Option Addr) (k c : Nat) (l : List Le) (A2 : Option Addr) (k2 c2 : Nat) (h : List Du) (i : Nat) (W : World) : Prop where
  rt : RT W r A k c A2 k2 c2
  el : El W W.heap.size (.slice A k c) l
  dl : Dl W W.heap.size (.slice A2 k2 c2) h
  ok : TbOk l h
  len : k = min (i - 1) 12
  ids : ∀ x ∈ l, x.id < (i : Int)
  bel : Below w.heap.size w W
  lo : w.heap.size ≤ r
section
variable {w W W' : World} {r k c k2 c2 i : Nat} {A A2 : Option Addr} {l : List Le} {h : List Du}
theorem FtAt.eqs (f : FtAt w r A k c l A2 k2 c2 h i W) : k = l.length ∧ k2 = l.length ∧ k2 = h.length := by
  have e := f.ok.perm.length_eq
  rw [List.length_map] at e
  have := f.el.len.1
  have := f.dl.len.1
  omega
theorem FtAt.give (f : FtAt w r A k c l A2 k2 c2 h i W) (h1 : 1 ≤ i) (h2 : i ≤ 14) :
    (i ≤ 12 → k = i - 1 ∧ k2 = i - 1 ∧ grE l h (fuX i) = 0 ∧ (grL l h (fuX i)).length = i ∧ (grH l h (fuX i)).length = i ∧ TbOk (grL l h (fuX i)) (grH l h (fuX i)) ∧ ∀ x ∈ grL l h (fuX i), x.id < ((i + 1 : Nat) : Int)) ∧ (12 < i → grE l h (fuX i) = 3 ∧ grL l h (fuX i) = [] ∧ grH l h (fuX i) = []) := by
  obtain ⟨e1, e2, e3⟩ := f.eqs
  have hl := f.len
  have ok := fuX_ok (i := (i : Int)) (by omega) (by omega)
  have hf : kFi Le.id l (fuX i).id < 0 := by
    rcases kFi_cases Le.id l (fuX i).id with ⟨e, _⟩ | ⟨k, hk, e, hx, _⟩
    · rw [e]; decide
    · have := f.ids _ (List.getElem_mem hk)
      rw [hx] at this
      exact absurd this (by show ¬ (i : Int) < (i : Int); omega)
  refine ⟨fun h12 => ?_, fun h12 => ?_⟩
  · obtain ⟨g1, g2, g3, g4⟩ := gr_yes f.ok ok (by omega) hf
    refine ⟨by omega, by omega, g1, by rw [g2, kIns_len]; omega, by rw [g3, puF_len]; omega, by rw [g2, g3]; exact g4, fun x hx => ?_⟩
    rw [g2] at hx
    rcases List.mem_cons.1 ((kIns_perm l (fuX i)).mem_iff.1 hx) with e | e
    · rw [e]; show (i : Int) < ((i + 1 : Nat) : Int); omega
    · have := f.ids x e; omega
  · have e : grE l h (fuX i) = 3 := by
      obtain ⟨q2, q3, q4, q5⟩ := ok
      unfold grE
      rw [if_neg (by simpa using (tbV_iff l h).2 f.ok), if_neg (by simpa using q2), if_neg q3, if_neg (by omega), if_pos (by omega)]
    obtain ⟨n1, n2⟩ := grE_ne (l := l) (h := h) (x := fuX i) (by rw [e]; decide)
    exact ⟨e, n1, n2⟩
theorem FtAt.below (f : FtAt w r A k c l A2 k2 c2 h i W) (hb : Below W.heap.size W W') : FtAt w r A k c l A2 k2 c2 h i W' :=
  ⟨f.rt.below hb f.rt.lt, f.el.up hb, f.dl.up hb, f.ok, f.len, f.ids, f.bel.trans (hb.mono f.bel.size), f.lo⟩
theorem FtAt.full (f : FtAt w r A k c l A2 k2 c2 h i W) (h12 : 12 < i) : FtAt w r A k c l A2 k2 c2 h (i + 1) W :=
  ⟨f.rt, f.el, f.dl, f.ok, by have := f.len; omega, fun x hx => by have := f.ids x hx; omega, f.bel, f.lo⟩
theorem FtAt.store {A5 A6 : Option Addr} {c5 c6 : Nat} {l5 : List Le} {h5 : List Du} (f : FtAt w r A k c l A2 k2 c2 h i W) (h1 : 1 ≤ i) (h12 : i ≤ 12) (hb : Below W.heap.size W W') (n5 : Nw W.heap.size A5) (n6 : Nw W.heap.size A6)
    (hl : El W' W'.heap.size (.slice A5 i c5) l5) (hd : Dl W' W'.heap.size (.slice A6 i c6) h5) (ok : TbOk l5 h5) (hi : ∀ x ∈ l5, x.id < ((i + 1 : Nat) : Int)) :
    FtAt w r A5 i c5 l5 A6 i c6 h5 (i + 1) (set2 W' r (.slice A5 i c5) (.slice A6 i c6)) := by
  have f' := f.below hb
  exact ⟨f'.rt.put _ _ _ _ _ _, (hl.set2 n5 f.rt.lt).more (by simp), (hd.set2 n6 f.rt.lt).more (by simp), ok, by omega, hi, set2_below f'.bel f.lo, f.lo⟩
end

set_option maxHeartbeats 16000000 in
set_option maxRecDepth 20000 in
theorem LeaseFull_walk (w : World) (a0 : Int) (w0 : (Lit.int .u8 a0).wf = true) :
    Calls Try.prog 5 #[.int .u8 a0] w fun e w' => e = .returned (.bool true) ∧ Below w.heap.size w w' := by
  have hb0 : 0 ≤ a0 ∧ a0 ≤ 255 := by
    simp only [Lit.wf, Bool.and_eq_true, decide_eq_true_eq] at w0
    exact w0
  obtain ⟨q, hq⟩ : ∃ q : Nat, (q : Int) = a0.tmod 3 ∧ q ≤ 2 := ⟨(a0.tmod 3).toNat, by rw [Int.tmod_eq_emod_of_nonneg hb0.1]; omega, by rw [Int.tmod_eq_emod_of_nonneg hb0.1]; omega⟩
  have H0 := Lib.hid (show FtAt w w.heap.size none 0 0 [] none 0 0 [] 1 (w.alloc (.cells #[.slice none 0 0, .slice none 0 0] 28)) from
    ⟨RT.start w none 0 0 none 0 0 _, El.nil, Dl.nil, TbOk.nil, rfl, fun x hx => (by cases hx), (Below.refl _ _).alloc (Nat.le_refl _) _, Nat.le_refl _⟩)
  have htm : a0.tmod 3 = (q : Int) := hq.1.symm
  have hr2 : (q : Int) ≤ 2 := by omega
  have hr0 : (0 : Int) ≤ (q : Int) := by omega
  clear w0 hq
  go_enter Try.func5, Try.ntmps5
  go_wp2
  obtain ⟨r, hr⟩ : ∃ r, r = w.heap.size := ⟨_, rfl⟩
  rw [← hr] at H0 ⊢
  clear hr
  generalize w.alloc (.cells #[.slice none 0 0, .slice none 0 0] 28) = w1 at *
  go_loopw [4] (fun iv wr => ∃ (A : Option Addr) (k c : Nat) (l : List Le) (A2 : Option Addr) (k2 c2 : Nat) (h : List Du) (i : Nat), iv = .int .i64 i ∧ 1 ≤ i ∧ i ≤ 13 + q ∧ Hid (FtAt w r A k c l A2 k2 c2 h i wr)) (fun iv _ => 20 - (intOf iv).toNat)
  case atStart => exact ⟨none, 0, 0, [], none, 0, 0, [], 1, rfl, Nat.le_refl _, by omega, H0⟩
  case round =>
    clear H0
    obtain ⟨A, k, c, l, A2, k2, c2, h, i, rfl, hi1, hi2, HF⟩ := hrel
    have hi15 : (i : Int) ≤ 15 := by omega
    have hi1' : (1 : Int) ≤ (i : Int) := by omega
    obtain ⟨a0', a1', af0, af1, al⟩ := HF.out.rt
    by_cases hlt : i ≤ 12 + q
    · have hlt' : (i : Int) ≤ 12 + (q : Int) := by omega
      have HPU := Lib.hid (HF.out.give hi1 (by omega))
      have HC := Lib.hid (show Calls Try.prog 11 #[.agg #[.slice A k c, .slice A2 k2 c2], .agg #[.int .i64 i, .int .i64 0, .int .i64 0, .int .i64 0, .int .i64 65536, .int .i64 0, .string ⟨#[]⟩], .int .i64 1073741824] wr (TE wr (grL l h (fuX i)) (grH l h (fuX i)) (grE l h (fuX i))) from lgrant_any A k c l A2 k2 c2 h (fuX i) wr HF.out.el HF.out.dl)
      by_cases h12 : i ≤ 12
      · obtain ⟨hk, hk2, he, h5, h6, h7, h8⟩ := HPU.out.1 h12
        rw [he] at HC
        have HOK := Lib.hid (And.intro h7 h8)
        have HL := Lib.hid (And.intro h5 h6)
        generalize grL l h (fuX i) = L at *
        generalize grH l h (fuX i) = D at *
        have hd12 : decide ((i : Int) ≤ 12) = true := by simp; omega
        clear he hk hk2 h5 h6 h7 h8
        go_wp2_with fail
        refine HC.out.mono ?_
        rintro e w4 ⟨A4, c4, A5, c5, rfl, n4, n5, h4, h5, hb⟩
        rw [HL.out.1] at h4 ⊢
        rw [HL.out.2] at h5 ⊢
        have B5 := Lib.hid ((Below.refl w4.heap.size w4).alloc (Nat.le_refl _) (.cells #[.slice A4 i c4, .slice A5 i c5] 28))
        have R5 := Lib.hid (RT.start w4 A4 i c4 A5 i c5 28)
        have R6 := Lib.hid ((HF.out.rt.below hb HF.out.rt.lt).below B5.out (Nat.lt_of_lt_of_le HF.out.rt.lt hb.size))
        have HNE := Lib.hid (show ¬ w4.heap.size = r from fun e => by have := HF.out.rt.lt; have := hb.size; omega)
        have HF4 := Lib.hid (HF.out.store hi1 h12 (hb.trans (B5.out.mono hb.size)) n4 n5 (h4.up B5.out) (h5.up B5.out) HOK.out.1 HOK.out.2)
        clear a0' a1' af0 af1 al
        obtain ⟨b0, b1, bf0, bf1, bl⟩ := R5.out
        obtain ⟨d0, d1, df0, df1, dl⟩ := R6.out
        have hne := HNE.out
        have hen : ¬ r = w4.heap.size := fun e => hne e.symm
        have h12' : (i : Int) ≤ 12 := by omega
        clear n4 n5 h4 h5 hb
        go_wp2
        go_roundw
        case rel => exact ⟨A4, i, c4, L, A5, i, c5, D, i + 1, by go_num, by omega, by omega, HF4⟩
        case measure => simp [intOf]; omega
      · obtain ⟨he, e1, e2⟩ := HPU.out.2 (by omega)
        rw [he, e1, e2] at HC
        have hd12 : decide ((i : Int) ≤ 12) = false := by simp; omega
        clear he e1 e2
        go_wp2_with fail
        refine HC.out.mono ?_
        rintro e w4 ⟨A4, c4, A5, c5, rfl, n4, n5, h4, h5, hb⟩
        rw [show ([] : List Le).length = 0 from rfl, show ([] : List Du).length = 0 from rfl]
        have B5 := Lib.hid ((Below.refl w4.heap.size w4).alloc (Nat.le_refl _) (.cells #[.slice A4 0 c4, .slice A5 0 c5] 28))
        have HF4 := Lib.hid ((HF.out.below (hb.trans (B5.out.mono hb.size))).full (by omega))
        have h12' : ¬ (i : Int) ≤ 12 := by omega
        clear n4 n5 h4 h5 hb
        go_wp2
        go_roundw
        case rel => exact ⟨A, k, c, l, A2, k2, c2, h, i + 1, by go_num, by omega, by omega, HF4⟩
        case measure => simp [intOf]; omega
    · obtain rfl : i = 13 + q := by omega
      have hk12 : k = 12 := by have := HF.out.len; omega
      have hk13 : k2 = 12 := by have := HF.out.eqs; omega
      subst hk12 hk13
      have hlt' : ¬ (((13 + q : Nat) : Int) ≤ 12 + (q : Int)) := by omega
      have t0 : tbV [] [] = 0 := (tbV_iff _ _).2 TbOk.nil
      have HP1 := Lib.hid (fun W => (show Calls Try.prog 11 #[.agg #[.slice none 0 0, .slice none 0 0], .agg #[.int .i64 1, .int .i64 0, .int .i64 0, .int .i64 0, .int .i64 0, .int .i64 0, .string ⟨#[]⟩], .int .i64 5] W (TE W [] [] 7) from by
        have h := lgrant_any none 0 0 [] none 0 0 [] ⟨⟨1, 0, 0, 0, 0, 0, ⟨#[]⟩⟩, 5⟩ W El.nil Dl.nil
        have hle : leE ⟨⟨1, 0, 0, 0, 0, 0, ⟨#[]⟩⟩, 5⟩ = 7 := leE_7 (by decide) rfl
        have he : grE [] [] ⟨⟨1, 0, 0, 0, 0, 0, ⟨#[]⟩⟩, 5⟩ = 7 := by rw [grE_le t0 (by rw [hle]; decide), hle]
        obtain ⟨e1, e2⟩ := grE_ne (l := []) (h := []) (x := ⟨⟨1, 0, 0, 0, 0, 0, ⟨#[]⟩⟩, 5⟩) (by rw [he]; decide)
        rw [he, e1, e2] at h
        exact h))
      have HP2 := Lib.hid (fun W => (show Calls Try.prog 11 #[.agg #[.slice none 0 0, .slice none 0 0], .agg #[.int .i64 1, .int .i64 0, .int .i64 0, .int .i64 0, .int .i64 1, .int .i64 0, .string ⟨#[]⟩], .int .i64 1073741825] W (TE W [] [] 1) from by
        have h := lgrant_any none 0 0 [] none 0 0 [] ⟨⟨1, 0, 0, 0, 1, 0, ⟨#[]⟩⟩, 1073741825⟩ W El.nil Dl.nil
        have hle : leE ⟨⟨1, 0, 0, 0, 1, 0, ⟨#[]⟩⟩, 1073741825⟩ = 1 := leE_1 (by decide) (by decide) (.inr (by decide))
        have he : grE [] [] ⟨⟨1, 0, 0, 0, 1, 0, ⟨#[]⟩⟩, 1073741825⟩ = 1 := by rw [grE_le t0 (by rw [hle]; decide), hle]
        obtain ⟨e1, e2⟩ := grE_ne (l := []) (h := []) (x := ⟨⟨1, 0, 0, 0, 1, 0, ⟨#[]⟩⟩, 1073741825⟩) (by rw [he]; decide)
        rw [he, e1, e2] at h
        exact h))
      clear hi15 hi1' hi1 hi2 hlt a0' a1' af0 af1 al t0
      go_wp2_with fail
      refine (HP1.out _).mono ?_
      rintro e w4 ⟨A4, c4, A5, c5, rfl, _, _, _, _, hb⟩
      rw [show ([] : List Le).length = 0 from rfl, show ([] : List Du).length = 0 from rfl]
      have B4 := Lib.hid ((Below.refl w4.heap.size w4).alloc (Nat.le_refl _) (.cells #[.slice A4 0 c4, .slice A5 0 c5] 28))
      have HF4 := Lib.hid (HF.out.below (hb.trans (B4.out.mono hb.size)))
      clear hb
      go_wp2_with fail
      refine (HP2.out _).mono ?_
      rintro e w5 ⟨A6, c6, A7, c7, rfl, _, _, _, _, hb⟩
      rw [show ([] : List Le).length = 0 from rfl, show ([] : List Du).length = 0 from rfl]
      have B6 := Lib.hid ((Below.refl w5.heap.size w5).alloc (Nat.le_refl _) (.cells #[.slice A6 0 c6, .slice A7 0 c7] 28))
      have HF6 := Lib.hid (HF4.out.below (hb.trans (B6.out.mono hb.size)))
      obtain ⟨a0', a1', af0, af1, al⟩ := HF6.out.rt
      clear hb
      go_wp2_with fail
      refine (awake6_any _).mono ?_
      rintro e w7 ⟨rfl, hb⟩
      have HB7 := Lib.hid (HF6.out.bel.trans (hb.mono HF6.out.bel.size))
      clear hb
      go_wp2
      go_ret
      exact ⟨rfl, HB7.out⟩
/-! The row's step, as the guide's shell has it. -/
namespace leaseFull
open Go.ChangeShapes Go.WideShapes Go.ChangeAt
open Go.ChangeMaps (open_string shut_string)
theorem own : ownKnob Try.prog.godebug = none := by kernel_rfl
theorem laidOut : laidOutB Try.prog = true := by kernel_rfl

set_option maxRecDepth 100000 in
theorem lifted (os : Os) (started : os.Started) (H : Type) (enc : TypeId × Value → H) :
    ReturnsInHanded {} Try.checked os 5 .any (Rows.leaseFullSpec.pre6 enc Try.prog Try.f5 Rows.leaseFullRow.domain false) (Rows.leaseFullSpec.post enc Try.prog Try.f5 false true false false) := by
  refine returnsInHanded_of_change (C := Try.checked) own started (by kernel_rfl) Try.func5
    (ChangeSpec.witness6 (enc := enc) (C := Try.checked) false ⟨#[], #[.int .u8 0], []⟩ 8 (by kernel_rfl) (by kernel_rfl) (by kernel_rfl) (by kernel_rfl)) ?_
  intro W base args ds gs before hval0 hW hcnd _
  have hval : ∀ (j : Nat) t v, Try.f5.params[j]? = some t → args[j]? = some v → Value.okWide Try.prog W .any base t v := hval0
  have hW' := hW
  obtain ⟨p, q, hA0, hV, rfl, hfz, hnd⟩ := hW
  have hA : DataW.TrodAll enc Try.prog W 0 (fun _ => true) true Try.f5.params.toList args.toList ds p := hA0
  rw [Try.params5] at hA hval
  obtain ⟨v0, vs0, d0, ds0, p0, q0, hargs, rfl, rfl, h0, r0⟩ := trodAll_cons hA
  obtain ⟨rfl, rfl, rfl⟩ := trodAll_nil r0
  obtain rfl : args = #[v0] := by cases args; simp_all
  obtain ⟨rfl, rfl⟩ := trodVars_none hV
  obtain ⟨a0, rfl, rfl, rfl, w0⟩ := open_int Try.underlying5 (hval 0 5 v0 rfl rfl) h0
  clear hA0 hval0
  simp only [List.append_nil] at hW'
  refine (LeaseFull_walk W a0 w0).mono fun e W' ⟨he, bel⟩ => ?_
  subst he
  exact ⟨_, rfl, _, _, _, [], _, [], hW', trodAll_mk1 (shut_bool Try.underlying4 _), (trodAll_cons_mk (shut_int Try.underlying5 w0) trodAll_mk0), rfl, bel.frame _, fun h => by cases h⟩

theorem over : Rows.leaseFullRow.holds Try.pinned (OpenSpec.ofChange Rows.leaseFullSpec) :=
  OpenClaim.holds_of_wide 5 Try.f5 rfl rfl rfl rfl rfl rfl rfl ⟨rfl, rfl, rfl, rfl, rfl⟩ rfl rfl rfl rfl rfl (by kernel_rfl) Try.func5 (by kernel_rfl)
    (of_decide_eq_true (by kernel_rfl)) (by unfold Func.isWrapper; first | (rw [if_pos (by decide +kernel)]; kernel_rfl) | (rw [if_neg (by decide +kernel)]; exact ⟨rfl, rfl⟩))
    (fun os started H enc _ => lifted os started H enc)

/-- The statement. -/
theorem proved : Rows.LeaseFullSaid := over
#print axioms proved
end leaseFull
end Go.Proofs.Ytjclhlejbidpgaa
