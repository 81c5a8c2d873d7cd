/- What is proved here: directory.Validate, Owner, Span, Home by contracts; directory.Owner, Span, Home by contracts; directory.New by a contract; in the statements of layer 10, awake is true; directory.merge by a contract. -/
import Derived.Test.YtijpflljopckiaaJ15
import Derived.Laws.EntriesVeiled
import Derived.Test.YtijpflljopckiaaJ13
import Derived.Deep.AppendLies
import Derived.Test.YtijpflljopckiaaJ14
namespace Go.Proofs.Ytijpflljopckiaa
open Go.RowKit
set_option linter.unusedVariables false

/-- A number as a result, nothing old turned. -/
abbrev VlR (w : World) (x : Int) (e : Ending) (w' : World) : Prop := e = .returned (.int .i64 x) ∧ Below w.heap.size w w'
theorem rg_yes {d : Dd} (h : rgD d) : wiR d.vn 1 1099511627776 = true ∧ wiR (d.F.length : Int) 1 6 = true := ⟨wiR_true h.1.1 h.1.2, wiR_true (by have := h.2.1; omega) (by have := h.2.2; omega)⟩
theorem rg_no {d : Dd} (h : ¬ rgD d) (h1 : wiR d.vn 1 1099511627776 = true) : wiR (d.F.length : Int) 1 6 = false := by
  unfold wiR at *
  simp only [decide_eq_true_eq, decide_eq_false_iff_not] at *
  intro h2
  exact h ⟨h1, by omega, by omega⟩
set_option maxHeartbeats 4000000 in
set_option maxRecDepth 20000 in
theorem ddvalid_any (d : Dd) (X : Dx) (w : World) (hd : DR w w.heap.size d X) :
    Calls Try.prog 93 #[dv d X] w (VlR w (vaD d)) := by
  have H0 := Lib.hid (DAt.start 34 hd)
  have HW1 := Lib.hid (fun W => rwithin_any d.vn 1 1099511627776 W)
  have HW2 := Lib.hid (fun W => rwithin_any (d.F.length : Int) 1 6 W)
  have HCV := Lib.hid (fun p W (k : DAt w p d X W) => scovers_any X.A d.l.length X.c d.l W k.dr.pl)
  have HST := Lib.hid (fun W => slotTest_any d X W)
  have HMS := Lib.hid (fun p q r W (k : DAt w p d X W) (hs : St2 W q r d.F.length) (hn : d.F.length ≤ 1000) => mscontains_any X.A d.l.length X.c d.l q r d.F.length W k.dr.pl hs hn)
  have HDU := Lib.hid (fun p W (k : DAt w p d X W) => ssameshard_any X.A d.l.length X.c d.l W k.dr.pl)
  have HFV := Lib.hid (fun p W (k : DAt w p d X W) (j : Nat) (hj : j < d.F.length) (hn : d.F.length ≤ 1000) => sfwvalid_any d X (j : Int) W k.dr ⟨by omega, by omega⟩ hn)
  obtain ⟨p, hp⟩ : ∃ p, p = w.heap.size := ⟨_, rfl⟩
  obtain ⟨V, hV⟩ : ∃ V, V = vaD d := ⟨_, rfl⟩
  rw [← hV]
  have HVV := Lib.hid hV
  have HPP := Lib.hid hp
  clear hd hV hp
  by_cases hr : rgD d
  · obtain ⟨r1, r2⟩ := rg_yes hr
    rw [r1] at HW1
    rw [r2] at HW2
    clear r1 r2
    have hn6 : d.F.length ≤ 6 := hr.2.2
    have HN6 := Lib.hid (show d.F.length ≤ 1000 by omega)
    have hmf : ∀ (fn : Fn) (first cap : Array Value) (w : World), (Instr.makeFunc fn first cap).run Try.prog w = .ok (.func fn first cap) w := fun _ _ _ _ => rfl
    cases hc : cvD 0 d.l with
    | false =>
      have HR := Lib.hid (vaD_cv hr hc)
      rw [hc] at HCV
      clear hc hr HST HMS HDU HFV
      go_enter Try.func93, Try.ntmps93
      obtain ⟨⟨x0, x1, x2, xl⟩, -⟩ := H0.out.db.all
      go_wp2_with fail
      clear x0 x1 x2 xl
      have H0 := Lib.hid (show DAt w p d X (w.alloc (.cells #[.int .i64 d.vn, .slice X.A d.l.length X.c, .slice X.A2 d.F.length X.c2] 34)) from by rw [HPP.out]; exact H0.out)
      rw [← HPP.out]
      generalize w.alloc (.cells #[.int .i64 d.vn, .slice X.A d.l.length X.c, .slice X.A2 d.F.length X.c2] 34) = w0 at *
      obtain ⟨⟨x0, x1, x2, xl⟩, -⟩ := H0.out.db.all
      refine (HW1.out _).mono ?_
      rintro e w1 ⟨rfl, hw⟩
      replace hw := hw.symm
      subst hw
      go_wp2_with fail
      refine (HW2.out _).mono ?_
      rintro e w1 ⟨rfl, hw⟩
      replace hw := hw.symm
      subst hw
      go_wp2_with fail
      refine (HCV.out _ _ H0.out).mono ?_
      rintro e w1 ⟨rfl, hb⟩
      have H1 := Lib.hid (H0.out.below hb)
      clear hb
      go_wp2
      go_ret
      exact ⟨by rw [HVV.out, HR.out]; rfl, H1.out.bel⟩
    | true =>
      rw [hc] at HCV
      go_enter Try.func93, Try.ntmps93
      obtain ⟨⟨x0, x1, x2, xl⟩, -⟩ := H0.out.db.all
      go_wp2_with fail
      clear x0 x1 x2 xl
      have H0 := Lib.hid (show DAt w p d X (w.alloc (.cells #[.int .i64 d.vn, .slice X.A d.l.length X.c, .slice X.A2 d.F.length X.c2] 34)) from by rw [HPP.out]; exact H0.out)
      rw [← HPP.out]
      generalize w.alloc (.cells #[.int .i64 d.vn, .slice X.A d.l.length X.c, .slice X.A2 d.F.length X.c2] 34) = w0 at *
      obtain ⟨⟨x0, x1, x2, xl⟩, -⟩ := H0.out.db.all
      have HRG := Lib.hid hr
      have HCC := Lib.hid hc
      clear hr hc
      refine (HW1.out _).mono ?_
      rintro e w1 ⟨rfl, hw⟩
      replace hw := hw.symm
      subst hw
      go_wp2_with fail
      refine (HW2.out _).mono ?_
      rintro e w1 ⟨rfl, hw⟩
      replace hw := hw.symm
      subst hw
      go_wp2_with fail
      refine (HCV.out _ _ H0.out).mono ?_
      rintro e w1 ⟨rfl, hb⟩
      have H1 := Lib.hid (H0.out.below hb)
      clear hb x0 x1 x2 xl H0 HCV HW1 HW2
      obtain ⟨⟨x0, x1, x2, xl⟩, -⟩ := H1.out.db.all
      go_wp2_with fail
      refine (HST.out _).mono ?_
      rintro e w2 ⟨rfl, hw2⟩
      obtain ⟨r, hr⟩ : ∃ r, r = w1.heap.size := ⟨_, rfl⟩
      have H2 := Lib.hid (show DAt w p d X w2 from by rw [hw2]; exact H1.out.alloc _)
      have R2 := Lib.hid (show w2.cell? ⟨r, 2, none⟩ = some (.slice X.A2 d.F.length X.c2) ∧ r < w2.heap.size from by rw [hw2, hr]; exact ⟨by simp [go_sem], by simp⟩)
      rw [← hr]
      dsimp only [stV]
      clear hr hw2 x0 x1 x2 xl H1 HST
      have H3 := Lib.hid (H2.out.alloc (.cells #[(.func (.func 119) #[] #[.pointer (some ⟨r, 0, none⟩)])] 100))
      obtain ⟨q, hq⟩ : ∃ q, q = w2.heap.size := ⟨_, rfl⟩
      have S3 := Lib.hid (show St2 (w2.alloc (.cells #[(.func (.func 119) #[] #[.pointer (some ⟨r, 0, none⟩)])] 100)) q r d.F.length from ⟨by rw [hq]; simp [go_sem], by rw [hq]; simp, by have := R2.out.2; simp; omega, X.A2, X.c2, by rw [World.cell?_alloc_lt _ _ _ R2.out.2]; exact R2.out.1⟩)
      have HQ := Lib.hid hq
      clear hq
      obtain ⟨⟨x0, x1, x2, xl⟩, -⟩ := H2.out.db.all
      cases hms : msD d.F.length d.l with
      | false =>
        have HR := Lib.hid (vaD_ms HRG.out HCC.out hms)
        rw [hms] at HMS
        clear hms HDU HFV
        go_wp2_with fail
        rw [← HQ.out]
        generalize w2.alloc (.cells #[(.func (.func 119) #[] #[.pointer (some ⟨r, 0, none⟩)])] 100) = w3 at *
        refine (HMS.out _ _ _ _ H3.out S3.out HN6.out).mono ?_
        rintro e w4 ⟨rfl, hb⟩
        have H4 := Lib.hid (H3.out.below hb)
        clear hb
        go_wp2
        go_ret
        exact ⟨by rw [HVV.out, HR.out]; rfl, H4.out.bel⟩
      | true =>
        rw [hms] at HMS
        have HM := Lib.hid hms
        clear hms
        go_wp2_with fail
        rw [← HQ.out]
        generalize w2.alloc (.cells #[(.func (.func 119) #[] #[.pointer (some ⟨r, 0, none⟩)])] 100) = w3 at *
        refine (HMS.out _ _ _ _ H3.out S3.out HN6.out).mono ?_
        rintro e w4 ⟨rfl, hb⟩
        have H4 := Lib.hid (H3.out.below hb)
        clear hb x0 x1 x2 xl H2 R2 H3 S3 HMS HQ
        obtain ⟨⟨x0, x1, x2, xl⟩, -⟩ := H4.out.db.all
        cases hdu : duB d.l with
        | true =>
          have HR := Lib.hid (vaD_du HRG.out HCC.out HM.out hdu)
          rw [hdu] at HDU
          clear hdu HFV
          go_wp2_with fail
          refine (HDU.out _ _ H4.out).mono ?_
          rintro e w5 ⟨rfl, hb⟩
          have H5 := Lib.hid (H4.out.below hb)
          clear hb
          go_wp2
          go_ret
          exact ⟨by rw [HVV.out, HR.out]; rfl, H5.out.bel⟩
        | false =>
          have HNO := Lib.hid (fun (i : Nat) (hi : i < d.F.length) h => vaD_fo HRG.out HCC.out HM.out hdu (fv_no hi h))
          have HYES := Lib.hid (fun h => vaD_ok HRG.out HCC.out HM.out hdu (fv_yes h))
          rw [hdu] at HDU
          clear hdu
          go_wp2_with fail
          refine (HDU.out _ _ H4.out).mono ?_
          rintro e w5 ⟨rfl, hb⟩
          have H5 := Lib.hid (H4.out.below hb)
          clear hb x0 x1 x2 xl H4 HDU
          obtain ⟨⟨x0, x1, x2, xl⟩, -⟩ := H5.out.db.all
          go_wp2
          clear x0 x1 x2 xl
          go_loopw [32] (fun i wr => ∃ k : Nat, k ≤ d.F.length ∧ i = .int .i64 k ∧ Hid (DAt w p d X wr) ∧ ∀ j : Nat, j < k → fvB d.l d.F (j : Int) = true) (fun i _ => d.F.length - (intOf i).toNat)
          case atStart => exact ⟨0, by omega, rfl, H5, fun j h => absurd h (by omega)⟩
          case round =>
            obtain ⟨k, hk, rfl, HD, hno⟩ := hrel
            have HN := Lib.hid hno
            clear hno H5
            obtain ⟨⟨x0, x1, x2, xl⟩, -⟩ := HD.out.db.all
            by_cases hlt : k < d.F.length
            · have HF := Lib.hid (fun W h => HFV.out p W h k hlt HN6.out)
              cases hf : fvB d.l d.F (k : Int) with
              | false =>
                have HR := Lib.hid (HNO.out k hlt hf)
                rw [hf] at HF
                clear hf
                go_wp2_with fail
                refine (HF.out _ HD.out).mono ?_
                rintro e w6 ⟨rfl, hb⟩
                have H6 := Lib.hid (HD.out.below hb)
                clear hb
                go_wp2
                go_ret
                exact ⟨by rw [HVV.out, HR.out]; rfl, H6.out.bel⟩
              | true =>
                have HNN := Lib.hid (show ∀ j : Nat, j < k + 1 → fvB d.l d.F (j : Int) = true from fun j h => by
                  by_cases e : j = k
                  · rw [e]; exact hf
                  · exact HN.out j (by omega))
                rw [hf] at HF
                clear hf
                go_wp2_with fail
                refine (HF.out _ HD.out).mono ?_
                rintro e w6 ⟨rfl, hb⟩
                have H6 := Lib.hid (HD.out.below hb)
                clear hb
                go_wp2
                go_roundw
                case rel => exact ⟨k + 1, by omega, by go_num, H6, HNN.out⟩
                case measure => simp [intOf]; omega
            · have HR := Lib.hid (HYES.out (fun j hj => HN.out j (by omega)))
              go_wp2
              go_ret
              exact ⟨by rw [HVV.out, HR.out]; rfl, HD.out.bel⟩
  · have HR := Lib.hid (vaD_1 hr)
    have HNO := Lib.hid (rg_no hr)
    clear hr HCV HST HMS HDU HFV
    cases h1 : wiR d.vn 1 1099511627776 with
    | false =>
      rw [h1] at HW1
      clear h1 HNO
      go_enter Try.func93, Try.ntmps93
      obtain ⟨⟨x0, x1, x2, xl⟩, -⟩ := H0.out.db.all
      go_wp2_with fail
      clear x0 x1 x2 xl
      have H0 := Lib.hid (show DAt w p d X (w.alloc (.cells #[.int .i64 d.vn, .slice X.A d.l.length X.c, .slice X.A2 d.F.length X.c2] 34)) from by rw [HPP.out]; exact H0.out)
      rw [← HPP.out]
      generalize w.alloc (.cells #[.int .i64 d.vn, .slice X.A d.l.length X.c, .slice X.A2 d.F.length X.c2] 34) = w0 at *
      obtain ⟨⟨x0, x1, x2, xl⟩, -⟩ := H0.out.db.all
      refine (HW1.out _).mono ?_
      rintro e w1 ⟨rfl, hw⟩
      replace hw := hw.symm
      subst hw
      go_wp2
      go_ret
      exact ⟨by rw [HVV.out, HR.out]; rfl, H0.out.bel⟩
    | true =>
      rw [HNO.out h1] at HW2
      rw [h1] at HW1
      clear h1 HNO
      go_enter Try.func93, Try.ntmps93
      obtain ⟨⟨x0, x1, x2, xl⟩, -⟩ := H0.out.db.all
      go_wp2_with fail
      clear x0 x1 x2 xl
      have H0 := Lib.hid (show DAt w p d X (w.alloc (.cells #[.int .i64 d.vn, .slice X.A d.l.length X.c, .slice X.A2 d.F.length X.c2] 34)) from by rw [HPP.out]; exact H0.out)
      rw [← HPP.out]
      generalize w.alloc (.cells #[.int .i64 d.vn, .slice X.A d.l.length X.c, .slice X.A2 d.F.length X.c2] 34) = w0 at *
      obtain ⟨⟨x0, x1, x2, xl⟩, -⟩ := H0.out.db.all
      refine (HW1.out _).mono ?_
      rintro e w1 ⟨rfl, hw⟩
      replace hw := hw.symm
      subst hw
      go_wp2_with fail
      refine (HW2.out _).mono ?_
      rintro e w1 ⟨rfl, hw⟩
      replace hw := hw.symm
      subst hw
      go_wp2
      go_ret
      exact ⟨by rw [HVV.out, HR.out]; rfl, H0.out.bel⟩
end Go.Proofs.Ytijpflljopckiaa
namespace Go.Proofs.Ytijpflljopckiaa
open Go.RowKit
set_option linter.unusedVariables false

/-- A span and whether there is one, as a result. -/
def SpP (w : World) (s : Sp) (b : Bool) (e : Ending) (w' : World) : Prop := e = .returned (.tuple #[s.v, .bool b]) ∧ Below w.heap.size w w'
/-- A result box of a span behind a directory's box. -/
structure DS (w : World) (p q : Nat) (d : Dd) (X : Dx) (W : World) : Prop where
  da : DAt w p d X W
  c0 : W.cell? ⟨q, 0, none⟩ = some (.int .i64 0)
  c1 : W.cell? ⟨q, 1, none⟩ = some (.int .i64 0)
  c2 : W.cell? ⟨q, 2, none⟩ = some (.int .i64 0)
  fr : ∀ o, W.frozen? ⟨q, o, none⟩ = false
  lt : q < W.heap.size
  old : w.heap.size ≤ q
theorem DS.below {w W W' : World} {p q : Nat} {d : Dd} {X : Dx} (h : DS w p q d X W) (hb : Below W.heap.size W W') : DS w p q d X W' :=
  ⟨h.da.below hb, (hb.cell (p := ⟨q, 0, none⟩) h.lt).trans h.c0, (hb.cell (p := ⟨q, 1, none⟩) h.lt).trans h.c1, (hb.cell (p := ⟨q, 2, none⟩) h.lt).trans h.c2, fun o => (hb.frozen (p := ⟨q, o, none⟩) h.lt).trans (h.fr o), Nat.lt_of_lt_of_le h.lt hb.size, h.old⟩
theorem DS.all {w W : World} {p q : Nat} {d : Dd} {X : Dx} (h : DS w p q d X W) : (W.cell? ⟨q, 0, none⟩ = some (.int .i64 0) ∧ W.cell? ⟨q, 1, none⟩ = some (.int .i64 0) ∧ W.cell? ⟨q, 2, none⟩ = some (.int .i64 0) ∧ q < W.heap.size) ∧ W.frozen? ⟨q, 0, none⟩ = false ∧ W.frozen? ⟨q, 1, none⟩ = false ∧ W.frozen? ⟨q, 2, none⟩ = false := ⟨⟨h.c0, h.c1, h.c2, h.lt⟩, h.fr 0, h.fr 1, h.fr 2⟩
theorem DS.out {w W : World} {p q : Nat} {d : Dd} {X : Dx} (h : DS w p q d X W) (a b c : Value) : Below w.heap.size w (((W.setCell ⟨q, 0, none⟩ a).setCell ⟨q, 1, none⟩ b).setCell ⟨q, 2, none⟩ c) :=
  ((h.da.bel.setCell (p := ⟨q, 0, none⟩) h.old _).setCell (p := ⟨q, 1, none⟩) h.old _).setCell (p := ⟨q, 2, none⟩) h.old _
theorem DS.start {w : World} {d : Dd} {X : Dx} (t u : TypeId) (h : DR w w.heap.size d X) : DS w w.heap.size (w.heap.size + 1) d X ((w.alloc (.cells #[.int .i64 d.vn, .slice X.A d.l.length X.c, .slice X.A2 d.F.length X.c2] t)).alloc (.cells #[.int .i64 0, .int .i64 0, .int .i64 0] u)) := by
  refine ⟨(DAt.start t h).alloc _, by simp [go_sem], by simp [go_sem], by simp [go_sem], fun o => by simp [go_sem], by simp, by omega⟩
set_option maxHeartbeats 4000000 in
set_option maxRecDepth 20000 in
theorem dspan_any (d : Dd) (X : Dx) (s : Int) (w : World) (hd : DR w w.heap.size d X) :
    Calls Try.prog 67 #[dv d X, .int .i64 s] w (SpP w (spnD d s) (spnB d s)) := by
  have H0 := Lib.hid (DS.start 34 115 hd)
  have HVA := Lib.hid (fun p W (k : DAt w p d X W) => ddvalid_any d X W k.dr)
  have HFD := Lib.hid (fun p W (k : DAt w p d X W) => sfind_any X.A d.l.length X.c d.l s W k.dr.pl)
  have hL : d.l.length ≤ 9223372036854775807 := by have h2 := hd.pl.len.2.2; have h1 := hd.pl.len.2.1; unfold maxLen at h2; omega
  obtain ⟨p, hp⟩ : ∃ p, p = w.heap.size := ⟨_, rfl⟩
  obtain ⟨q, hq⟩ : ∃ q, q = w.heap.size + 1 := ⟨_, rfl⟩
  obtain ⟨R, hR⟩ : ∃ R, R = spnD d s := ⟨_, rfl⟩
  obtain ⟨R2, hR2⟩ : ∃ R2, R2 = spnB d s := ⟨_, rfl⟩
  rw [← hR, ← hR2]
  have HRR := Lib.hid (And.intro hR hR2)
  have HPP := Lib.hid (show p = w.heap.size ∧ q = w.heap.size + 1 ∧ ¬ p = q ∧ ¬ q = p by omega)
  clear hd hR hR2 hp hq
  by_cases hv : vaD d = 0
  · rw [hv] at HVA
    go_enter Try.func67, Try.ntmps67
    have HV := Lib.hid hv
    clear hv
    obtain ⟨⟨x0, x1, x2, xl⟩, -⟩ := H0.out.da.db.all
    go_wp2_with fail
    clear x0 x1 x2 xl
    have H0 := Lib.hid (show DS w p q d X ((w.alloc (.cells #[.int .i64 d.vn, .slice X.A d.l.length X.c, .slice X.A2 d.F.length X.c2] 34)).alloc (.cells #[.int .i64 0, .int .i64 0, .int .i64 0] 115)) from by rw [HPP.out.1, HPP.out.2.1]; exact H0.out)
    rw [← HPP.out.2.1, ← HPP.out.1]
    generalize (w.alloc (.cells #[.int .i64 d.vn, .slice X.A d.l.length X.c, .slice X.A2 d.F.length X.c2] 34)).alloc (.cells #[.int .i64 0, .int .i64 0, .int .i64 0] 115) = w0 at *
    refine (HVA.out _ _ H0.out.da).mono ?_
    rintro e w1 ⟨rfl, hb⟩
    have H1 := Lib.hid (H0.out.below hb)
    clear hb H0 HVA
    obtain ⟨⟨x0, x1, x2, xl⟩, -⟩ := H1.out.da.db.all
    by_cases hi : 0 ≤ ixS d.l s
    · obtain ⟨k, hk, hkl, -, -⟩ := ixS_pos hi
      have HRS := Lib.hid (show spnD d s = sg d.l k ∧ spnB d s = true from ⟨by unfold spnD; rw [if_pos ⟨HV.out, hi⟩, hk]; rfl, by unfold spnB; exact decide_eq_true ⟨HV.out, hi⟩⟩)
      rw [hk] at HFD
      clear hi hk
      go_wp2_with fail
      refine (HFD.out _ _ H1.out.da).mono ?_
      rintro e w2 ⟨rfl, hb⟩
      have H2 := Lib.hid (H1.out.below hb)
      clear hb H1 HFD x0 x1 x2 xl
      obtain ⟨b, o, hA, hbl, c0, c1, c2⟩ := H2.out.da.dr.pl.atg hkl
      obtain ⟨⟨x0, x1, x2, xl⟩, -⟩ := H2.out.da.db.all
      obtain ⟨⟨y0, y1, y2, yl⟩, f0, f1, f2⟩ := H2.out.all
      obtain ⟨-, -, hpq, hqp⟩ := HPP.out
      have HO := Lib.hid (H2.out.out (.int .i64 (sg d.l k).lo) (.int .i64 (sg d.l k).hi) (.int .i64 (sg d.l k).sh))
      rw [hA] at x1
      clear hA
      generalize sg d.l k = M at *
      go_wp2
      exact bodyPost_ret (v := .tuple #[M.v, .bool true]) (by simp only [results, Try.results67]; go_simp <;> rfl) rfl ⟨by rw [HRR.out.1, HRR.out.2, HRS.out.1, HRS.out.2], HO.out⟩
    · have HRS := Lib.hid (show spnD d s = zSp ∧ spnB d s = false from ⟨by unfold spnD; rw [if_neg (fun h => hi h.2)], by unfold spnB; exact decide_eq_false (fun h => hi h.2)⟩)
      rw [(ixS_neg hi).1] at HFD
      clear hi
      go_wp2_with fail
      refine (HFD.out _ _ H1.out.da).mono ?_
      rintro e w2 ⟨rfl, hb⟩
      have H2 := Lib.hid (H1.out.below hb)
      clear hb H1 HFD x0 x1 x2 xl
      obtain ⟨⟨y0, y1, y2, yl⟩, f0, f1, f2⟩ := H2.out.all
      have HO := Lib.hid (H2.out.out (.int .i64 0) (.int .i64 0) (.int .i64 0))
      go_wp2
      exact bodyPost_ret (v := .tuple #[zSp.v, .bool false]) (by simp only [results, Try.results67]; go_simp <;> rfl) rfl ⟨by rw [HRR.out.1, HRR.out.2, HRS.out.1, HRS.out.2], HO.out⟩
  · have hne : (vaD d != 0) = true := bne_iff_ne.2 hv
    have HRS := Lib.hid (show spnD d s = zSp ∧ spnB d s = false from ⟨by unfold spnD; rw [if_neg (fun h => hv h.1)], by unfold spnB; exact decide_eq_false (fun h => hv h.1)⟩)
    clear hv
    generalize vaD d = v at *
    go_enter Try.func67, Try.ntmps67
    obtain ⟨⟨x0, x1, x2, xl⟩, -⟩ := H0.out.da.db.all
    go_wp2_with fail
    clear x0 x1 x2 xl
    refine (HVA.out _ _ H0.out.da).mono ?_
    rintro e w1 ⟨rfl, hb⟩
    have H1 := Lib.hid (H0.out.below hb)
    clear hb H0 HVA
    obtain ⟨⟨y0, y1, y2, yl⟩, f0, f1, f2⟩ := H1.out.all
    have HO := Lib.hid (H1.out.out (.int .i64 0) (.int .i64 0) (.int .i64 0))
    go_wp2
    exact bodyPost_ret (v := .tuple #[zSp.v, .bool false]) (by simp only [results, Try.results67]; go_simp <;> rfl) rfl ⟨by rw [HRR.out.1, HRR.out.2, HRS.out.1, HRS.out.2], HO.out⟩

end Go.Proofs.Ytijpflljopckiaa
namespace Go.Proofs.Ytijpflljopckiaa
open Go.RowKit
set_option linter.unusedVariables false

set_option maxHeartbeats 4000000 in
set_option maxRecDepth 20000 in
theorem dnew_any (s l : Int) (w : World) : Calls Try.prog 33 #[.int .i64 s, .int .i64 l] w (DE w.heap.size w (nwD s l) (nwE10 s l)) := by
  have HWI := Lib.hid (fun n lo hi W => rwithin_any n lo hi W)
  obtain ⟨r, hr⟩ : ∃ r, r = w.heap.size := ⟨_, rfl⟩
  by_cases h : 1 ≤ s ∧ s ≤ 6 ∧ 1 ≤ l ∧ l ≤ s
  · obtain ⟨n, hn⟩ : ∃ n : Nat, s = n := ⟨s.toNat, by omega⟩
    obtain ⟨m, hm⟩ : ∃ m : Nat, l = m := ⟨l.toNat, by omega⟩
    subst hn
    subst hm
    have e1 : nwE10 n m = 0 := by unfold nwE10; rw [if_pos h]
    have e2 : nwD n m = ⟨1, nwL m m, List.replicate n (-1)⟩ := by unfold nwD; rw [e1]; simp
    have HM := Lib.hid (show (1 ≤ n ∧ n ≤ 6) ∧ (1 ≤ m ∧ m ≤ n) by omega)
    have q1 : wiR n 1 6 = true := by simp [wiR]; omega
    have q2 : wiR m 1 n = true := by simp [wiR]; omega
    rw [e1, e2]
    clear e1 e2 h
    obtain ⟨F, hF⟩ : ∃ F, F = List.replicate n (-1 : Int) := ⟨_, rfl⟩
    rw [← hF]
    obtain ⟨i0, hi0, hz0⟩ := Option.map_eq_some_iff.1 info_sp
    simp only [Prod.mk.injEq] at hz0
    have HI := Lib.hid hi0
    have HZ := Lib.hid hz0
    clear hi0 hz0
    have HRP := Lib.hid (fun xb W => repeat_one xb n W HM.out.1.1 HM.out.1.2)
    rw [← hF] at HRP
    clear hF
    have HR0 := Lib.hid hr
    go_enter Try.func33, Try.ntmps33
    go_wp2_with fail
    refine (HWI.out _ _ _ _).mono ?_
    rintro e w1 ⟨rfl, hw1⟩
    rw [q1]
    go_wp2_with fail
    refine (HWI.out _ _ _ _).mono ?_
    rintro e w2 ⟨rfl, hw2⟩
    rw [q2]
    go_wp2_with fail
    subst hw2
    have HW1 := Lib.hid (show Db10 w1 r zD10 zDx ∧ w1.heap.size = r + 1 ∧ Below w.heap.size w w1 from by
      rw [← hw1, hr]
      exact ⟨Db10.zero w _, by simp, (Below.refl _ _).alloc (Nat.le_refl _) _⟩)
    rw [← hr]
    clear hw1 hr
    refine (HRP.out _ _ (by simp [go_sem]) (by simp)).mono ?_
    rintro e w3 ⟨v, rfl, ho, hb⟩
    obtain ⟨A2, c2, rfl⟩ := own_form ho
    have HN := Lib.hid (NA.start (w := w) HR0.out ((HW1.out.2.2.alloc HW1.out.2.2.size (.cells #[.int .i64 (-1)] 3)).trans (hb.mono (by have := HW1.out.2.2.size; simp; omega))) ((HW1.out.1.alloc (.cells #[.int .i64 (-1)] 3)).up hb) (own_low ho (by have := HW1.out.2.1; simp; omega)) 34)
    obtain ⟨y, hy⟩ : ∃ y, y = w3.heap.size := ⟨_, rfl⟩
    clear ho hb HRP HW1
    go_wp2_with fail
    rw [← hy] at HN ⊢
    generalize w3.alloc (.cells #[.int .i64 1, .slice none 0 0, .slice A2 F.length c2] 34) = w4 at *
    clear hy
    go_loopw [23] (fun iv wr => ∃ (k : Nat) (A : Option Addr) (c : Nat), iv = .int .i64 k ∧ k ≤ m ∧ Hid (NA w r y ⟨1, nwL m k, F⟩ ⟨A, c, A2, c2⟩ wr)) (fun iv _ => m - (intOf iv).toNat)
    case atStart => exact ⟨0, none, 0, rfl, Nat.zero_le _, HN⟩
    case round =>
      obtain ⟨k, A, c, rfl, hkm, HA⟩ := hrel
      by_cases hk : k < m
      · obtain ⟨L, hL⟩ : ∃ L, L = nwL m k := ⟨_, rfl⟩
        rw [← hL] at HA
        have HL := Lib.hid (show L.length = k ∧ nwL m (k + 1) = L ++ [⟨(k : Int) * 65536 / m, ((k : Int) + 1) * 65536 / m - 1, k⟩] from ⟨by rw [hL, nwL_len], by rw [hL]; exact nwL_succ m k⟩)
        clear hL
        have hk' : (k : Int) < (m : Int) := by omega
        clear hkm hk
        have h56 : k ≤ 5 ∧ m ≤ 6 := by have := HM.out; omega
        have HL6 := Lib.hid h56
        have hw1 : IntKind.i64.wrap ((k : Int) * 65536) = (k : Int) * 65536 := IntWalk.i64_in _ (by omega)
        have hw2 : IntKind.i64.wrap ((k : Int) + 1) = (k : Int) + 1 := IntWalk.i64_in _ (by omega)
        have hw3 : IntKind.i64.wrap (((k : Int) + 1) * 65536) = ((k : Int) + 1) * 65536 := IntWalk.i64_in _ (by omega)
        obtain ⟨a, ha⟩ : ∃ a, a = ((k : Int) * 65536) / (m : Int) := ⟨_, rfl⟩
        obtain ⟨b, hb⟩ : ∃ b, b = (((k : Int) + 1) * 65536) / (m : Int) := ⟨_, rfl⟩
        have ht1 : ((k : Int) * 65536).tdiv (m : Int) = a := by rw [ha]; exact Int.tdiv_eq_ediv_of_nonneg (by omega)
        have ht2 : (((k : Int) + 1) * 65536).tdiv (m : Int) = b := by rw [hb]; exact Int.tdiv_eq_ediv_of_nonneg (by omega)
        have hra : 0 ≤ a ∧ a ≤ 400000 := by
          rw [ha]
          exact ⟨Int.ediv_nonneg (by omega) (by omega), Int.le_trans (Int.ediv_le_self _ (by omega)) (by omega)⟩
        have hrb : 0 ≤ b ∧ b ≤ 400000 := by
          rw [hb]
          exact ⟨Int.ediv_nonneg (by omega) (by omega), Int.le_trans (Int.ediv_le_self _ (by omega)) (by omega)⟩
        have hw4 : IntKind.i64.wrap a = a := IntWalk.i64_in _ (by omega)
        have hw5 : IntKind.i64.wrap b = b := IntWalk.i64_in _ (by omega)
        have hw6 : IntKind.i64.wrap (b - 1) = b - 1 := IntWalk.i64_in _ (by omega)
        rw [← ha, ← hb] at HL
        have hm0 : ¬ (m : Int) = 0 := by omega
        have hm1 : ((m : Int) == 0) = false := by simpa using hm0
        have hm2 : ¬ m = 0 := by omega
        have hm3 : ((m == 0) : Bool) = false := by simpa using hm2
        clear ha hb h56
        obtain ⟨⟨x0, x1, x2, xl⟩, f0, f1, f2⟩ := HA.out.xb.all
        dsimp only at x0 x1 x2
        clear x0 x2 f0 f2
        go_wp2
        go_region_law (refine step_append_lies _ (by rfl) _ _ _ (by rfl) (r + 1) 115 i0 _ 3 24 Try.underlying32 HI.out HZ.out.1 HZ.out.2.1 HZ.out.2.2 rfl (by omega) (.slice A L.length c) L.length (scs L) (by rfl) (HA.out.drew.alloc _).ol ⟨wr.heap.size, 0, none⟩ 1 1 (Sp.mk a (b - 1) k).l (by rfl) (by rfl) (World.news_of_block (cs := (Sp.mk a (b - 1) k).l.toArray) (t := 115) (fr := (0, 0)) (heap_alloc_new wr.drew _)) (Sp.l_one _) (by omega) (by have := HL.out; have := HL6.out; unfold maxLen; omega) (by have := HL.out; have := HL6.out; omega) (Nat.succ_le_of_lt (HA.out.drew.alloc _).rb.lt) _ rfl ?_; intro g1 cp1 w8 hown1 hgrow1 hat1 hlt1; have HP8 := Lib.hid ((HA.out.drew.alloc _).app (S := Sp.mk a (b - 1) k) hown1 hgrow1 hat1); obtain ⟨z1, f1, xl⟩ := HP8.out.1; clear hown1 hgrow1 hat1 hlt1)
        all_goals
          go_wp2
          exact ⟨⟨k + 1, _, _, by rw [Int.natCast_add]; rfl, by omega, Lib.hid (by rw [HL.out.2]; exact HP8.out.2)⟩, by simp [intOf]; omega⟩
      · have hke : k = m := by omega
        subst hke
        have HO := Lib.hid HA.out.out
        obtain ⟨⟨x0, x1, x2, xl⟩, f0, f1, f2⟩ := HA.out.xb.all
        obtain ⟨⟨r0, r1, r2, rl⟩, g0, g1, g2⟩ := HA.out.rb.all
        have hry : ¬ r = y ∧ ¬ y = r := by have := HA.out.ne; omega
        obtain ⟨hry1, hry2⟩ := hry
        dsimp only at x0 x1 x2
        clear hkm hk
        go_wp2
        exact bodyPost_ret (v := .tuple #[dv ⟨1, nwL k k, F⟩ ⟨A, c, A2, c2⟩, .int .i64 0]) (by simp only [results, Try.results33]; go_simp <;> rfl) rfl HO.out
  · have HEE := Lib.hid (show nwE10 s l = 1 ∧ nwD s l = zD10 from by
      have e1 : nwE10 s l = 1 := by unfold nwE10; rw [if_neg h]
      exact ⟨e1, by unfold nwD; rw [e1]; rfl⟩)
    obtain ⟨E1, hE1⟩ : ∃ E1, E1 = nwE10 s l := ⟨_, rfl⟩
    obtain ⟨D1, hD1⟩ : ∃ D1, D1 = nwD s l := ⟨_, rfl⟩
    rw [← hE1, ← hD1] at HEE
    rw [← hE1, ← hD1]
    clear hE1 hD1
    have HO := Lib.hid (fun W hb => new_out0 (w := w) (W := W) rfl hb 1)
    have hq : wiR s 1 6 = false ∨ (wiR s 1 6 = true ∧ wiR l 1 s = false) := by
      simp only [wiR, decide_eq_false_iff_not, decide_eq_true_eq]; omega
    clear h hr
    rcases hq with q1 | ⟨q1, q2⟩
    · go_enter Try.func33, Try.ntmps33
      go_wp2_with fail
      refine (HWI.out _ _ _ _).mono ?_
      rintro e w1 ⟨rfl, hw1⟩
      rw [q1]
      have HO1 := Lib.hid (HO.out w1 (by rw [← hw1]; exact (Below.refl _ _).alloc (Nat.le_refl _) _))
      have HD := Lib.hid (show Db10 w1 w.heap.size zD10 zDx from by rw [← hw1]; exact Db10.zero w _)
      clear hw1
      obtain ⟨⟨r0, r1, r2, rl⟩, g0, g1, g2⟩ := HD.out.all
      go_wp2
      exact bodyPost_ret (v := .tuple #[.agg #[.int .i64 0, .slice none 0 0, .slice none 0 0], .int .i64 1]) (by simp only [results, Try.results33]; go_simp <;> rfl) rfl (by rw [HEE.out.1, HEE.out.2]; exact HO1.out)
    · go_enter Try.func33, Try.ntmps33
      go_wp2_with fail
      refine (HWI.out _ _ _ _).mono ?_
      rintro e w1 ⟨rfl, hw1⟩
      rw [q1]
      go_wp2_with fail
      refine (HWI.out _ _ _ _).mono ?_
      rintro e w2 ⟨rfl, hw2⟩
      subst hw2
      rw [q2]
      have HO1 := Lib.hid (HO.out w1 (by rw [← hw1]; exact (Below.refl _ _).alloc (Nat.le_refl _) _))
      have HD := Lib.hid (show Db10 w1 w.heap.size zD10 zDx from by rw [← hw1]; exact Db10.zero w _)
      clear hw1
      obtain ⟨⟨r0, r1, r2, rl⟩, g0, g1, g2⟩ := HD.out.all
      go_wp2
      exact bodyPost_ret (v := .tuple #[.agg #[.int .i64 0, .slice none 0 0, .slice none 0 0], .int .i64 1]) (by simp only [results, Try.results33]; go_simp <;> rfl) rfl (by rw [HEE.out.1, HEE.out.2]; exact HO1.out)
end Go.Proofs.Ytijpflljopckiaa
namespace Go.Proofs.Ytijpflljopckiaa
open Go.RowKit
set_option linter.unusedVariables false

/-- A directory in a box, with its lists. -/
structure DD (w : World) (p : Nat) (d : Dd) (X : Dx) (W : World) : Prop where
  db : Db10 W p d X
  dr : DR W W.heap.size d X
  old : w.heap.size ≤ p
  bel : Below w.heap.size w W
theorem DD.up {w W W' : World} {p : Nat} {d : Dd} {X : Dx} (h : DD w p d X W) (hb : Below W.heap.size W W') : DD w p d X W' := ⟨h.db.up hb, h.dr.up hb, h.old, h.bel.trans (hb.mono h.bel.size)⟩
theorem DD.start {w W : World} {d : Dd} {X : Dx} (hr : DR W W.heap.size d X) (hb : Below w.heap.size w W) (t : TypeId) : DD w W.heap.size d X (W.alloc (.cells #[.int .i64 d.vn, .slice X.A d.l.length X.c, .slice X.A2 d.F.length X.c2] t)) :=
  ⟨Db10.start W d X t, hr.alloc _, hb.size, hb.alloc hb.size _⟩

end Go.Proofs.Ytijpflljopckiaa
namespace Go.Proofs.Ytijpflljopckiaa
open Go.RowKit
set_option linter.unusedVariables false

abbrev MgS (p q g f u : Nat) (d : Dd) (X : Dx) (e : Ed) (W : World) : Prop := W.cell? ⟨p, 1, none⟩ = some (.slice (some ⟨g, 0, none⟩) d.l.length X.c) ∧ W.cell? ⟨q, 2, none⟩ = some (.int .i64 e.to) ∧ W.cell? ⟨g, f * 3, none⟩ = some (.int .i64 (sg d.l f).lo) ∧ W.cell? ⟨g, u * 3 + 1, none⟩ = some (.int .i64 (sg d.l u).hi)
theorem MgS.set {p q g f u : Nat} {d : Dd} {X : Dx} {e : Ed} {W : World} (h : MgS p q g f u d X e W) (hu : u = f + 1) (hp : p ≠ g) (hq : q ≠ g) (u' v : Value) : MgS p q g f u d X e (((W.setCell ⟨g, f * 3, none⟩ (.int .i64 (sg d.l f).lo)).setCell ⟨g, f * 3 + 1, none⟩ u').setCell ⟨g, f * 3 + 2, none⟩ v) := by
  obtain ⟨h1, h2, h3, h4⟩ := h
  have o : ∀ (a b : Addr) (u : Value) (W : World), a ≠ b → (W.setCell b u).cell? a = W.cell? a := fun a b u W hn => World.cell?_setCell_other W b a u (fun e => hn (by first | exact e | exact e.symm))
  have n1 : ∀ j, (⟨p, 1, none⟩ : Addr) ≠ ⟨g, j, none⟩ := fun j e => hp (by injection e)
  have n2 : ∀ j, (⟨q, 2, none⟩ : Addr) ≠ ⟨g, j, none⟩ := fun j e => hq (by injection e)
  have n3 : ∀ i j, i ≠ j → (⟨g, i, none⟩ : Addr) ≠ ⟨g, j, none⟩ := fun i j hn e => hn (by injection e)
  refine ⟨by rw [o _ _ _ _ (n1 _), o _ _ _ _ (n1 _), o _ _ _ _ (n1 _)]; exact h1, by rw [o _ _ _ _ (n2 _), o _ _ _ _ (n2 _), o _ _ _ _ (n2 _)]; exact h2, ?_, by rw [o _ _ _ _ (n3 _ _ (by omega)), o _ _ _ _ (n3 _ _ (by omega)), o _ _ _ _ (n3 _ _ (by omega))]; exact h4⟩
  rw [o _ _ _ _ (n3 _ _ (by omega)), o _ _ _ _ (n3 _ _ (by omega))]
  simp [go_sem, h3]
end Go.Proofs.Ytijpflljopckiaa
