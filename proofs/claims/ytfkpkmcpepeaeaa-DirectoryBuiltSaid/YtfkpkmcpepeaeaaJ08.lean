/- What is proved here: ref10.index, ref10.Validate by contracts; math/bits.Mul of one and a small number; slices.Repeat of one number. -/
import Derived.Test.YtfkpkmcpepeaeaaJ03
import Derived.IntWalk
import Derived.Deep.RegionHeld3
import Derived.Deep.DrawnRows
import Derived.Test.YtfkpkmcpepeaeaaJ05
import Derived.OwnWalk
namespace Go.Proofs.Ytfkpkmcpepeaeaa
open Go.RowKit
set_option linter.unusedVariables false

set_option maxHeartbeats 2000000 in
theorem rindex10_any (d : Dd) (X : Dx) (s : Int) (w : World) (hd : DR w w.heap.size d X) :
    Calls Try.prog 54 #[dv d X, .int .i64 s] w fun e w' => e = .returned (.int .i64 (ixS d.l s)) ∧ Below w.heap.size w w' := by
  have H0 := Lib.hid (DAt.start 25 hd)
  have hL : d.l.length ≤ 9223372036854775807 := by have h2 := hd.pl.len.2.2; have h1 := hd.pl.len.2.1; unfold maxLen at h2; omega
  obtain ⟨p, hp⟩ : ∃ p, p = w.heap.size := ⟨_, rfl⟩
  have HPP := Lib.hid hp
  clear hd hp
  go_enter Try.func54, Try.ntmps54
  go_wp2
  have H0 := Lib.hid (show DAt w p d X (w.alloc (.cells #[.int .i64 d.vn, .slice X.A d.l.length X.c, .slice X.A2 d.F.length X.c2] 25)) from by rw [HPP.out]; exact H0.out)
  rw [← HPP.out]
  generalize w.alloc (.cells #[.int .i64 d.vn, .slice X.A d.l.length X.c, .slice X.A2 d.F.length X.c2] 25) = w0 at *
  go_loopw [5] (fun i wr => ∃ k : Nat, k ≤ d.l.length ∧ i = .int .i64 k ∧ wr = w0 ∧ ∀ j, j < k → (sg d.l j).sh ≠ s) (fun i _ => d.l.length - (intOf i).toNat)
  case atStart => exact ⟨0, by omega, rfl, rfl, fun j h => absurd h (by omega)⟩
  case round =>
    obtain ⟨k, hk, rfl, rfl, hno⟩ := hrel
    have HN := Lib.hid hno
    clear hno
    obtain ⟨⟨x0, x1, x2, xl⟩, -⟩ := H0.out.db.all
    by_cases hlt : k < d.l.length
    · obtain ⟨b, o, hA, hbl, c0, c1, c2⟩ := H0.out.dr.pl.atg hlt
      rw [hA] at x1
      clear hA
      by_cases he : (sg d.l k).sh = s
      · have HR := Lib.hid (ixS_hit hlt he HN.out)
        have heq : ((sg d.l k).sh == s) = true := by simpa using he
        clear he
        generalize sg d.l k = M at *
        go_wp2
        go_ret
        exact ⟨by rw [HR.out]; rfl, H0.out.bel⟩
      · have HNN := Lib.hid (show ∀ j, j < k + 1 → (sg d.l j).sh ≠ s from fun j h => by
          by_cases e : j = k
          · rw [e]; exact he
          · exact HN.out j (by omega))
        have heq : ((sg d.l k).sh == s) = false := by simpa using he
        clear he
        generalize sg d.l k = M at *
        go_wp2
        go_roundw
        case rel => exact ⟨k + 1, by omega, by go_num, by trivial, HNN.out⟩
        case measure => simp [intOf]; omega
    · have HR := Lib.hid (ixS_none (s := s) (fun j hj => HN.out j (by omega)))
      go_wp2
      go_ret
      exact ⟨by rw [HR.out]; rfl, H0.out.bel⟩

theorem rg_not {d : Dd} (h : ¬ rgD d) : d.vn < 1 ∨ (¬ d.vn < 1 ∧ 1099511627776 < d.vn) ∨ (¬ d.vn < 1 ∧ ¬ 1099511627776 < d.vn ∧ (d.F.length : Int) < 1) ∨ (¬ d.vn < 1 ∧ ¬ 1099511627776 < d.vn ∧ ¬ (d.F.length : Int) < 1 ∧ 6 < (d.F.length : Int)) := by
  by_cases h1 : d.vn < 1
  · exact .inl h1
  · by_cases h2 : 1099511627776 < d.vn
    · exact .inr (.inl ⟨h1, h2⟩)
    · by_cases h3 : (d.F.length : Int) < 1
      · exact .inr (.inr (.inl ⟨h1, h2, h3⟩))
      · by_cases h4 : 6 < (d.F.length : Int)
        · exact .inr (.inr (.inr ⟨h1, h2, h3, h4⟩))
        · exact absurd ⟨⟨by omega, by omega⟩, by omega, by omega⟩ h
/-- The cells that a comparison of an index loads. -/
abbrev IxK (p : Nat) (d : Dd) (X : Dx) (b o n c : Nat) (s : Int) (k : Nat) (W : World) : Prop := W.cell? ⟨p, 0, none⟩ = some (.int .i64 d.vn) ∧ W.cell? ⟨p, 1, none⟩ = some (.slice (some ⟨b, o, none⟩) n c) ∧ W.cell? ⟨p, 2, none⟩ = some (.slice X.A2 d.F.length X.c2) ∧ W.cell? ⟨b, o + k * 3 + 2, none⟩ = some (.int .i64 s)
/-- A number as a result, nothing old turned. -/
abbrev VlX (w : World) (x : Int) (e : Ending) (w' : World) : Prop := e = .returned (.int .i64 x) ∧ Below w.heap.size w w'
set_option maxHeartbeats 8000000 in
set_option maxRecDepth 20000 in
theorem rvalid10_any (d : Dd) (X : Dx) (w : World) (hd : DR w w.heap.size d X) :
    Calls Try.prog 31 #[dv d X] w (VlX w (vaD d)) := by
  have H0 := Lib.hid (DAt.start 25 hd)
  have HIX := Lib.hid (fun p s W (k : DAt w p d X W) => rindex10_any d X s W k.dr)
  have hL : d.l.length ≤ 9223372036854775807 := by have h2 := hd.pl.len.2.2; have h1 := hd.pl.len.2.1; unfold maxLen at h2; omega
  obtain ⟨p, hp⟩ : ∃ p, p = w.heap.size := ⟨_, rfl⟩
  obtain ⟨V, hV⟩ : ∃ V, V = vaD d := ⟨_, rfl⟩
  rw [← hV]
  have HVV := Lib.hid hV
  have HPP := Lib.hid hp
  clear hd hV hp
  by_cases hr : rgD d
  · have hv1 : ¬ d.vn < 1 := by have := hr.1.1; omega
    have hv2 : ¬ 1099511627776 < d.vn := by have := hr.1.2; omega
    have hn1 : ¬ (d.F.length : Int) < 1 := by have := hr.2.1; omega
    have hn2 : ¬ 6 < (d.F.length : Int) := by have := hr.2.2; omega
    have HRG := Lib.hid hr
    clear hr
    go_enter Try.func31, Try.ntmps31
    go_wp2
    have H0 := Lib.hid (show DAt w p d X (w.alloc (.cells #[.int .i64 d.vn, .slice X.A d.l.length X.c, .slice X.A2 d.F.length X.c2] 25)) from by rw [HPP.out]; exact H0.out)
    rw [← HPP.out]
    generalize w.alloc (.cells #[.int .i64 d.vn, .slice X.A d.l.length X.c, .slice X.A2 d.F.length X.c2] 25) = w0 at *
    have hn6 : d.F.length ≤ 6 := by omega
    have HZ := Lib.hid (nxD_zero d.l)
    clear hv1 hv2 hn1 hn2
    go_loopw [4, 5] (fun nx i wr => ∃ k : Nat, k ≤ d.l.length ∧ i = .int .i64 k ∧ nx = .int .i64 (nxD d.l k) ∧ Hid (DAt w p d X wr) ∧ ∀ j, j < k → spK d.l j) (fun _ i _ => d.l.length - (intOf i).toNat)
    case atStart => exact ⟨0, by omega, rfl, by rw [HZ.out], H0, fun j h => absurd h (by omega)⟩
    case round =>
      clear H0
      obtain ⟨k, hk, rfl, rfl, HD, hno⟩ := hrel
      have HN := Lib.hid hno
      clear hno
      obtain ⟨⟨x0, x1, x2, xl⟩, -⟩ := HD.out.db.all
      by_cases hlt : k < d.l.length
      · obtain ⟨b, o, hA, hbl, c0, c1, c2⟩ := HD.out.dr.pl.atg hlt
        rw [hA] at x1
        clear hA
        have HB := Lib.hid (HD.out.alloc (.cells #[.int .i64 (sg d.l k).lo, .int .i64 (sg d.l k).hi, .int .i64 (sg d.l k).sh] 43))
        have HX := Lib.hid (nxD_succ d.l k)
        by_cases hs : spK d.l k
        · have HNN := Lib.hid (show ∀ j, j < k + 1 → spK d.l j from fun j h => by
            by_cases e : j = k
            · rw [e]; exact hs
            · exact HN.out j (by omega))
          have h0 : 0 ≤ (sg d.l k).lo := by
            rw [hs.1]
            cases k with
            | zero => rw [nxD_zero]; omega
            | succ k =>
              rw [nxD_succ]
              have hq : ∀ j, j < k + 1 → 0 ≤ (sg d.l j).hi + 1 := fun j => by
                induction j with
                | zero => intro hj; have a := (HN.out 0 hj).1; have b := (HN.out 0 hj).2.1; rw [nxD_zero] at a; omega
                | succ j ih => intro hj; have a := (HN.out (j + 1) hj).1; have b := (HN.out (j + 1) hj).2.1; have c := ih (by omega); rw [nxD_succ] at a; omega
              exact hq k (by omega)
          obtain ⟨h1, h2, h3⟩ := hs
          have hne : ((sg d.l k).lo != nxD d.l k) = false := by simpa using h1
          have h2' : ¬ (sg d.l k).hi < (sg d.l k).lo := by omega
          have h3' : ¬ 65536 ≤ (sg d.l k).hi := by omega
          clear h1
          generalize nxD d.l k = nk at *
          generalize sg d.l k = M at *
          go_wp2
          go_roundw
          case rel => exact ⟨k + 1, by omega, by go_num, by rw [HX.out], HB, HNN.out⟩
          case measure => simp [intOf]; omega
        · have HR := Lib.hid (vaD_cv HRG.out (cvD_no hlt hs))
          by_cases h1 : (sg d.l k).lo = nxD d.l k
          · have hne : ((sg d.l k).lo != nxD d.l k) = false := by simpa using h1
            by_cases h2 : (sg d.l k).hi < (sg d.l k).lo
            · clear h1 hs
              generalize nxD d.l k = nk at *
              generalize sg d.l k = M at *
              go_wp2
              go_ret
              exact ⟨by rw [HVV.out, HR.out]; rfl, HB.out.bel⟩
            · have h3 : 65536 ≤ (sg d.l k).hi := by
                apply Classical.byContradiction
                intro h3
                exact hs ⟨h1, by omega, by omega⟩
              clear h1 hs
              generalize nxD d.l k = nk at *
              generalize sg d.l k = M at *
              go_wp2
              go_ret
              exact ⟨by rw [HVV.out, HR.out]; rfl, HB.out.bel⟩
          · have hne : ((sg d.l k).lo != nxD d.l k) = true := bne_iff_ne.2 h1
            clear h1 hs
            generalize nxD d.l k = nk at *
            generalize sg d.l k = M at *
            go_wp2
            go_ret
            exact ⟨by rw [HVV.out, HR.out]; rfl, HB.out.bel⟩
      · obtain rfl : k = d.l.length := by omega
        have HCV := Lib.hid (cvD_end HN.out)
        by_cases hen : nxD d.l d.l.length = 65536
        · have HC := Lib.hid (show cvD 0 d.l = true by rw [HCV.out]; exact decide_eq_true hen)
          have hne : (nxD d.l d.l.length != 65536) = false := by simpa using hen
          clear hen
          generalize nxD d.l d.l.length = nk at *
          clear hlt hk
          go_wp2
          clear x0 x1 x2 xl hne
          go_loopw [7] (fun i wr => ∃ k : Nat, k ≤ d.l.length ∧ i = .int .i64 k ∧ Hid (DAt w p d X wr) ∧ ∀ j, j < k → slotP d.F.length (sg d.l j).sh) (fun i _ => d.l.length - (intOf i).toNat)
          case atStart => exact ⟨0, by omega, rfl, HD, fun j h => absurd h (by omega)⟩
          case round =>
            clear HD HN
            obtain ⟨k, hk, rfl, HD, hno⟩ := hrel
            have HN := Lib.hid hno
            clear hno
            obtain ⟨⟨x0, x1, x2, xl⟩, -⟩ := HD.out.db.all
            by_cases hlt : k < d.l.length
            · obtain ⟨b, o, hA, hbl, c0, c1, c2⟩ := HD.out.dr.pl.atg hlt
              rw [hA] at x1
              clear hA
              by_cases hs : slotP d.F.length (sg d.l k).sh
              · have HNN := Lib.hid (show ∀ j, j < k + 1 → slotP d.F.length (sg d.l j).sh from fun j h => by
                  by_cases e : j = k
                  · rw [e]; exact hs
                  · exact HN.out j (by omega))
                have h1 : ¬ (sg d.l k).sh < 0 := by have := hs.1; omega
                have h2 : ¬ (d.F.length : Int) ≤ (sg d.l k).sh := by have := hs.2; omega
                clear hs
                generalize sg d.l k = M at *
                go_wp2
                go_roundw
                case rel => exact ⟨k + 1, by omega, by go_num, HD, by have := HNN.out; simpa using this⟩
                case measure => simp [intOf]; omega
              · have HR := Lib.hid (vaD_ms HRG.out HC.out (msD_no hlt hs))
                by_cases h1 : (sg d.l k).sh < 0
                · clear hs
                  generalize sg d.l k = M at *
                  go_wp2
                  go_ret
                  exact ⟨by rw [HVV.out, HR.out]; rfl, HD.out.bel⟩
                · have h2 : (d.F.length : Int) ≤ (sg d.l k).sh := by
                    apply Classical.byContradiction
                    intro h2
                    exact hs ⟨by omega, by omega⟩
                  clear hs
                  generalize sg d.l k = M at *
                  go_wp2
                  go_ret
                  exact ⟨by rw [HVV.out, HR.out]; rfl, HD.out.bel⟩
            · have HM := Lib.hid (msD_iff.2 (fun j hj => HN.out j (by omega) : ∀ j, j < d.l.length → slotP d.F.length (sg d.l j).sh))
              obtain rfl : k = d.l.length := by omega
              clear hlt hk
              go_wp2
              clear x0 x1 x2 xl
              go_loopw [8] (fun i wr => ∃ k : Nat, k ≤ d.l.length ∧ i = .int .i64 k ∧ Hid (DAt w p d X wr) ∧ ∀ j : Nat, j < k → ixS d.l (sg d.l j).sh = (j : Int)) (fun i _ => d.l.length - (intOf i).toNat)
              case atStart => exact ⟨0, by omega, rfl, HD, fun j h => absurd h (by omega)⟩
              case round =>
                clear HD HN
                obtain ⟨k, hk, rfl, HD, hno⟩ := hrel
                have HN := Lib.hid hno
                clear hno
                obtain ⟨⟨x0, x1, x2, xl⟩, -⟩ := HD.out.db.all
                by_cases hlt : k < d.l.length
                · obtain ⟨b, o, hA, hbl, c0, c1, c2⟩ := HD.out.dr.pl.atg hlt
                  have HA := Lib.hid hA
                  have HI := Lib.hid (fun W h => HIX.out p (sg d.l k).sh W h)
                  rw [hA] at x1
                  clear hA
                  have HKA := Lib.hid (fun W (h : Below wr.heap.size wr W) => show IxK p d X b o (d.l.length) X.c (sg d.l k).sh k W from ⟨(HD.out.below h).db.c0, (h.cell (p := ⟨p, 1, none⟩) HD.out.db.lt).trans x1, (HD.out.below h).db.c2, (h.cell (p := ⟨b, o + k * 3 + 2, none⟩) hbl).trans c2⟩)
                  have HB0 := Lib.hid (Below.refl wr.heap.size wr)
                  have HDD := Lib.hid HD.out.drew
                  by_cases he : ixS d.l (sg d.l k).sh = (k : Int)
                  · have HNN := Lib.hid (show ∀ j : Nat, j < k + 1 → ixS d.l (sg d.l j).sh = (j : Int) from fun j h => by
                      by_cases e : j = k
                      · rw [e]; exact he
                      · exact HN.out j (by omega))
                    rw [he] at HI
                    clear he
                    generalize sg d.l k = M at *
                    go_wp2_with fail
                    rw [← HA.out] at x1
                    go_region_held3 (fun W => IxK p d X b o (d.l.length) X.c M.sh k W)
                      ((refine HKA.out _ ?_; repeat' (first | with_reducible exact HB0.out | with_reducible exact HB1.out | with_reducible refine Below.drew ?_)))
                      (first | (go_at_call 54; rw [← HA.out]; (with_reducible refine (HI.out _ HDD.out).mono ?_); rintro e w5 ⟨rfl, hb⟩; have HD5 := Lib.hid (HDD.out.below hb); have HB1 := Lib.hid (((HB0.out.drew).trans hb)); clear hb))
                    go_wp2
                    go_roundw
                    case rel => exact ⟨k + 1, by omega, by go_num, HD5, HNN.out⟩
                    case measure => simp [intOf]; omega
                  · have HR := Lib.hid (vaD_du HRG.out HC.out HM.out (duB_yes (du_ix hlt he)))
                    have hne : (ixS d.l (sg d.l k).sh != (k : Int)) = true := bne_iff_ne.2 he
                    clear he
                    generalize sg d.l k = M at *
                    generalize ixS d.l M.sh = r at *
                    go_wp2_with fail
                    rw [← HA.out] at x1
                    go_region_held3 (fun W => IxK p d X b o (d.l.length) X.c M.sh k W)
                      ((refine HKA.out _ ?_; repeat' (first | with_reducible exact HB0.out | with_reducible exact HB1.out | with_reducible refine Below.drew ?_)))
                      (first | (go_at_call 54; rw [← HA.out]; (with_reducible refine (HI.out _ HDD.out).mono ?_); rintro e w5 ⟨rfl, hb⟩; have HD5 := Lib.hid (HDD.out.below hb); have HB1 := Lib.hid (((HB0.out.drew).trans hb)); clear hb))
                    go_wp2
                    go_ret
                    exact ⟨by rw [HVV.out, HR.out]; rfl, HD5.out.bel⟩
                · have HU := Lib.hid (duB_no (du_ixn (l := d.l) (fun j hj => HN.out j (by omega))))
                  obtain rfl : k = d.l.length := by omega
                  clear hlt hk
                  go_wp2
                  clear x0 x1 x2 xl
                  go_loopw [9] (fun i wr => ∃ k : Nat, k ≤ d.F.length ∧ i = .int .i64 k ∧ Hid (DAt w p d X wr) ∧ ∀ j : Nat, j < k → f1D d.l d.F j) (fun i _ => d.F.length - (intOf i).toNat)
                  case atStart => exact ⟨0, by omega, rfl, HD, fun j h => absurd h (by omega)⟩
                  case round =>
                    clear HD HN
                    obtain ⟨k, hk, rfl, HD, hno⟩ := hrel
                    have HN := Lib.hid hno
                    clear hno
                    obtain ⟨⟨x0, x1, x2, xl⟩, -⟩ := HD.out.db.all
                    by_cases hlt : k < d.F.length
                    · have hltI : (k : Int) < (d.F.length : Int) := by omega
                      obtain ⟨b, o, hA, hbl, c0⟩ := HD.out.dr.fl.atg hlt
                      have HA := Lib.hid hA
                      have HI := Lib.hid (fun W h => HIX.out p (k : Int) W h)
                      have HBD := Lib.hid (fun (h : ¬ f1D d.l d.F k) => vaD_fo HRG.out HC.out HM.out HU.out (foB_no (fun hf => h (hf.1 k hlt))))
                      rw [hA] at x2
                      clear hA
                      by_cases h1 : ig d.F k < -1
                      · have HR := Lib.hid (HBD.out (fun hf => by have := hf.1.1; omega))
                        generalize ig d.F k = y at *
                        go_wp2
                        go_ret
                        exact ⟨by rw [HVV.out, HR.out]; rfl, HD.out.bel⟩
                      · by_cases h2 : (d.F.length : Int) ≤ ig d.F k
                        · have HR := Lib.hid (HBD.out (fun hf => by have := hf.1.2; omega))
                          generalize ig d.F k = y at *
                          go_wp2
                          go_ret
                          exact ⟨by rw [HVV.out, HR.out]; rfl, HD.out.bel⟩
                        · by_cases hh : hasS d.l (k : Int)
                          · by_cases h3 : ig d.F k = -1
                            · have HNN := Lib.hid (show ∀ j : Nat, j < k + 1 → f1D d.l d.F j from fun j h => by
                                by_cases e : j = k
                                · rw [e]; exact ⟨⟨by omega, by omega⟩, fun _ => h3⟩
                                · exact HN.out j (by omega))
                              have hge : 0 ≤ ixS d.l (k : Int) := hh
                              rw [h3] at c0
                              clear h1 h2 hh h3
                              generalize ixS d.l (k : Int) = r at *
                              go_wp2_with fail
                              rw [← HA.out]
                              refine (HI.out _ HD.out).mono ?_
                              rintro e w5 ⟨rfl, hb⟩
                              have HD5 := Lib.hid (HD.out.below hb)
                              have c5 := (hb.cell (p := ⟨b, o + k, none⟩) hbl).trans c0
                              clear hb
                              obtain ⟨⟨y0, y1, y2, yl⟩, -⟩ := HD5.out.db.all
                              rw [HA.out] at y2
                              go_wp2
                              go_roundw
                              case rel => exact ⟨k + 1, by omega, by go_num, HD5, HNN.out⟩
                              case measure => simp [intOf]; omega
                            · have HR := Lib.hid (HBD.out (fun hf => h3 (hf.2 hh)))
                              have hne : (ig d.F k != -1) = true := bne_iff_ne.2 h3
                              have hge : 0 ≤ ixS d.l (k : Int) := hh
                              clear hh h3
                              generalize ixS d.l (k : Int) = r at *
                              generalize ig d.F k = y at *
                              go_wp2_with fail
                              rw [← HA.out]
                              refine (HI.out _ HD.out).mono ?_
                              rintro e w5 ⟨rfl, hb⟩
                              have HD5 := Lib.hid (HD.out.below hb)
                              have c5 := (hb.cell (p := ⟨b, o + k, none⟩) hbl).trans c0
                              clear hb
                              obtain ⟨⟨y0, y1, y2, yl⟩, -⟩ := HD5.out.db.all
                              rw [HA.out] at y2
                              go_wp2
                              go_ret
                              exact ⟨by rw [HVV.out, HR.out]; rfl, HD5.out.bel⟩
                          · have HNN := Lib.hid (show ∀ j : Nat, j < k + 1 → f1D d.l d.F j from fun j h => by
                              by_cases e : j = k
                              · rw [e]; exact ⟨⟨by omega, by omega⟩, fun h3 => absurd h3 hh⟩
                              · exact HN.out j (by omega))
                            rw [(ixS_neg hh).1] at HI
                            clear hh
                            generalize ig d.F k = y at *
                            go_wp2_with fail
                            rw [← HA.out]
                            refine (HI.out _ HD.out).mono ?_
                            rintro e w5 ⟨rfl, hb⟩
                            have HD5 := Lib.hid (HD.out.below hb)
                            clear hb
                            go_wp2
                            go_roundw
                            case rel => exact ⟨k + 1, by omega, by go_num, HD5, HNN.out⟩
                            case measure => simp [intOf]; omega
                    · have HF1 := Lib.hid (show ∀ j : Nat, j < d.F.length → f1D d.l d.F j from fun j hj => HN.out j (by omega))
                      obtain rfl : k = d.F.length := by omega
                      clear hlt hk
                      go_wp2
                      clear x0 x1 x2 xl
                      go_loopw [10] (fun i wr => ∃ k : Nat, k ≤ d.F.length ∧ i = .int .i64 k ∧ Hid (DAt w p d X wr) ∧ ∀ j : Nat, j < k → fwD d.F d.F.length (j : Int) < 0) (fun i _ => d.F.length - (intOf i).toNat)
                      case atStart => exact ⟨0, by omega, rfl, HD, fun j h => absurd h (by omega)⟩
                      case round =>
                        clear HD HN
                        obtain ⟨k, hk, rfl, HD, hno⟩ := hrel
                        have HN := Lib.hid hno
                        clear hno
                        by_cases hlt : k < d.F.length
                        · have hltI : (k : Int) < (d.F.length : Int) := by omega
                          go_wp2
                          go_loopw [11, 12] (fun a c wz => ∃ (m : Nat) (t : Int), m ≤ d.F.length ∧ c = .int .i64 m ∧ a = .int .i64 t ∧ (-1 ≤ t ∧ t < d.F.length) ∧ fwD d.F (d.F.length - m) t = fwD d.F d.F.length (k : Int) ∧ Hid (DAt w p d X wz)) (fun _ c _ => d.F.length - (intOf c).toNat)
                          case atStart => exact ⟨0, (k : Int), by omega, rfl, rfl, ⟨by omega, by omega⟩, by rw [Nat.sub_zero], HD⟩
                          case round =>
                            clear HD
                            obtain ⟨m, t, hm, rfl, rfl, ht, hfw, HD⟩ := hrel
                            have HFW := Lib.hid hfw
                            clear hfw
                            obtain ⟨⟨x0, x1, x2, xl⟩, -⟩ := HD.out.db.all
                            by_cases hml : m < d.F.length
                            · have hmlI : (m : Int) < (d.F.length : Int) := by omega
                              by_cases ht0 : 0 ≤ t
                              · obtain ⟨j, rfl⟩ := Int.eq_ofNat_of_zero_le ht0
                                have hj : j < d.F.length := by omega
                                obtain ⟨b, o, hA, hbl, c0⟩ := HD.out.dr.fl.atg hj
                                rw [hA] at x2
                                clear hA
                                have HNX := Lib.hid (show fwD d.F (d.F.length - (m + 1)) (ig d.F j) = fwD d.F d.F.length (k : Int) from by
                                  rw [← HFW.out, show d.F.length - m = (d.F.length - (m + 1)) + 1 by omega, fwD_pos _ ht0]; rfl)
                                have HYB := Lib.hid (HF1.out j hj).1
                                clear ht
                                generalize ig d.F j = y at *
                                go_wp2
                                go_roundw
                                case rel => exact ⟨m + 1, y, by omega, by go_num, rfl, HYB.out, HNX.out, HD⟩
                                case measure => simp [intOf]; omega
                              · have hlt0 : fwD d.F d.F.length (k : Int) < 0 := by rw [← HFW.out, fwD_neg _ (by omega)]; omega
                                have HNN := Lib.hid (show ∀ j : Nat, j < k + 1 → fwD d.F d.F.length (j : Int) < 0 from fun j h => by
                                  by_cases e : j = k
                                  · rw [e]; exact hlt0
                                  · exact HN.out j (by omega))
                                clear hlt0 ht
                                go_wp2
                                go_roundw
                                case rel => exact ⟨k + 1, by omega, by go_num, HD, HNN.out⟩
                                case measure => simp [intOf]; omega
                            · have hml' : ¬ (m : Int) < (d.F.length : Int) := by omega
                              have hfz : fwD d.F d.F.length (k : Int) = t := by rw [← HFW.out, show d.F.length - m = 0 by omega]; rfl
                              by_cases ht0 : 0 ≤ t
                              · have HR := Lib.hid (vaD_fo HRG.out HC.out HM.out HU.out (foB_no (fun hf => by have := hf.2 k hlt; omega)))
                                clear hfz ht
                                go_wp2
                                go_ret
                                exact ⟨by rw [HVV.out, HR.out]; rfl, HD.out.bel⟩
                              · have HNN := Lib.hid (show ∀ j : Nat, j < k + 1 → fwD d.F d.F.length (j : Int) < 0 from fun j h => by
                                  by_cases e : j = k
                                  · rw [e, hfz]; omega
                                  · exact HN.out j (by omega))
                                clear hfz ht
                                go_wp2
                                go_roundw
                                case rel => exact ⟨k + 1, by omega, by go_num, HD, HNN.out⟩
                                case measure => simp [intOf]; omega
                        · have HR := Lib.hid (vaD_ok HRG.out HC.out HM.out HU.out (foB_yes ⟨HF1.out, fun j hj => HN.out j (by omega)⟩))
                          go_wp2
                          go_ret
                          exact ⟨by rw [HVV.out, HR.out]; rfl, HD.out.bel⟩
        · have HC := Lib.hid (show cvD 0 d.l = false by rw [HCV.out]; exact decide_eq_false hen)
          have hne : (nxD d.l d.l.length != 65536) = true := bne_iff_ne.2 hen
          have HR := Lib.hid (vaD_cv HRG.out HC.out)
          clear hen
          generalize nxD d.l d.l.length = nk at *
          go_wp2
          go_ret
          exact ⟨by rw [HVV.out, HR.out]; rfl, HD.out.bel⟩
  · have HR := Lib.hid (vaD_1 hr)
    rcases rg_not hr with h1 | ⟨h1, h2⟩ | ⟨h1, h2, h3⟩ | ⟨h1, h2, h3, h4⟩ <;> clear hr
    all_goals
      go_enter Try.func31, Try.ntmps31
      go_wp2
      go_ret
      exact ⟨by rw [HVV.out, HR.out]; rfl, H0.out.bel⟩
end Go.Proofs.Ytfkpkmcpepeaeaa
namespace Go.Proofs.Ytfkpkmcpepeaeaa
open Go.RowKit
set_option linter.unusedVariables false

def MuP (n : Nat) (w : World) (e : Ending) (w' : World) : Prop := e = .returned (.tuple #[.int .u64 0, .int .u64 (n : Int)]) ∧ w = w'
set_option maxHeartbeats 8000000 in
set_option maxRecDepth 200000 in
theorem mul64_one (n : Nat) (hn : n ≤ 6) (w : World) : Calls Try.prog 79 #[.int .u64 1, .int .u64 (n : Int)] w (MuP n w) := by
  have hc : n = 0 ∨ n = 1 ∨ n = 2 ∨ n = 3 ∨ n = 4 ∨ n = 5 ∨ n = 6 := by omega
  clear hn
  rcases hc with rfl | rfl | rfl | rfl | rfl | rfl | rfl
  all_goals
    go_enter Try.func79, Try.ntmps79
    go_wp2
    go_ret2
    exact ⟨rfl, rfl⟩
theorem mul_one (n : Nat) (hn : n ≤ 6) (w : World) : Calls Try.prog 53 #[.int .u64 1, .int .u64 (n : Int)] w (MuP n w) := by
  have HL := Lib.hid (mul64_one n hn)
  have h0 : (0 : Int) ≤ n := by omega
  have h1 : (n : Int) ≤ 6 := by omega
  clear hn
  go_enter Try.func53, Try.ntmps53
  go_wp2_with fail
  refine (HL.out _).mono ?_
  rintro e w1 ⟨rfl, rfl⟩
  go_wp2
  go_ret2
  exact ⟨rfl, rfl⟩
end Go.Proofs.Ytfkpkmcpepeaeaa
namespace Go.Proofs.Ytfkpkmcpepeaeaa
open Go.RowKit
set_option linter.unusedVariables false

def RpTru (_ : World) : Prop := True
theorem run_make_ints (n : Nat) (h : n ≤ 1000000) (w : World) : (Instr.makeSlice 23 (.int .i64 n) (.int .i64 n)).run Try.prog w = .ok (.slice (some ⟨w.heap.size, 0, none⟩) n n) (w.alloc (.cells (madeCells #[.int .i64 0] (n * 1)) 3)) := by
  obtain ⟨i0, hi0, hz0⟩ := Option.map_eq_some_iff.1 info_ni
  simp only [Prod.mk.injEq] at hz0
  have hr := run_make (P := Try.prog) w 23 3 i0 (.int .i64 0) Try.underlying23 hi0 hz0.1 .i64 .i64 n n (by omega) (Int.le_refl _) (by rw [hz0.2.2]; omega) (by omega)
  simp only [Int.toNat_natCast] at hr
  rw [hz0.2.1] at hr
  exact hr
/-- The loop's row: k numbers are laid. -/
structure RpAt (w : World) (g n k : Nat) (W : World) : Prop where
  k0 : 1 ≤ k
  kn : k ≤ n
  row : ∃ cur, Rw W g 3 cur ∧ cur.length = n ∧ cur.take k = ics (List.replicate k (-1))
  bel : Below g w W
  gw : g = w.heap.size
theorem ics_rep_add (a b : Nat) : ics (List.replicate a (-1)) ++ ics (List.replicate b (-1)) = ics (List.replicate (a + b) (-1)) := by
  rw [← ics_app, List.replicate_append_replicate]
theorem rp_start {w W0 : World} {g n : Nat} {cur : List Value} (h1 : 1 ≤ n) (hg : g = w.heap.size) (hr : Rw W0 g 3 cur) (hl : cur.length = n) (hb : Below g w W0) : RpAt w g n 1 (W0.setRow g (splice cur 0 (ics [-1])).toArray) := by
  refine ⟨Nat.le_refl _, h1, ⟨_, Rw.set hr 0 _, by rw [splice_len _ _ _ (by rw [hl]; exact h1), hl], ?_⟩, hb.grown (grown_setRow W0 g _) (by rw [hg]; exact hb.size) (fun k e => by injection e with e; subst e; exact Nat.le_refl _), hg⟩
  unfold splice; rfl
theorem rp_fin {w W : World} {g n : Nat} (h : RpAt w g n n W) (hm : n ≤ maxLen) : NIClP w (List.replicate n (-1)) (.returned (.slice (some ⟨g, 0, none⟩) n n)) W := by
  obtain ⟨cur, hr, hl, ht⟩ := h.row
  have hb := h.bel
  have hg := h.gw
  subst hg
  refine ⟨_, rfl, ?_, hb⟩
  rw [List.length_replicate]
  exact Rw.own hr (Nat.le_refl _) (Nat.le_refl _) hm (by rw [hl, Nat.mul_one]) (by rw [Nat.mul_one]; exact ht)
theorem rp_step {w W : World} {g n k m : Nat} (h : RpAt w g n k W) (hm : Nat.min k (n - k) = m) : (∀ ty, (Builtin.copy_ #[23, 23] ty #[.slice (some ⟨g, k, none⟩) (n - k) (n - k), .slice (some ⟨g, 0, none⟩) k n]).run Try.prog W.drew = .ok (goInt m) (W.drew.setRow g (splice (h.row.choose) k (ics (List.replicate m (-1)))).toArray)) ∧ (k < n → RpAt w g n (k + m) (W.drew.setRow g (splice (h.row.choose) k (ics (List.replicate m (-1)))).toArray)) := by
  obtain ⟨hr, hl, ht⟩ := h.row.choose_spec
  generalize h.row.choose = cur at *
  have hk0 := h.k0
  have hkn := h.kn
  have hmm : m ≤ k ∧ m ≤ n - k := ⟨hm ▸ Nat.min_le_left _ _, hm ▸ Nat.min_le_right _ _⟩
  have hlm : (ics (List.replicate m (-1))).length = m := by rw [ics_len]; simp
  constructor
  · intro ty
    rw [← hm]
    rw [← hm] at hlm hmm
    exact run_copy_sized W.drew 23 23 ty 3 1 g k (n - k) (n - k) ⟨g, 0, none⟩ k n cur 3 _ Try.underlying23 (by obtain ⟨i0, hi0, hz0⟩ := Option.map_eq_some_iff.1 info_ni; simp only [Prod.mk.injEq] at hz0; rw [hi0]; simp [hz0.2.1]) hr (by rw [hlm, Nat.mul_one]) (fun j v hj => by
      rw [add_mk, Nat.zero_add]
      have hjm : j < Nat.min k (n - k) := by have := (List.getElem?_eq_some_iff.1 hj).1; rw [hlm] at this; exact this
      refine Rw.cell hr ?_
      have h1 : cur[j]? = (cur.take k)[j]? := by rw [List.getElem?_take_of_lt (by omega)]
      rw [h1, ht, ← hj]
      have hjk : j < k := by have := hmm.1; omega
      simp [ics, List.getElem?_replicate, hjk]
      exact hjm) (by rw [hlm, hl]; omega) (ics_one _)
  · intro hkn'
    refine ⟨by omega, by omega, ⟨_, Rw.set (show Rw W.drew g 3 cur from hr) k _, by rw [splice_len _ _ _ (by rw [hlm, hl]; omega), hl], ?_⟩, h.bel.drew.grown (grown_setRow W.drew g _) (by rw [h.gw]; exact h.bel.size) (fun k e => by injection e with e; subst e; exact Nat.le_refl _), h.gw⟩
    rw [← ics_rep_add, ← ht]
    unfold splice
    rw [← List.append_assoc]
    exact List.take_left' (by rw [List.length_append, hlm, List.length_take, hl, Nat.min_eq_left hkn])

set_option maxHeartbeats 4000000 in
set_option maxRecDepth 20000 in
theorem repeat_one (xb n : Nat) (w : World) (h1 : 1 ≤ n) (h6 : n ≤ 6) (hx : w.cell? ⟨xb, 0, none⟩ = some (.int .i64 (-1))) (hl : xb < w.heap.size) :
    Calls Try.prog 27 #[.slice (some ⟨xb, 0, none⟩) 1 1, .int .i64 (n : Int)] w (NIClP w (List.replicate n (-1))) := by
  have HM := Lib.hid (mul_one n h6)
  have h0 : ((n : Int) < 0) = False := by simp
  have hc1 : IntKind.u64.wrap (n : Int) = n := by rw [IntKind.wrap_u64]; omega
  have hc2 : IntKind.i64.wrap (n : Int) = n := IntWalk.i64_in _ (by omega)
  have hn2 : ¬ ((9223372036854775807 : Int) < n) := by omega
  obtain ⟨g, hg⟩ : ∃ g, g = w.heap.size := ⟨_, rfl⟩
  have hmk := run_make_ints n (by omega) w
  rw [← hg] at hmk
  obtain ⟨W0, hW0⟩ : ∃ W0, W0 = w.alloc (.cells (madeCells #[.int .i64 0] (n * 1)) 3) := ⟨_, rfl⟩
  have hR0 : Rw W0 g 3 (madeCells #[.int .i64 0] (n * 1)).toList := by rw [hW0, hg]; exact Rw.fresh w _ _
  have hL0 : (madeCells #[.int .i64 0] (n * 1)).toList.length = n := by simp [size_madeCells]
  have hB0 : Below g w W0 := by rw [hW0, hg]; exact (Below.refl _ _).alloc (Nat.le_refl _) _
  rw [← hW0] at hmk
  generalize (madeCells #[.int .i64 0] (n * 1)).toList = cur0 at *
  have hcp : ∀ ty, (Builtin.copy_ #[23, 23] ty #[.slice (some ⟨g, 0, none⟩) n n, .slice (some ⟨xb, 0, none⟩) 1 1]).run Try.prog W0 = .ok (goInt (Nat.min 1 n)) (W0.setRow g (splice cur0 0 (ics [-1])).toArray) := fun ty =>
    run_copy_sized W0 23 23 ty 3 1 g 0 n n ⟨xb, 0, none⟩ 1 1 cur0 3 (ics [-1]) Try.underlying23 (by obtain ⟨i0, hi0, hz0⟩ := Option.map_eq_some_iff.1 info_ni; simp only [Prod.mk.injEq] at hz0; rw [hi0]; simp [hz0.2.1]) hR0 (by rw [show Nat.min 1 n = 1 from Nat.min_eq_left h1]; rfl) (fun j v hj => by
      rw [add_mk, Nat.zero_add]
      cases j with
      | zero => exact (hB0.cell (p := ⟨xb, 0, none⟩) (by rw [hg]; exact hl)).trans (by rw [hx]; exact hj)
      | succ j => simp [ics] at hj) (by rw [hL0]; exact h1) (ics_one _)
  rw [show Nat.min 1 n = 1 from Nat.min_eq_left h1] at hcp
  have HS := Lib.hid (rp_start h1 hg hR0 hL0 hB0)
  generalize W0.setRow g (splice cur0 0 (ics [-1])).toArray = W1 at *
  clear hR0 hL0 hB0 hW0 hx hl
  have HG := Lib.hid hg
  clear hg
  go_enter Try.func27, Try.ntmps27
  go_wp2_with fail
  refine (HM.out _).mono ?_
  rintro e w1 ⟨rfl, rfl⟩
  go_wp2_with fail
  go_loopw [8] (fun kv wr => ∃ k : Nat, kv = .int .i64 k ∧ Hid (RpAt w g n k wr)) (fun kv _ => n - (intOf kv).toNat)
  case atStart => exact ⟨1, rfl, HS⟩
  case round =>
    obtain ⟨k, rfl, HR⟩ := hrel
    by_cases hkn : k < n
    · obtain ⟨m, hm⟩ : ∃ m, Nat.min k (n - k) = m := ⟨_, rfl⟩
      obtain ⟨hcp2, hnx⟩ := rp_step HR.out hm
      have HN := Lib.hid (hnx hkn)
      have HMM := Lib.hid (show 1 ≤ m ∧ k + m ≤ n by have := HR.out.k0; rw [← hm]; show 1 ≤ min k (n - k) ∧ k + min k (n - k) ≤ n; omega)
      have hsum : IntKind.i64.wrap ((k : Int) + (m : Int)) = ((k + m : Nat) : Int) := by rw [IntWalk.i64_in _ (by have := HMM.out; omega)]; omega
      have hsum2 : wrap64 ((k : Int) + (m : Int)) = ((k + m : Nat) : Int) := by rw [IntWalk.wrap64_in _ (by have := HMM.out; omega)]; omega
      generalize wr.drew.setRow g _ = W2 at *
      have hlt : (k : Int) < (n : Int) := by omega
      have hle : k ≤ n := by omega
      have hnk : ¬ n = k := by omega
      clear hnx hm hcp hmk
      go_wp2
      go_region_held3 (fun W => RpTru W) (exact trivial) (first | (fail))
      go_wp2
      go_roundw
      case rel => exact ⟨k + m, by rw [Int.natCast_add], HN⟩
      case measure => have := HMM.out; simp [intOf]; omega
    · have hke : k = n := by have := HR.out.kn; omega
      subst hke
      have HF := Lib.hid (rp_fin HR.out (by unfold maxLen; omega))
      clear hkn
      have hlt : ¬ ((k : Int) < (k : Int)) := by omega
      go_wp2
      go_ret
      exact HF.out
end Go.Proofs.Ytfkpkmcpepeaeaa
