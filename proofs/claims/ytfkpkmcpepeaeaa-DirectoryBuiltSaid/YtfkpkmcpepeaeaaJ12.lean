/- What is proved here: ref10.Apply by a contract; ref10.Owner, Span, Home, Same by contracts; ref10.Home by a contract. -/
import Derived.Test.YtfkpkmcpepeaeaaJ08
import Derived.Test.YtfkpkmcpepeaeaaJ09
import Derived.Deep.QuietTactic
import Derived.BigQuiet
import Derived.Test.YtfkpkmcpepeaeaaJ10
import Derived.Test.YtfkpkmcpepeaeaaJ11
namespace Go.Proofs.Ytfkpkmcpepeaeaa
open Go.RowKit
set_option linter.unusedVariables false

set_option maxHeartbeats 16000000 in
set_option maxRecDepth 20000 in
theorem rapply10_any (d : Dd) (X : Dx) (e : Ed) (w : World) (hd : DR w w.heap.size d X) (hl : d.l.length ≤ 90) :
    Calls Try.prog 28 #[dv d X, e.v] w (DE w.heap.size w (apD d e) (apE d e)) := by
  have H0 := Lib.hid (Ab.start d X e hd)
  have HVA := Lib.hid (fun p q r W (k : Ab w p q r d X e W) => rvalid10_any d X W k.da.dr)
  have HHL := Lib.hid hl
  have HDR := Lib.hid hd
  obtain ⟨p, hp⟩ : ∃ p, p = w.heap.size := ⟨_, rfl⟩
  obtain ⟨q, hq⟩ : ∃ q, q = w.heap.size + 1 := ⟨_, rfl⟩
  obtain ⟨r, hr⟩ : ∃ r, r = w.heap.size + 1 + 1 := ⟨_, rfl⟩
  have HPP := Lib.hid (show (p = w.heap.size ∧ q = w.heap.size + 1 ∧ r = w.heap.size + 1 + 1) ∧ (¬ p = q ∧ ¬ q = p ∧ ¬ p = r ∧ ¬ r = p ∧ ¬ q = r ∧ ¬ r = q) by omega)
  obtain ⟨R, hR⟩ : ∃ R, R = apD d e := ⟨_, rfl⟩
  obtain ⟨x, hx⟩ : ∃ x, x = apE d e := ⟨_, rfl⟩
  rw [← hR, ← hx]
  have HRX := Lib.hid (And.intro hR hx)
  clear hR hx hp hq hr hd hl
  by_cases hv : vaD d = 0
  · rw [hv] at HVA
    by_cases h6 : d.vn = 1099511627776
    · have HRE := Lib.hid (show x = 6 ∧ R = zD10 from by
        have h7 : apE d e = 6 := by rw [apE_N (by rw [apN_6 hv h6]; decide), apN_6 hv h6]
        exact ⟨HRX.out.2.trans h7, by rw [HRX.out.1, apD_no (by rw [h7]; decide)]⟩)
      have h6' : (d.vn == 1099511627776) = true := by simpa using h6
      clear hv h6
      go_enter Try.func28, Try.ntmps28
      go_wp2_with fail
      have H0 := Lib.hid (show Ab w p q r d X e (((w.alloc (.cells #[.int .i64 d.vn, .slice X.A d.l.length X.c, .slice X.A2 d.F.length X.c2] 25)).alloc (.cells #[.int .i64 e.kd, .int .i64 e.fr, .int .i64 e.to, .int .i64 e.md] 27)).alloc (.cells #[.int .i64 0, .slice none 0 0, .slice none 0 0] 25)) from by rw [HPP.out.1.1, HPP.out.1.2.1, HPP.out.1.2.2]; exact H0.out)
      rw [← HPP.out.1.2.2, ← HPP.out.1.2.1, ← HPP.out.1.1]
      generalize ((w.alloc (.cells #[.int .i64 d.vn, .slice X.A d.l.length X.c, .slice X.A2 d.F.length X.c2] 25)).alloc (.cells #[.int .i64 e.kd, .int .i64 e.fr, .int .i64 e.to, .int .i64 e.md] 27)).alloc (.cells #[.int .i64 0, .slice none 0 0, .slice none 0 0] 25) = w0 at *
      refine (HVA.out _ _ _ _ H0.out).mono ?_
      rintro e1 w1 ⟨rfl, hb⟩
      have H1 := Lib.hid (H0.out.below hb)
      clear hb H0 HVA
      obtain ⟨x0, x1, x2, -, xl⟩ := H1.out.da.db
      obtain ⟨y0, y1, y2, y3, yl⟩ := H1.out.eb
      obtain ⟨⟨r0, r1, r2, rl⟩, g0, g1, g2⟩ := H1.out.rb.all
      have HO := Lib.hid (H1.out.out0 6)
      go_wp2
      exact bodyPost_ret (v := .tuple #[.agg #[.int .i64 0, .slice none 0 0, .slice none 0 0], .int .i64 6]) (by simp only [results, Try.results28]; go_simp <;> rfl) rfl (by rw [HRE.out.1, HRE.out.2]; exact HO.out)
    · have h6' : (d.vn == 1099511627776) = false := by simpa using h6
      by_cases hk : e.kd = 1 ∨ e.kd = 2
      · have hkk : (e.kd != 1) = false ∨ ((e.kd != 1) = true ∧ (e.kd != 2) = false) := by
          rcases hk with h | h
          · left; simpa using h
          · right; rw [h]; decide
        by_cases hs : slotP d.F.length e.fr ∧ slotP d.F.length e.to
        · rw [HRX.out.1, HRX.out.2]
          rcases hk with hk | hk
          · exact rap_split d X e w HDR.out HHL.out hv h6 hk hs
          · by_cases hcs : ixS d.l e.fr - ixS d.l e.to = 1
            · exact rap_me1 d X e w HDR.out HHL.out hv h6 hk hs hcs
            · exact rap_me2 d X e w HDR.out HHL.out hv h6 hk hs hcs
        · have HRE := Lib.hid (show x = 4 ∧ R = zD10 from by
            have h7 : apE d e = 4 := by
              have h8 : apN d e = 4 := apN_4 hv h6 hk (by
                by_cases h : slotP d.F.length e.fr
                · exact .inr (fun g => hs ⟨h, g⟩)
                · exact .inl h)
              rw [apE_N (by rw [h8]; decide), h8]
            exact ⟨HRX.out.2.trans h7, by rw [HRX.out.1, apD_no (by rw [h7]; decide)]⟩)
          have hw : e.fr < 0 ∨ (0 ≤ e.fr ∧ (d.F.length : Int) ≤ e.fr) ∨ (0 ≤ e.fr ∧ e.fr < (d.F.length : Int) ∧ e.to < 0) ∨ (0 ≤ e.fr ∧ e.fr < (d.F.length : Int) ∧ 0 ≤ e.to ∧ (d.F.length : Int) ≤ e.to) := by
            unfold slotP at hs
            omega
          clear hv h6 hk hs
          rcases hkk with k1 | ⟨k1, k2⟩
          all_goals
            rcases hw with s1 | ⟨s1, s2⟩ | ⟨s1, s2, s3⟩ | ⟨s1, s2, s3, s4⟩
            all_goals
              go_enter Try.func28, Try.ntmps28
              go_wp2_with fail
              have H0 := Lib.hid (show Ab w p q r d X e (((w.alloc (.cells #[.int .i64 d.vn, .slice X.A d.l.length X.c, .slice X.A2 d.F.length X.c2] 25)).alloc (.cells #[.int .i64 e.kd, .int .i64 e.fr, .int .i64 e.to, .int .i64 e.md] 27)).alloc (.cells #[.int .i64 0, .slice none 0 0, .slice none 0 0] 25)) from by rw [HPP.out.1.1, HPP.out.1.2.1, HPP.out.1.2.2]; exact H0.out)
              rw [← HPP.out.1.2.2, ← HPP.out.1.2.1, ← HPP.out.1.1]
              generalize ((w.alloc (.cells #[.int .i64 d.vn, .slice X.A d.l.length X.c, .slice X.A2 d.F.length X.c2] 25)).alloc (.cells #[.int .i64 e.kd, .int .i64 e.fr, .int .i64 e.to, .int .i64 e.md] 27)).alloc (.cells #[.int .i64 0, .slice none 0 0, .slice none 0 0] 25) = w0 at *
              refine (HVA.out _ _ _ _ H0.out).mono ?_
              rintro e1 w1 ⟨rfl, hb⟩
              have H1 := Lib.hid (H0.out.below hb)
              clear hb H0 HVA
              obtain ⟨x0, x1, x2, -, xl⟩ := H1.out.da.db
              obtain ⟨y0, y1, y2, y3, yl⟩ := H1.out.eb
              obtain ⟨⟨r0, r1, r2, rl⟩, g0, g1, g2⟩ := H1.out.rb.all
              have HO := Lib.hid (H1.out.out0 4)
              go_wp2
              exact bodyPost_ret (v := .tuple #[.agg #[.int .i64 0, .slice none 0 0, .slice none 0 0], .int .i64 4]) (by simp only [results, Try.results28]; go_simp <;> rfl) rfl (by rw [HRE.out.1, HRE.out.2]; exact HO.out)
      · have HRE := Lib.hid (show x = 9 ∧ R = zD10 from by
          have h7 : apE d e = 9 := by rw [apE_N (by rw [apN_9 hv h6 (by omega)]; decide), apN_9 hv h6 (by omega)]
          exact ⟨HRX.out.2.trans h7, by rw [HRX.out.1, apD_no (by rw [h7]; decide)]⟩)
        have k1 : (e.kd != 1) = true := bne_iff_ne.2 (fun h => hk (.inl h))
        have k2 : (e.kd != 2) = true := bne_iff_ne.2 (fun h => hk (.inr h))
        clear hv h6 hk
        go_enter Try.func28, Try.ntmps28
        go_wp2_with fail
        have H0 := Lib.hid (show Ab w p q r d X e (((w.alloc (.cells #[.int .i64 d.vn, .slice X.A d.l.length X.c, .slice X.A2 d.F.length X.c2] 25)).alloc (.cells #[.int .i64 e.kd, .int .i64 e.fr, .int .i64 e.to, .int .i64 e.md] 27)).alloc (.cells #[.int .i64 0, .slice none 0 0, .slice none 0 0] 25)) from by rw [HPP.out.1.1, HPP.out.1.2.1, HPP.out.1.2.2]; exact H0.out)
        rw [← HPP.out.1.2.2, ← HPP.out.1.2.1, ← HPP.out.1.1]
        generalize ((w.alloc (.cells #[.int .i64 d.vn, .slice X.A d.l.length X.c, .slice X.A2 d.F.length X.c2] 25)).alloc (.cells #[.int .i64 e.kd, .int .i64 e.fr, .int .i64 e.to, .int .i64 e.md] 27)).alloc (.cells #[.int .i64 0, .slice none 0 0, .slice none 0 0] 25) = w0 at *
        refine (HVA.out _ _ _ _ H0.out).mono ?_
        rintro e1 w1 ⟨rfl, hb⟩
        have H1 := Lib.hid (H0.out.below hb)
        clear hb H0 HVA
        obtain ⟨x0, x1, x2, -, xl⟩ := H1.out.da.db
        obtain ⟨y0, y1, y2, y3, yl⟩ := H1.out.eb
        obtain ⟨⟨r0, r1, r2, rl⟩, g0, g1, g2⟩ := H1.out.rb.all
        have HO := Lib.hid (H1.out.out0 9)
        go_wp2
        exact bodyPost_ret (v := .tuple #[.agg #[.int .i64 0, .slice none 0 0, .slice none 0 0], .int .i64 9]) (by simp only [results, Try.results28]; go_simp <;> rfl) rfl (by rw [HRE.out.1, HRE.out.2]; exact HO.out)
  · have HRE := Lib.hid (show x = vaD d ∧ R = zD10 from by
      have h7 : apE d e = vaD d := by rw [apE_N (by rw [apN_va hv]; exact hv), apN_va hv]
      exact ⟨HRX.out.2.trans h7, by rw [HRX.out.1, apD_no (by rw [h7]; exact hv)]⟩)
    have hne : (vaD d != 0) = true := bne_iff_ne.2 hv
    clear hv
    generalize vaD d = v at *
    go_enter Try.func28, Try.ntmps28
    go_wp2_with fail
    have H0 := Lib.hid (show Ab w p q r d X e (((w.alloc (.cells #[.int .i64 d.vn, .slice X.A d.l.length X.c, .slice X.A2 d.F.length X.c2] 25)).alloc (.cells #[.int .i64 e.kd, .int .i64 e.fr, .int .i64 e.to, .int .i64 e.md] 27)).alloc (.cells #[.int .i64 0, .slice none 0 0, .slice none 0 0] 25)) from by rw [HPP.out.1.1, HPP.out.1.2.1, HPP.out.1.2.2]; exact H0.out)
    rw [← HPP.out.1.2.2, ← HPP.out.1.2.1, ← HPP.out.1.1]
    generalize ((w.alloc (.cells #[.int .i64 d.vn, .slice X.A d.l.length X.c, .slice X.A2 d.F.length X.c2] 25)).alloc (.cells #[.int .i64 e.kd, .int .i64 e.fr, .int .i64 e.to, .int .i64 e.md] 27)).alloc (.cells #[.int .i64 0, .slice none 0 0, .slice none 0 0] 25) = w0 at *
    refine (HVA.out _ _ _ _ H0.out).mono ?_
    rintro e1 w1 ⟨rfl, hb⟩
    have H1 := Lib.hid (H0.out.below hb)
    clear hb H0 HVA
    obtain ⟨x0, x1, x2, -, xl⟩ := H1.out.da.db
    obtain ⟨y0, y1, y2, y3, yl⟩ := H1.out.eb
    obtain ⟨⟨r0, r1, r2, rl⟩, g0, g1, g2⟩ := H1.out.rb.all
    have HO := Lib.hid (H1.out.out0 v)
    go_wp2
    exact bodyPost_ret (v := .tuple #[.agg #[.int .i64 0, .slice none 0 0, .slice none 0 0], .int .i64 v]) (by simp only [results, Try.results28]; go_simp <;> rfl) rfl (by rw [HRE.out.1, HRE.out.2]; exact HO.out)
end Go.Proofs.Ytfkpkmcpepeaeaa
namespace Go.Proofs.Ytfkpkmcpepeaeaa
open Go.RowKit
set_option linter.unusedVariables false

set_option maxHeartbeats 4000000 in
set_option maxRecDepth 20000 in
theorem rowner_any (d : Dd) (X : Dx) (r : Int) (w : World) (hd : DR w w.heap.size d X) :
    Calls Try.prog 32 #[dv d X, .int .i64 r] w (VlX w (ownD d r)) := by
  have H0 := Lib.hid (DAt.start 25 hd)
  have HVA := Lib.hid (fun p W (k : DAt w p d X W) => rvalid10_any d X W k.dr)
  have hL : d.l.length ≤ 9223372036854775807 := by have h2 := hd.pl.len.2.2; have h1 := hd.pl.len.2.1; unfold maxLen at h2; omega
  obtain ⟨p, hp⟩ : ∃ p, p = w.heap.size := ⟨_, rfl⟩
  obtain ⟨R, hR⟩ : ∃ R, R = ownD d r := ⟨_, rfl⟩
  rw [← hR]
  have HRR := Lib.hid hR
  have HPP := Lib.hid hp
  clear hd hR hp
  by_cases hv : vaD d = 0
  · rw [hv] at HVA
    have HOK := Lib.hid (ownD_ok hv r)
    clear hv
    go_enter Try.func32, Try.ntmps32
    go_wp2
    have H0 := Lib.hid (show DAt w p d X (w.alloc (.cells #[.int .i64 d.vn, .slice X.A d.l.length X.c, .slice X.A2 d.F.length X.c2] 25)) from by rw [HPP.out]; exact H0.out)
    rw [← HPP.out]
    generalize w.alloc (.cells #[.int .i64 d.vn, .slice X.A d.l.length X.c, .slice X.A2 d.F.length X.c2] 25) = w0 at *
    go_loopw [5] (fun i wr => ∃ k : Nat, k ≤ d.l.length ∧ i = .int .i64 k ∧ Hid (DAt w p d X wr) ∧ ∀ j, j < k → ¬ ((sg d.l j).lo ≤ r ∧ r ≤ (sg d.l j).hi)) (fun i _ => d.l.length - (intOf i).toNat)
    case atStart => exact ⟨0, by omega, rfl, H0, fun j h => absurd h (by omega)⟩
    case round =>
      obtain ⟨k, hk, rfl, HD, hno⟩ := hrel
      have HN := Lib.hid hno
      clear hno H0
      obtain ⟨⟨x0, x1, x2, xl⟩, -⟩ := HD.out.db.all
      by_cases hlt : k < d.l.length
      · have hltI : (k : Int) < (d.l.length : Int) := by omega
        go_wp2_with fail
        refine (HVA.out _ _ HD.out).mono ?_
        rintro e w1 ⟨rfl, hb⟩
        have H1 := Lib.hid (HD.out.below hb)
        clear hb x0 x1 x2 xl HD
        obtain ⟨⟨x0, x1, x2, xl⟩, -⟩ := H1.out.db.all
        obtain ⟨b, o, hA, hbl, c0, c1, c2⟩ := H1.out.dr.pl.atg hlt
        rw [hA] at x1
        clear hA
        by_cases hh : (sg d.l k).lo ≤ r ∧ r ≤ (sg d.l k).hi
        · have HR := Lib.hid (owN_hit hlt hh HN.out)
          obtain ⟨h1, h2⟩ := hh
          generalize sg d.l k = M at *
          go_wp2
          go_ret
          exact ⟨by rw [HRR.out, HOK.out, HR.out]; rfl, H1.out.bel⟩
        · have HNN := Lib.hid (show ∀ j, j < k + 1 → ¬ ((sg d.l j).lo ≤ r ∧ r ≤ (sg d.l j).hi) from fun j h => by
            by_cases e : j = k
            · rw [e]; exact hh
            · exact HN.out j (by omega))
          by_cases h1 : (sg d.l k).lo ≤ r
          · have h2 : ¬ r ≤ (sg d.l k).hi := fun h => hh ⟨h1, h⟩
            clear hh
            generalize sg d.l k = M at *
            go_wp2
            go_roundw
            case rel => exact ⟨k + 1, by omega, by go_num, H1, by have := HNN.out; simpa using this⟩
            case measure => simp [intOf]; omega
          · clear hh
            generalize sg d.l k = M at *
            go_wp2
            go_roundw
            case rel => exact ⟨k + 1, by omega, by go_num, H1, by have := HNN.out; simpa using this⟩
            case measure => simp [intOf]; omega
      · have HR := Lib.hid (owN_none (l := d.l) (r := r) (fun j hj => HN.out j (by omega)))
        have hltI : ¬ (k : Int) < (d.l.length : Int) := by omega
        go_wp2
        go_ret
        exact ⟨by rw [HRR.out, HOK.out, HR.out]; rfl, HD.out.bel⟩
  · have hne : (vaD d == 0) = false := by simpa using hv
    have HNO := Lib.hid (ownD_no hv r)
    clear hv
    generalize vaD d = v at *
    go_enter Try.func32, Try.ntmps32
    go_wp2
    have H0 := Lib.hid (show DAt w p d X (w.alloc (.cells #[.int .i64 d.vn, .slice X.A d.l.length X.c, .slice X.A2 d.F.length X.c2] 25)) from by rw [HPP.out]; exact H0.out)
    rw [← HPP.out]
    generalize w.alloc (.cells #[.int .i64 d.vn, .slice X.A d.l.length X.c, .slice X.A2 d.F.length X.c2] 25) = w0 at *
    go_loopw [5] (fun i wr => i = .int .i64 0 ∧ Hid (DAt w p d X wr)) (fun _ _ => 0)
    case atStart => exact ⟨rfl, H0⟩
    case round =>
      obtain ⟨rfl, HD⟩ := hrel
      clear H0
      obtain ⟨⟨x0, x1, x2, xl⟩, -⟩ := HD.out.db.all
      by_cases h0 : (0 : Int) < (d.l.length : Int)
      · go_wp2_with fail
        refine (HVA.out _ _ HD.out).mono ?_
        rintro e w1 ⟨rfl, hb⟩
        have H1 := Lib.hid (HD.out.below hb)
        clear hb x0 x1 x2 xl HD
        go_wp2
        go_ret
        exact ⟨by rw [HRR.out, HNO.out]; rfl, H1.out.bel⟩
      · have h0' : d.l.length = 0 := by omega
        have h0'' : ¬ 0 < d.l.length := by omega
        clear h0'
        go_wp2
        go_ret
        exact ⟨by rw [HRR.out, HNO.out]; rfl, HD.out.bel⟩

/-- A span and whether there is one, as a result. -/
def SpX (w : World) (s : Sp) (b : Bool) (e : Ending) (w' : World) : Prop := e = .returned (.tuple #[s.v, .bool b]) ∧ Below w.heap.size w w'
/-- A result box of a span behind a directory's box. -/
structure DSX (w : World) (p q : Nat) (d : Dd) (X : Dx) (W : World) : Prop where
  da : DAt w p d X W
  c0 : W.cell? ⟨q, 0, none⟩ = some (.int .i64 0)
  c1 : W.cell? ⟨q, 1, none⟩ = some (.int .i64 0)
  c2 : W.cell? ⟨q, 2, none⟩ = some (.int .i64 0)
  fr : ∀ o, W.frozen? ⟨q, o, none⟩ = false
  lt : q < W.heap.size
  old : w.heap.size ≤ q
theorem DSX.below {w W W' : World} {p q : Nat} {d : Dd} {X : Dx} (h : DSX w p q d X W) (hb : Below W.heap.size W W') : DSX w p q d X W' :=
  ⟨h.da.below hb, (hb.cell (p := ⟨q, 0, none⟩) h.lt).trans h.c0, (hb.cell (p := ⟨q, 1, none⟩) h.lt).trans h.c1, (hb.cell (p := ⟨q, 2, none⟩) h.lt).trans h.c2, fun o => (hb.frozen (p := ⟨q, o, none⟩) h.lt).trans (h.fr o), Nat.lt_of_lt_of_le h.lt hb.size, h.old⟩
theorem DSX.all {w W : World} {p q : Nat} {d : Dd} {X : Dx} (h : DSX w p q d X W) : (W.cell? ⟨q, 0, none⟩ = some (.int .i64 0) ∧ W.cell? ⟨q, 1, none⟩ = some (.int .i64 0) ∧ W.cell? ⟨q, 2, none⟩ = some (.int .i64 0) ∧ q < W.heap.size) ∧ W.frozen? ⟨q, 0, none⟩ = false ∧ W.frozen? ⟨q, 1, none⟩ = false ∧ W.frozen? ⟨q, 2, none⟩ = false := ⟨⟨h.c0, h.c1, h.c2, h.lt⟩, h.fr 0, h.fr 1, h.fr 2⟩
theorem DSX.out {w W : World} {p q : Nat} {d : Dd} {X : Dx} (h : DSX w p q d X W) (a b c : Value) : Below w.heap.size w (((W.setCell ⟨q, 0, none⟩ a).setCell ⟨q, 1, none⟩ b).setCell ⟨q, 2, none⟩ c) :=
  ((h.da.bel.setCell (p := ⟨q, 0, none⟩) h.old _).setCell (p := ⟨q, 1, none⟩) h.old _).setCell (p := ⟨q, 2, none⟩) h.old _
theorem DSX.start {w : World} {d : Dd} {X : Dx} (t u : TypeId) (h : DR w w.heap.size d X) : DSX w w.heap.size (w.heap.size + 1) d X ((w.alloc (.cells #[.int .i64 d.vn, .slice X.A d.l.length X.c, .slice X.A2 d.F.length X.c2] t)).alloc (.cells #[.int .i64 0, .int .i64 0, .int .i64 0] u)) := by
  refine ⟨(DAt.start t h).alloc _, by simp [go_sem], by simp [go_sem], by simp [go_sem], fun o => by simp [go_sem], by simp, by omega⟩
set_option maxHeartbeats 4000000 in
set_option maxRecDepth 20000 in
theorem rspan10_any (d : Dd) (X : Dx) (s : Int) (w : World) (hd : DR w w.heap.size d X) :
    Calls Try.prog 29 #[dv d X, .int .i64 s] w (SpX w (spnD d s) (spnB d s)) := by
  have H0 := Lib.hid (DSX.start 25 43 hd)
  have HVA := Lib.hid (fun p W (k : DAt w p d X W) => rvalid10_any d X W k.dr)
  have HFD := Lib.hid (fun p W (k : DAt w p d X W) => rindex10_any d X s W k.dr)
  obtain ⟨p, hp⟩ : ∃ p, p = w.heap.size := ⟨_, rfl⟩
  obtain ⟨q, hq⟩ : ∃ q, q = w.heap.size + 1 := ⟨_, rfl⟩
  obtain ⟨R, hR⟩ : ∃ R, R = spnD d s := ⟨_, rfl⟩
  obtain ⟨R2, hR2⟩ : ∃ R2, R2 = spnB d s := ⟨_, rfl⟩
  rw [← hR, ← hR2]
  have HRR := Lib.hid (And.intro hR hR2)
  have HPP := Lib.hid (show p = w.heap.size ∧ q = w.heap.size + 1 ∧ ¬ p = q ∧ ¬ q = p by omega)
  clear hd hR hR2 hp hq
  by_cases hv : vaD d = 0
  · rw [hv] at HVA
    by_cases hi : 0 ≤ ixS d.l s
    · obtain ⟨k, hk, hkl, -, -⟩ := ixS_pos hi
      have HRS := Lib.hid (show spnD d s = sg d.l k ∧ spnB d s = true from ⟨by unfold spnD; rw [if_pos ⟨hv, hi⟩, hk]; rfl, by unfold spnB; exact decide_eq_true ⟨hv, hi⟩⟩)
      have hkl' : (k : Int) < (d.l.length : Int) := by omega
      rw [hk] at HFD
      clear hi hk hv
      go_enter Try.func29, Try.ntmps29
      obtain ⟨⟨x0, x1, x2, xl⟩, -⟩ := H0.out.da.db.all
      go_wp2_with fail
      clear x0 x1 x2 xl
      have H0 := Lib.hid (show DSX w p q d X ((w.alloc (.cells #[.int .i64 d.vn, .slice X.A d.l.length X.c, .slice X.A2 d.F.length X.c2] 25)).alloc (.cells #[.int .i64 0, .int .i64 0, .int .i64 0] 43)) from by rw [HPP.out.1, HPP.out.2.1]; exact H0.out)
      rw [← HPP.out.2.1, ← HPP.out.1]
      generalize (w.alloc (.cells #[.int .i64 d.vn, .slice X.A d.l.length X.c, .slice X.A2 d.F.length X.c2] 25)).alloc (.cells #[.int .i64 0, .int .i64 0, .int .i64 0] 43) = w0 at *
      refine (HFD.out _ _ H0.out.da).mono ?_
      rintro e w1 ⟨rfl, hb⟩
      have H1 := Lib.hid (H0.out.below hb)
      clear hb H0 HFD
      obtain ⟨⟨x0, x1, x2, xl⟩, -⟩ := H1.out.da.db.all
      go_wp2_with fail
      refine (HVA.out _ _ H1.out.da).mono ?_
      rintro e w2 ⟨rfl, hb⟩
      have H2 := Lib.hid (H1.out.below hb)
      clear hb H1 HVA x0 x1 x2 xl
      obtain ⟨b, o, hA, hbl, c0, c1, c2⟩ := H2.out.da.dr.pl.atg hkl
      obtain ⟨⟨x0, x1, x2, xl⟩, -⟩ := H2.out.da.db.all
      obtain ⟨⟨y0, y1, y2, yl⟩, f0, f1, f2⟩ := H2.out.all
      obtain ⟨-, -, hpq, hqp⟩ := HPP.out
      have HO := Lib.hid (H2.out.out (.int .i64 (sg d.l k).lo) (.int .i64 (sg d.l k).hi) (.int .i64 (sg d.l k).sh))
      rw [hA] at x1
      clear hA
      generalize sg d.l k = M at *
      go_wp2
      exact bodyPost_ret (v := .tuple #[M.v, .bool true]) (by simp only [results, Try.results29]; go_simp <;> rfl) rfl ⟨by rw [HRR.out.1, HRR.out.2, HRS.out.1, HRS.out.2], HO.out⟩
    · have HRS := Lib.hid (show spnD d s = zSp ∧ spnB d s = false from ⟨by unfold spnD; rw [if_neg (fun h => hi h.2)], by unfold spnB; exact decide_eq_false (fun h => hi h.2)⟩)
      rw [(ixS_neg hi).1] at HFD
      clear hi hv
      go_enter Try.func29, Try.ntmps29
      obtain ⟨⟨x0, x1, x2, xl⟩, -⟩ := H0.out.da.db.all
      go_wp2_with fail
      clear x0 x1 x2 xl
      refine (HFD.out _ _ H0.out.da).mono ?_
      rintro e w1 ⟨rfl, hb⟩
      have H1 := Lib.hid (H0.out.below hb)
      clear hb H0 HFD
      obtain ⟨⟨x0, x1, x2, xl⟩, -⟩ := H1.out.da.db.all
      go_wp2_with fail
      refine (HVA.out _ _ H1.out.da).mono ?_
      rintro e w2 ⟨rfl, hb⟩
      have H2 := Lib.hid (H1.out.below hb)
      clear hb H1 HVA x0 x1 x2 xl
      obtain ⟨⟨y0, y1, y2, yl⟩, f0, f1, f2⟩ := H2.out.all
      have HO := Lib.hid (H2.out.out (.int .i64 0) (.int .i64 0) (.int .i64 0))
      go_wp2
      exact bodyPost_ret (v := .tuple #[zSp.v, .bool false]) (by simp only [results, Try.results29]; go_simp <;> rfl) rfl ⟨by rw [HRR.out.1, HRR.out.2, HRS.out.1, HRS.out.2], HO.out⟩
  · have hne : (vaD d != 0) = true := bne_iff_ne.2 hv
    have HRS := Lib.hid (show spnD d s = zSp ∧ spnB d s = false from ⟨by unfold spnD; rw [if_neg (fun h => hv h.1)], by unfold spnB; exact decide_eq_false (fun h => hv h.1)⟩)
    clear hv
    generalize vaD d = v at *
    generalize ixS d.l s = ix at *
    go_enter Try.func29, Try.ntmps29
    obtain ⟨⟨x0, x1, x2, xl⟩, -⟩ := H0.out.da.db.all
    go_wp2_with fail
    clear x0 x1 x2 xl
    refine (HFD.out _ _ H0.out.da).mono ?_
    rintro e w1 ⟨rfl, hb⟩
    have H1 := Lib.hid (H0.out.below hb)
    clear hb H0 HFD
    obtain ⟨⟨x0, x1, x2, xl⟩, -⟩ := H1.out.da.db.all
    go_wp2_with fail
    refine (HVA.out _ _ H1.out.da).mono ?_
    rintro e w2 ⟨rfl, hb⟩
    have H2 := Lib.hid (H1.out.below hb)
    clear hb H1 HVA x0 x1 x2 xl
    obtain ⟨⟨y0, y1, y2, yl⟩, f0, f1, f2⟩ := H2.out.all
    have HO := Lib.hid (H2.out.out (.int .i64 0) (.int .i64 0) (.int .i64 0))
    go_wp2
    exact bodyPost_ret (v := .tuple #[zSp.v, .bool false]) (by simp only [results, Try.results29]; go_simp <;> rfl) rfl ⟨by rw [HRR.out.1, HRR.out.2, HRS.out.1, HRS.out.2], HO.out⟩
end Go.Proofs.Ytfkpkmcpepeaeaa
namespace Go.Proofs.Ytfkpkmcpepeaeaa
open Go.RowKit
set_option linter.unusedVariables false

set_option maxHeartbeats 4000000 in
set_option maxRecDepth 20000 in
theorem rhome10_any (d : Dd) (X : Dx) (s : Int) (w : World) (hd : DR w w.heap.size d X) :
    Calls Try.prog 34 #[dv d X, .int .i64 s] w (VlX w (homD d s)) := by
  have H0 := Lib.hid (DAt.start 25 hd)
  have HVA := Lib.hid (fun p W (k : DAt w p d X W) => rvalid10_any d X W k.dr)
  have HFD := Lib.hid (fun t p W (k : DAt w p d X W) => rindex10_any d X t W k.dr)
  have HAT := Lib.hid (fun p W (k : DAt w p d X W) (j : Nat) (hj : j < d.F.length) => k.dr.fl.atg hj)
  obtain ⟨p, hp⟩ : ∃ p, p = w.heap.size := ⟨_, rfl⟩
  obtain ⟨R, hR⟩ : ∃ R, R = homD d s := ⟨_, rfl⟩
  rw [← hR]
  have HRR := Lib.hid hR
  have HPP := Lib.hid hp
  clear hd hR hp
  by_cases hg : vaD d = 0 ∧ slotP d.F.length s
  · obtain ⟨hv, hs⟩ := hg
    rw [hv] at HVA
    have HOK := Lib.hid (ok_va hv)
    have HI := Lib.hid (HmI.start hv hs)
    rw [← HRR.out] at HI
    have hs0 := hs.1
    have hs1 := hs.2
    clear hv hs
    go_enter Try.func34, Try.ntmps34
    obtain ⟨⟨x0, x1, x2, xl⟩, -⟩ := H0.out.db.all
    go_wp2_with fail
    clear x0 x1 x2 xl
    have H0 := Lib.hid (show DAt w p d X (w.alloc (.cells #[.int .i64 d.vn, .slice X.A d.l.length X.c, .slice X.A2 d.F.length X.c2] 25)) from by rw [HPP.out]; exact H0.out)
    rw [← HPP.out]
    generalize w.alloc (.cells #[.int .i64 d.vn, .slice X.A d.l.length X.c, .slice X.A2 d.F.length X.c2] 25) = w0 at *
    refine (HVA.out _ _ H0.out).mono ?_
    rintro e w1 ⟨rfl, hb⟩
    have H1 := Lib.hid (H0.out.below hb)
    clear hb H0 HVA
    obtain ⟨⟨x0, x1, x2, xl⟩, -⟩ := H1.out.db.all
    go_wp2_with fail
    clear x0 x1 x2 xl hs0 hs1
    go_loopw [1] (fun x wr => ∃ (k : Nat) (t : Int), x = .int .i64 t ∧ k ≤ d.F.length ∧ Hid (DAt w p d X wr) ∧ Hid (HmI d k t R)) (fun x wr => stD d.F d.F.length (intOf x))
    case atStart => exact ⟨d.F.length, s, rfl, Nat.le_refl _, H1, HI⟩
    case round =>
      clear H1 HI
      obtain ⟨k, t, rfl, hkn, HD, HI⟩ := hrel
      by_cases ht0 : 0 ≤ t
      · have ht1 : t < d.F.length := HI.out.1.2
        obtain ⟨⟨x0, x1, x2, xl⟩, -⟩ := HD.out.db.all
        by_cases hh : hasS d.l t
        · have HR := Lib.hid (HI.out.hit ht0 hh)
          have HF := Lib.hid (fun W h => HFD.out t p W h)
          have hge : 0 ≤ ixS d.l t := hh
          clear hh
          generalize ixS d.l t = y at *
          go_wp2_with fail
          refine (HF.out _ HD.out).mono ?_
          rintro e w3 ⟨rfl, hb⟩
          have H3 := Lib.hid (HD.out.below hb)
          clear hb
          go_wp2
          go_ret
          exact ⟨by rw [HR.out]; rfl, H3.out.bel⟩
        · obtain ⟨k', hk', HN⟩ := HI.out.next HOK.out ht0 hh
          have HN := Lib.hid HN
          have HLT := Lib.hid (stD_next (n := d.F.length) ht0 (by have := HI.out.2.1; rwa [hk'] at this) (by omega))
          have HF := Lib.hid (fun W h => HFD.out t p W h)
          rw [(ixS_neg hh).1] at HF
          have hkn' : k' ≤ d.F.length := by omega
          clear hh hk' HI
          obtain ⟨j, rfl⟩ := Int.eq_ofNat_of_zero_le ht0
          have hj : j < d.F.length := by omega
          go_wp2_with fail
          refine (HF.out _ HD.out).mono ?_
          rintro e w3 ⟨rfl, hb⟩
          have H3 := Lib.hid (HD.out.below hb)
          clear hb x0 x1 x2 xl
          obtain ⟨b, o, hA, hbl, c0⟩ := HAT.out _ _ H3.out j hj
          obtain ⟨⟨x0, x1, x2, xl⟩, -⟩ := H3.out.db.all
          rw [hA] at x2
          clear hA
          have HN := Lib.hid (show HmI d k' (ig d.F j) R from HN.out)
          have HLT := Lib.hid (show stD d.F d.F.length (ig d.F j) < stD d.F d.F.length (j : Int) from HLT.out)
          generalize ig d.F j = y at *
          go_wp2
          go_roundw
          case rel => exact ⟨k', y, rfl, hkn', H3, HN⟩
          case measure => exact HLT.out
      · have hneg : t < 0 := by omega
        have HR := Lib.hid (HI.out.last hneg)
        obtain ⟨rfl, -⟩ := HI.out.last hneg
        clear ht0 hneg
        go_wp2
        go_ret
        exact ⟨by rw [HR.out.2]; rfl, HD.out.bel⟩
  · have HR := Lib.hid (show R = -1 from by rw [HRR.out]; exact if_neg hg)
    have hc : (vaD d != 0) = true ∨ ((vaD d != 0) = false ∧ (s < 0 ∨ (0 ≤ s ∧ (d.F.length : Int) ≤ s))) := by
      by_cases hv : vaD d = 0
      · right
        have hs : ¬ slotP d.F.length s := fun h => hg ⟨hv, h⟩
        unfold slotP at hs
        exact ⟨by simp [hv], by omega⟩
      · left; exact bne_iff_ne.2 hv
    clear hg
    generalize vaD d = v at *
    rcases hc with q1 | ⟨q1, q2 | ⟨q2, q3⟩⟩
    all_goals
      go_enter Try.func34, Try.ntmps34
      obtain ⟨⟨x0, x1, x2, xl⟩, -⟩ := H0.out.db.all
      go_wp2_with fail
      clear x0 x1 x2 xl
      have H0 := Lib.hid (show DAt w p d X (w.alloc (.cells #[.int .i64 d.vn, .slice X.A d.l.length X.c, .slice X.A2 d.F.length X.c2] 25)) from by rw [HPP.out]; exact H0.out)
      rw [← HPP.out]
      generalize w.alloc (.cells #[.int .i64 d.vn, .slice X.A d.l.length X.c, .slice X.A2 d.F.length X.c2] 25) = w0 at *
      refine (HVA.out _ _ H0.out).mono ?_
      rintro e w1 ⟨rfl, hb⟩
      have H1 := Lib.hid (H0.out.below hb)
      clear hb H0 HVA
      obtain ⟨⟨x0, x1, x2, xl⟩, -⟩ := H1.out.db.all
      go_wp2
      go_ret
      exact ⟨by rw [HR.out]; rfl, H1.out.bel⟩
end Go.Proofs.Ytfkpkmcpepeaeaa
