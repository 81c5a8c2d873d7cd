/- What is proved here: shardqueueref06.Validate by a contract; Purged of message, by one contract for all arguments; Twd. -/
import Derived.Test.YtjclhlejbidpgaaGreatJ06
import Derived.Test.YtjclhlejbidpgaaGreatJ08
import Derived.Deep.QuietTactic
import Derived.BigQuiet
import Derived.Deep.RegionHeld3
import Derived.Test.YtjclhlejbidpgaaGreatJ03
namespace Go.Proofs.YtjclhlejbidpgaaGreat
open Go.RowKit
set_option linter.unusedVariables false

theorem El.some_ {w : World} {B n c : Nat} {A : Option Addr} {l : List Le} (h : El w B (.slice A n c) l) (h0 : 0 < l.length) : ∃ b o, A = some ⟨b, o, none⟩ ∧ b < B := by
  obtain ⟨b, o, e, hb, _⟩ := h.at_ h0
  exact ⟨b, o, e, hb⟩
theorem El.c8 {w : World} {B n c b o : Nat} {l : List Le} (h : El w B (.slice (some ⟨b, o, none⟩) n c) l) {k : Nat} (hk : k < l.length) : C8 w b (o + k * 8) l[k] ∧ b < B := by
  obtain ⟨b', o', e, hb, h⟩ := h.at_ hk
  injection e with e
  injection e with e1 e2
  subst e1 e2
  exact ⟨h, hb⟩
theorem El.up {w w' : World} {v : Value} {l : List Le} (h : El w w.heap.size v l) (hb : Below w.heap.size w w') : El w' w'.heap.size v l := (h.below hb).more hb.size
/-- A table in a box, beside what was there. -/
structure VaA (w : World) (p : Nat) (A : Option Addr) (c : Nat) (l : List Le) (A2 : Option Addr) (c2 : Nat) (h : List Du) (W : World) : Prop where
  tb : TB W p A l.length c A2 h.length c2
  el : El W W.heap.size (.slice A l.length c) l
  dl : Dl W W.heap.size (.slice A2 h.length c2) h
  bel : Below w.heap.size w W
section
variable {w W W' : World} {p c c2 : Nat} {A A2 : Option Addr} {l : List Le} {h : List Du}
theorem VaA.below (k : VaA w p A c l A2 c2 h W) (hb : Below W.heap.size W W') : VaA w p A c l A2 c2 h W' :=
  ⟨k.tb.below hb k.tb.2.2, k.el.up hb, k.dl.up hb, k.bel.trans (hb.mono k.bel.size)⟩
theorem VaA.alloc (k : VaA w p A c l A2 c2 h W) (o : Obj) : VaA w p A c l A2 c2 h (W.alloc o) := k.below ((Below.refl W.heap.size W).alloc (Nat.le_refl _) o)
theorem VaA.start (t : TypeId) (hv : El w w.heap.size (.slice A l.length c) l) (hd : Dl w w.heap.size (.slice A2 h.length c2) h) : VaA w w.heap.size A c l A2 c2 h (w.alloc (.cells #[.slice A l.length c, .slice A2 h.length c2] t)) := by
  have hb := (Below.refl w.heap.size w).alloc (Nat.le_refl _) (.cells #[.slice A l.length c, .slice A2 h.length c2] t)
  exact ⟨TB.start w A l.length c A2 h.length c2 t, hv.up hb, hd.up hb, hb⟩
end
theorem leS_first {l : List Le} {i : Nat} (hi : i < l.length) (hc : leC l i ≠ 0) : ∀ d j, j + d = i → (∀ k, j ≤ k → k < i → leC l k = 0) → leS l j = leC l i
  | 0, j, e, _ => by
    obtain rfl : j = i := by omega
    exact leS_bad hi hc
  | d + 1, j, e, h => by
    rw [leS_good (by omega) (h j (Nat.le_refl _) (by omega))]
    exact leS_first hi hc d (j + 1) (by omega) fun k h1 h2 => h k (by omega) h2
theorem tbV_2 {l : List Le} {h : List Du} (h1 : 12 < l.length) : tbV l h = 2 := if_pos h1
theorem tbV_le {l : List Le} {h : List Du} (h1 : ¬ 12 < l.length) {i : Nat} (hi : i < l.length) (hc : leC l i ≠ 0) (hn : ∀ k, k < i → leC l k = 0) : tbV l h = leC l i := by
  have e := leS_first hi hc i 0 (by omega) fun k _ hk => hn k hk
  unfold tbV
  rw [if_neg h1, e, if_pos hc]
theorem tbV_va {l : List Le} {h : List Du} (h1 : ¬ 12 < l.length) (h2 : leS l 0 = 0) (h3 : vaF h ≠ 0) : tbV l h = vaF h := by
  unfold tbV
  rw [if_neg h1, if_neg (by simpa using h2), if_pos h3]
theorem tbV_7 {l : List Le} {h : List Du} (h1 : ¬ 12 < l.length) (h2 : leS l 0 = 0) (h3 : vaF h = 0) (h4 : ofT (l.map Le.du) h = false) : tbV l h = 7 := by
  unfold tbV
  rw [if_neg h1, if_neg (by simpa using h2), if_neg (by simpa using h3), if_pos h4]
theorem tbV_0 {l : List Le} {h : List Du} (h1 : ¬ 12 < l.length) (h2 : leS l 0 = 0) (h3 : vaF h = 0) (h4 : ofT (l.map Le.du) h = true) : tbV l h = 0 := by
  unfold tbV
  rw [if_neg h1, if_neg (by simpa using h2), if_neg (by simpa using h3), if_neg (by simp [h4])]

theorem leC_of {l : List Le} {i : Nat} {X : Le} (hx : lg l i = X) : leC l i = if vf X.m ≠ 0 then vf X.m else if X.m.gn = 0 then 7 else if X.dl < 0 ∨ 1073741824 < X.dl then 1 else if 0 < i ∧ X.id ≤ (lg l (i - 1)).id then 11 else 0 := by unfold leC; rw [hx]
/-- What is read of a lease in its box. -/
abbrev XB (W : World) (q : Nat) (X : Le) : Prop := W.cell? ⟨q, 0, none⟩ = some (.int .i64 X.m.id) ∧ W.cell? ⟨q, 4, none⟩ = some (.int .i64 X.m.gn) ∧ W.cell? ⟨q, 7, none⟩ = some (.int .i64 X.dl) ∧ q < W.heap.size
theorem XB.start (w : World) (X : Le) (t : TypeId) : XB (w.alloc (.cells #[.int .i64 X.m.id, .int .i64 X.m.rt, .int .i64 X.m.ep, .int .i64 X.m.ct, .int .i64 X.m.gn, .int .i64 X.m.st, .string X.m.bd, .int .i64 X.dl] t)) w.heap.size X :=
  ⟨by simp [go_sem], by simp [go_sem], by simp [go_sem], by simp⟩
theorem XB.below {B : Nat} {W W' : World} {q : Nat} {X : Le} (h : XB W q X) (hb : Below B W W') (hq : q < B) : XB W' q X :=
  ⟨(hb.cell (p := ⟨q, 0, none⟩) hq).trans h.1, (hb.cell (p := ⟨q, 4, none⟩) hq).trans h.2.1, (hb.cell (p := ⟨q, 7, none⟩) hq).trans h.2.2.1, Nat.lt_of_lt_of_le h.2.2.2 hb.size⟩
theorem VaA.drewN {w W : World} {p c c2 : Nat} {A A2 : Option Addr} {l : List Le} {h : List Du} (k : VaA w p A c l A2 c2 h W) (n : Nat) : VaA w p A c l A2 c2 h (W.drewN n) := k.below (below_drewN (Below.refl _ _) n)

set_option maxHeartbeats 8000000 in
set_option maxRecDepth 20000 in
theorem rtvalid_any (A : Option Addr) (n c : Nat) (l : List Le) (A2 : Option Addr) (n2 c2 : Nat) (h : List Du) (w : World) (hv : El w w.heap.size (.slice A n c) l) (hd : Dl w w.heap.size (.slice A2 n2 c2) h) :
    Calls Tryz.prog 15 #[tv A n c A2 n2 c2] w fun e w' => e = .returned (.int .i64 (tbV l h)) ∧ Below w.heap.size w w' := by
  obtain ⟨rfl, hm1, hm2⟩ := hv.len
  obtain ⟨rfl, hm3, hm4⟩ := hd.len
  have hL : l.length ≤ 9223372036854775807 := by unfold maxLen at hm2; omega
  have hH : h.length ≤ 9223372036854775807 := by unfold maxLen at hm4; omega
  have H0 := Lib.hid (VaA.start 25 hv hd)
  clear hv hd hm1 hm2 hm3 hm4
  by_cases h12 : 12 < l.length
  · have HR := Lib.hid (tbV_2 (h := h) h12)
    have h12' : (12 : Int) < (l.length : Int) := by omega
    have HB := Lib.hid H0.out.bel
    obtain ⟨t0, t1, tl⟩ := H0.out.tb
    clear h12
    go_enter Tryz.func15, Tryz.ntmps15
    go_wp2
    go_ret
    exact ⟨by rw [HR.out]; rfl, HB.out⟩
  · have h12' : ¬ (12 : Int) < (l.length : Int) := by omega
    have hl12 : (l.length : Int) ≤ 12 := by omega
    have H12 := Lib.hid h12
    clear h12
    go_enter Tryz.func15, Tryz.ntmps15
    obtain ⟨t0, t1, tl⟩ := H0.out.tb
    go_wp2
    obtain ⟨p, hp⟩ : ∃ p, p = w.heap.size := ⟨_, rfl⟩
    rw [← hp] at H0 ⊢
    clear t0 t1 tl hp
    generalize w.alloc (.cells #[.slice A l.length c, .slice A2 h.length c2] 25) = w1 at *
    go_loopw [3] (fun iv wr => ∃ i : Nat, iv = .int .i64 i ∧ i ≤ l.length ∧ (∀ k, k < i → leC l k = 0) ∧ VaA w p A c l A2 c2 h wr) (fun iv _ => l.length - (intOf iv).toNat)
    case atStart => exact ⟨0, rfl, Nat.zero_le _, fun k hk => absurd hk (Nat.not_lt_zero _), H0.out⟩
    case round =>
      obtain ⟨i, rfl, hi, hn, hs⟩ := hrel
      have HN := Lib.hid hn
      have HS := Lib.hid hs
      obtain ⟨t0, t1, tl⟩ := hs.tb
      clear hn hs
      by_cases hlt : i < l.length
      · have hlt' : (i : Int) < (l.length : Int) := by omega
        obtain ⟨b, o, rfl, _⟩ := HS.out.el.some_ (by omega)
        obtain ⟨⟨c0, c1, c2', c3, c4, c5, c6, c7⟩, hb⟩ := HS.out.el.c8 hlt
        obtain ⟨X, hX⟩ : ∃ X, l[i] = X := ⟨_, rfl⟩
        rw [hX] at c0 c1 c2' c3 c4 c5 c6 c7
        have HX := Lib.hid (show lg l i = X by rw [← lg_get hlt]; exact hX)
        clear hX
        have HQ := Lib.hid (HS.out.alloc (.cells #[.int .i64 X.m.id, .int .i64 X.m.rt, .int .i64 X.m.ep, .int .i64 X.m.ct, .int .i64 X.m.gn, .int .i64 X.m.st, .string X.m.bd, .int .i64 X.dl] 39))
        have HXB := Lib.hid (XB.start wr X 39)
        have HM := Lib.hid (fun W => rvalidate_any X.m W)
        go_wp2_with fail
        clear c0 c1 c2' c3 c4 c5 c6 c7 t0 t1 tl
        obtain ⟨q, hq⟩ : ∃ q, q = wr.heap.size := ⟨_, rfl⟩
        rw [← hq] at HXB ⊢
        clear hq hb
        generalize wr.alloc (.cells #[.int .i64 X.m.id, .int .i64 X.m.rt, .int .i64 X.m.ep, .int .i64 X.m.ct, .int .i64 X.m.gn, .int .i64 X.m.st, .string X.m.bd, .int .i64 X.dl] 39) = w2 at *
        by_cases hv : vf X.m = 0
        · rw [hv] at HM
          have HV := Lib.hid hv
          clear hv
          refine (HM.out _).mono ?_
          rintro e w3 ⟨rfl, hb⟩
          have HS3 := Lib.hid (HQ.out.below hb)
          have HB3 := Lib.hid HS3.out.bel
          obtain ⟨x0, x4, x7, xl⟩ := HXB.out.below hb HXB.out.2.2.2
          obtain ⟨t0, t1, tl⟩ := HS3.out.tb
          obtain ⟨⟨c0, c1, c2', c3, c4, c5, c6, c7⟩, hb'⟩ := HS3.out.el.c8 hlt
          clear hb c0 c1 c2' c3 c4 c5 c6 c7
          by_cases hg : X.m.gn = 0
          · have HR := Lib.hid (show tbV l h = 7 from by
              have e : leC l i = 7 := by rw [leC_of HX.out, if_neg (by simpa using HV.out), if_pos hg]
              exact (tbV_le H12.out hlt (by rw [e]; decide) HN.out).trans e)
            rw [hg] at x4
            clear hg
            go_wp2
            go_ret
            exact ⟨by rw [HR.out]; rfl, HB3.out⟩
          · have HG := Lib.hid hg
            have hg' : (X.m.gn == 0) = false := by simpa using hg
            clear hg
            by_cases hd : X.dl < 0 ∨ 1073741824 < X.dl
            · have HR := Lib.hid (show tbV l h = 1 from by
                have e : leC l i = 1 := by rw [leC_of HX.out, if_neg (by simpa using HV.out), if_neg HG.out, if_pos hd]
                exact (tbV_le H12.out hlt (by rw [e]; decide) HN.out).trans e)
              by_cases hd1 : X.dl < 0
              · clear hd
                go_wp2
                go_ret
                exact ⟨by rw [HR.out]; rfl, HB3.out⟩
              · have hd2 : 1073741824 < X.dl := by omega
                clear hd
                go_wp2
                go_ret
                exact ⟨by rw [HR.out]; rfl, HB3.out⟩
            · have HD := Lib.hid hd
              have hd1 : ¬ X.dl < 0 := by omega
              have hd2 : ¬ 1073741824 < X.dl := by omega
              clear hd
              by_cases hi0 : i = 0
              · have e : leC l i = 0 := by rw [leC_of HX.out, if_neg (by simpa using HV.out), if_neg HG.out, if_neg HD.out, if_neg (by omega)]
                have HE := Lib.hid e
                have hgi : decide (0 < i) = false := decide_eq_false (by omega)
                clear e hi0
                go_wp2_with fail
                go_quiet (fail)
                have HS4 := Lib.hid (HS3.out.drewN nq)
                go_wp2
                go_roundw
                case rel => exact ⟨i + 1, by go_num, by omega, fun k hk => by
                  by_cases ek : k = i
                  · subst ek; exact HE.out
                  · exact HN.out k (by omega), HS4.out⟩
                case measure => simp [intOf]; omega
              · obtain ⟨t, ht⟩ : ∃ t, t = i - 1 := ⟨_, rfl⟩
                have hw : IntKind.i64.wrap ((i : Int) - 1) = (t : Int) := by rw [show (i : Int) - 1 = (t : Int) by omega]; exact IntWalk.i64_in _ (by omega)
                have htl : t < l.length := by omega
                have htl' : (t : Int) < (l.length : Int) := by omega
                obtain ⟨⟨d0, -⟩, _⟩ := HS3.out.el.c8 htl
                obtain ⟨Y, hY⟩ : ∃ Y, l[t] = Y := ⟨_, rfl⟩
                rw [hY] at d0
                have HY := Lib.hid (show lg l (i - 1) = Y by rw [← ht, ← lg_get htl]; exact hY)
                have hgi : decide (0 < i) = true := decide_eq_true (by omega)
                have HI := Lib.hid (show 0 < i by omega)
                clear hY ht hi0
                by_cases ho : X.m.id ≤ Y.m.id
                · have HR := Lib.hid (show tbV l h = 11 from by
                    have e : leC l i = 11 := by rw [leC_of HX.out, if_neg (by simpa using HV.out), if_neg HG.out, if_neg HD.out, HY.out, if_pos ⟨HI.out, ho⟩]
                    exact (tbV_le H12.out hlt (by rw [e]; decide) HN.out).trans e)
                  go_wp2_with fail
                  go_quiet (fail)
                  have HB4 := Lib.hid (HS3.out.drewN nq).bel
                  go_wp2
                  go_ret
                  exact ⟨by rw [HR.out]; rfl, HB4.out⟩
                · have HE := Lib.hid (show leC l i = 0 by rw [leC_of HX.out, if_neg (by simpa using HV.out), if_neg HG.out, if_neg HD.out, HY.out, if_neg (fun hh => ho hh.2)])
                  go_wp2_with fail
                  go_quiet (fail)
                  have HS4 := Lib.hid (HS3.out.drewN nq)
                  go_wp2
                  go_roundw
                  case rel => exact ⟨i + 1, by go_num, by omega, fun k hk => by
                    by_cases ek : k = i
                    · subst ek; exact HE.out
                    · exact HN.out k (by omega), HS4.out⟩
                  case measure => simp [intOf]; omega
        · have HR := Lib.hid (show tbV l h = vf X.m from by
            have e : leC l i = vf X.m := by rw [leC_of HX.out, if_pos hv]
            exact (tbV_le H12.out hlt (by rw [e]; exact hv) HN.out).trans e)
          obtain ⟨y, hy⟩ : ∃ y, y = vf X.m := ⟨_, rfl⟩
          rw [← hy] at HM HR hv
          have hv' : (y != 0) = true := by simpa using hv
          clear hy hv
          refine (HM.out _).mono ?_
          rintro e w3 ⟨rfl, hb⟩
          have HS3 := Lib.hid (HQ.out.below hb)
          have HB3 := Lib.hid HS3.out.bel
          clear hb
          go_wp2
          go_ret
          exact ⟨by rw [HR.out]; rfl, HB3.out⟩
      · obtain rfl : i = l.length := by omega
        have HL := Lib.hid (show leS l 0 = 0 from (leS_zero _ 0 rfl).2 fun k _ hk => HN.out k hk)
        clear hlt
        have HM := Lib.hid (fun W (hd : Dl W W.heap.size (.slice A2 h.length c2) h) => rvalid5_any A2 h.length c2 h W hd)
        by_cases hv : vaF h = 0
        · rw [hv] at HM
          have HV := Lib.hid hv
          clear hv
          go_wp2_with fail
          refine (HM.out _ HS.out.dl).mono ?_
          rintro e w3 ⟨rfl, hb⟩
          have HS3 := Lib.hid (HS.out.below hb)
          have HB3 := Lib.hid HS3.out.bel
          clear hb t0 t1 tl
          obtain ⟨t0, t1, tl⟩ := HS3.out.tb
          by_cases hn : h.length = l.length
          · have hn' : ((h.length : Int) != (l.length : Int)) = false := by simp [hn]
            have HLN := Lib.hid hn
            clear hn
            go_wp2
            go_loopw [7] (fun iv wr => ∃ i : Nat, iv = .int .i64 i ∧ i ≤ h.length ∧ (∀ k, k < i → ge h k ∈ l.map Le.du) ∧ VaA w p A c l A2 c2 h wr) (fun iv _ => h.length - (intOf iv).toNat)
            case atStart => exact ⟨0, rfl, Nat.zero_le _, fun k hk => absurd hk (Nat.not_lt_zero _), HS3.out⟩
            case round =>
              obtain ⟨i, rfl, hi, hno, hs⟩ := hrel
              have HN2 := Lib.hid hno
              have HT := Lib.hid hs
              clear hno hs t0 t1 tl
              obtain ⟨t0, t1, tl⟩ := HT.out.tb
              by_cases hlt : i < h.length
              · have hlt' : (i : Int) < (h.length : Int) := by omega
                obtain ⟨b, o, rfl, hbl, d0, d1⟩ := HT.out.dl.atg hlt
                obtain ⟨d, hd⟩ : ∃ d, d = ge h i := ⟨_, rfl⟩
                rw [← hd] at d0 d1
                have HD := Lib.hid hd
                have HF := Lib.hid (fun W (hv : El W W.heap.size (.slice A l.length c) l) => rtfind_any A l.length c l (some ⟨b, o, none⟩) h.length c2 d.id W hv)
                have HED := Lib.hid (show El wr.drew wr.drew.heap.size (.slice A l.length c) l from HT.out.el)
                have HSA := Lib.hid (show wr.drew.cell? ⟨p, 0, none⟩ = some (.slice A l.length c) ∧ wr.drew.cell? ⟨p, 1, none⟩ = some (.slice (some ⟨b, o, none⟩) h.length c2) ∧ wr.drew.cell? ⟨b, o + i * 2 + 1, none⟩ = some (.int .i64 d.id) from ⟨t0, t1, d1⟩)
                have HSC := Lib.hid (fun w5 (hb1 : Below wr.drew.heap.size wr.drew w5) => show (w5.cell? ⟨p, 0, none⟩ = some (.slice A l.length c) ∧ w5.cell? ⟨p, 1, none⟩ = some (.slice (some ⟨b, o, none⟩) h.length c2) ∧ w5.cell? ⟨b, o + i * 2 + 1, none⟩ = some (.int .i64 d.id)) ∧ VaA w p A c l (some ⟨b, o, none⟩) c2 h w5 from
                  ⟨⟨(hb1.cell (p := ⟨p, 0, none⟩) tl).trans t0, (hb1.cell (p := ⟨p, 1, none⟩) tl).trans t1, (hb1.cell (p := ⟨b, o + i * 2 + 1, none⟩) hbl).trans d1⟩, HT.out.below (drew_bel hb1)⟩)
                obtain ⟨y, hy⟩ : ∃ y, y = kFi Le.id l d.id := ⟨_, rfl⟩
                rw [← hy] at HF
                have HY := Lib.hid hy
                clear hd hy d0 hbl tl
                go_wp2_with fail
                go_region_held3 (fun W => W.cell? ⟨p, 0, none⟩ = some (.slice A l.length c) ∧ W.cell? ⟨p, 1, none⟩ = some (.slice (some ⟨b, o, none⟩) h.length c2) ∧ W.cell? ⟨b, o + i * 2 + 1, none⟩ = some (.int .i64 d.id))
                  (first | with_reducible exact HSA.out | with_reducible exact HSB.out)
                  ((go_at_call 37; (with_reducible refine (HF.out _ HED.out).mono ?_); rintro e w5 ⟨rfl, hb1⟩; obtain ⟨hs5, hv5⟩ := HSC.out _ hb1; have HSB := Lib.hid hs5; have HT5 := Lib.hid hv5; clear hb1 hs5 hv5))
                clear t0 t1 d1
                obtain ⟨t0, t1, tl⟩ := HT5.out.tb
                obtain ⟨b', o', e', hbl, d0, d1⟩ := HT5.out.dl.atg hlt
                injection e' with e'
                injection e' with e1 e2
                subst e1 e2
                rw [← HD.out] at d0 d1
                clear d1
                by_cases hy0 : y < 0
                · have HR := Lib.hid (show tbV l h = 7 from tbV_7 H12.out HL.out HV.out (by
                    cases e : ofT (l.map Le.du) h with
                    | false => rfl
                    | true =>
                      have hm := (ofT_iff.1 e).2 _ (mem_ge hlt)
                      rw [← HD.out] at hm
                      exact absurd hm (not_mem_kFi (show Asc Du.id (l.map Le.du) from List.pairwise_map.2 ((leS_iff l).1 HL.out).2) (by rw [kFi_du, ← HY.out]; exact hy0))))
                  go_wp2_with fail
                  go_quiet (fail)
                  have HB6 := Lib.hid (HT5.out.drewN nq).bel
                  go_wp2
                  go_ret
                  exact ⟨by rw [HR.out]; rfl, HB6.out⟩
                · rcases kFi_cases Le.id l d.id with ⟨ey, _⟩ | ⟨k, hk, ey, eid, _⟩
                  · exact absurd (HY.out.trans ey) (by omega)
                  · obtain rfl : y = (k : Int) := HY.out.trans ey
                    have hk' : (k : Int) < (l.length : Int) := by omega
                    obtain ⟨b3, o3, rfl, _⟩ := HT5.out.el.some_ (by omega)
                    obtain ⟨⟨-, -, -, -, -, -, -, c7⟩, _⟩ := HT5.out.el.c8 hk
                    by_cases hdl : l[k].dl = d.dl
                    · have hm : d ∈ l.map Le.du := List.mem_map.2 ⟨l[k], List.getElem_mem hk, du_ext hdl eid⟩
                      have HM2 := Lib.hid hm
                      have hdl' : (l[k].dl != d.dl) = false := by simp [hdl]
                      obtain ⟨z, hz⟩ : ∃ z, z = l[k].dl := ⟨_, rfl⟩
                      rw [← hz] at c7 hdl'
                      clear hm hdl hz eid ey
                      go_wp2_with fail
                      go_quiet (fail)
                      have HT6 := Lib.hid (HT5.out.drewN nq)
                      go_wp2
                      go_roundw
                      case rel => exact ⟨i + 1, by go_num, by omega, fun j hj => by
                        by_cases ej : j = i
                        · subst ej; rw [← HD.out]; exact HM2.out
                        · exact HN2.out j (by omega), HT6.out⟩
                      case measure => simp [intOf]; omega
                    · have HR := Lib.hid (show tbV l h = 7 from tbV_7 H12.out HL.out HV.out (by
                        cases e : ofT (l.map Le.du) h with
                        | false => rfl
                        | true =>
                          have hm := (ofT_iff.1 e).2 _ (mem_ge hlt)
                          rw [← HD.out] at hm
                          obtain ⟨x, hx, ex⟩ := List.mem_map.1 hm
                          obtain ⟨j, hj, ej⟩ := List.mem_iff_getElem.1 hx
                          have eid2 : l[j].id = d.id := by rw [ej, ← ex]; rfl
                          have := ((leS_iff l).1 HL.out).2.inj hj hk (eid2.trans eid.symm)
                          subst this
                          exact absurd (by rw [ej, ← ex]; rfl) hdl))
                      have hdl' : (l[k].dl != d.dl) = true := by simp [hdl]
                      obtain ⟨z, hz⟩ : ∃ z, z = l[k].dl := ⟨_, rfl⟩
                      rw [← hz] at c7 hdl'
                      clear hdl hz eid ey
                      go_wp2_with fail
                      go_quiet (fail)
                      have HB6 := Lib.hid (HT5.out.drewN nq).bel
                      go_wp2
                      go_ret
                      exact ⟨by rw [HR.out]; rfl, HB6.out⟩
              · obtain rfl : i = h.length := by omega
                have HR := Lib.hid (show tbV l h = 0 from tbV_0 H12.out HL.out HV.out (ofT_iff.2 ⟨by rw [List.length_map]; exact HLN.out, fun d hd => by
                  obtain ⟨j, hj, e⟩ := ge_mem hd
                  rw [← e]; exact HN2.out j hj⟩))
                have HB6 := Lib.hid HT.out.bel
                go_wp2
                go_ret
                exact ⟨by rw [HR.out]; rfl, HB6.out⟩
          · have HR := Lib.hid (show tbV l h = 7 from tbV_7 H12.out HL.out HV.out (by
              cases e : ofT (l.map Le.du) h with
              | false => rfl
              | true =>
                have hm := (ofT_iff.1 e).1
                rw [List.length_map] at hm
                exact absurd hm hn))
            have hn' : ((h.length : Int) != (l.length : Int)) = true := by simp; omega
            go_wp2
            go_ret
            exact ⟨by rw [HR.out]; rfl, HB3.out⟩
        · have HR := Lib.hid (show tbV l h = vaF h from tbV_va H12.out HL.out hv)
          obtain ⟨y, hy⟩ : ∃ y, y = vaF h := ⟨_, rfl⟩
          rw [← hy] at HM HR hv
          have hv' : (y != 0) = true := by simpa using hv
          clear hy hv
          go_wp2_with fail
          refine (HM.out _ HS.out.dl).mono ?_
          rintro e w3 ⟨rfl, hb⟩
          have HB3 := Lib.hid (HS.out.below hb).bel
          clear hb
          go_wp2
          go_ret
          exact ⟨by rw [HR.out]; rfl, HB3.out⟩
end Go.Proofs.YtjclhlejbidpgaaGreat
namespace Go.Proofs.YtjclhlejbidpgaaGreat
open Go.RowKit
set_option linter.unusedVariables false

def puF (M : Msg) (e : Int) : Bool := decide (M.ep < e)

theorem purged_any (M : Msg) (k : Int) (w : World) : Calls Tryz.prog 42 #[M.v, .int .i64 k] w fun e w' => e = .returned (.bool (puF M k)) ∧ Below w.heap.size w w' := by
  have HB := Lib.hid ((Below.refl w.heap.size w).alloc (Nat.le_refl _) (.cells M.cs 27))
  by_cases h : M.ep < k
  · have HF := Lib.hid (show puF M k = true from decide_eq_true h)
    go_enter Tryz.func42, Tryz.ntmps42
    go_wp2
    go_ret
    exact ⟨by rw [HF.out]; rfl, HB.out⟩
  · have HF := Lib.hid (show puF M k = false from decide_eq_false h)
    go_enter Tryz.func42, Tryz.ntmps42
    go_wp2
    go_ret
    exact ⟨by rw [HF.out]; rfl, HB.out⟩

end Go.Proofs.YtjclhlejbidpgaaGreat
/- Plain: tables of leases: what Find and Lapsed return; the deadline of an ID while leases come, go and are extended. -/
namespace Go.Proofs.YtjclhlejbidpgaaGreat
set_option linter.unusedVariables false

/-- Find's answers. -/
noncomputable def fnO (l : List Le) (h : List Du) (id : Int) : Bool := decide (tbV l h = 0 ∧ 0 ≤ kFi Le.id l id)
noncomputable def fnX (l : List Le) (h : List Du) (id : Int) : Le := if fnO l h id = true then lg l (kFi Le.id l id).toNat else zL
theorem TbOk.fn {l : List Le} {h : List Du} (t : TbOk l h) {k : Nat} (hk : k < l.length) : fnO l h l[k].id = true ∧ fnX l h l[k].id = l[k] := by
  have e := t.asc.hit hk rfl
  have h1 : fnO l h l[k].id = true := decide_eq_true ⟨(tbV_iff l h).2 t, by rw [e]; omega⟩
  refine ⟨h1, ?_⟩
  unfold fnX
  rw [if_pos h1, e, Int.toNat_natCast, lg_get hk]
/-- Lapsed's answer. -/
noncomputable def laV (l : List Le) (h : List Du) (now ep : Int) : List Int := if tbV l h = 0 then laF h now (fun id => !puF (fnX l h id).m ep) else []
theorem TbOk.lav {l : List Le} {h : List Du} (t : TbOk l h) (now ep : Int) : laV l h now ep = laF h now (fun id => !puF (fnX l h id).m ep) := if_pos ((tbV_iff l h).2 t)
theorem not_puF {M : Msg} {ep : Int} : (!puF M ep) = true ↔ ep ≤ M.ep := by
  unfold puF
  rw [Bool.not_eq_true', decide_eq_false_iff_not]
  omega
/-- A lease is listed just if its deadline has been reached and its message is not purged. -/
theorem TbOk.lav_mem {l : List Le} {h : List Du} (t : TbOk l h) (now ep : Int) {k : Nat} (hk : k < l.length) : l[k].id ∈ laV l h now ep ↔ l[k].dl ≤ now ∧ ep ≤ l[k].m.ep := by
  rw [t.lav]
  have := laF_mem t.perm (vaF_zero t.va).2.2.2 t.asc' now (fun id => !puF (fnX l h id).m ep) (d := l[k].du) (List.mem_map.2 ⟨_, List.getElem_mem hk, rfl⟩)
  refine this.trans ?_
  show l[k].dl ≤ now ∧ (!puF (fnX l h l[k].id).m ep) = true ↔ _
  rw [(t.fn hk).2, not_puF]
/-- How many of the first i leases are listed. -/
noncomputable def lcN (l : List Le) (now ep : Int) (i : Nat) : Nat := ((l.take i).filter (fun x => decide (x.dl ≤ now ∧ ep ≤ x.m.ep))).length
theorem lcN_zero (l : List Le) (now ep : Int) : lcN l now ep 0 = 0 := by simp [lcN]
theorem lcN_succ {l : List Le} {now ep : Int} {i : Nat} (hi : i < l.length) : lcN l now ep (i + 1) = lcN l now ep i + if l[i].dl ≤ now ∧ ep ≤ l[i].m.ep then 1 else 0 := by
  unfold lcN
  rw [← List.take_append_getElem hi, List.filter_append, List.length_append]
  congr 1
  by_cases h : l[i].dl ≤ now ∧ ep ≤ l[i].m.ep
  · rw [if_pos h, List.filter_cons_of_pos (by simpa using h)]; rfl
  · rw [if_neg h, List.filter_cons_of_neg (by simpa using h)]; rfl
theorem TbOk.lcN_all {l : List Le} {h : List Du} (t : TbOk l h) (now ep : Int) : lcN l now ep l.length = (laV l h now ep).length := by
  rw [t.lav, laF_len t.perm (vaF_zero t.va).2.2.2, List.filter_map, List.length_map]
  unfold lcN
  rw [List.take_length]
  congr 1
  refine List.filter_congr fun x hx => ?_
  obtain ⟨k, hk, e⟩ := List.mem_iff_getElem.1 hx
  subst e
  show decide (l[k].dl ≤ now ∧ ep ≤ l[k].m.ep) = (decide (l[k].dl ≤ now) && (!puF (fnX l h l[k].id).m ep))
  rw [(t.fn hk).2]
  by_cases h1 : l[k].dl ≤ now <;> by_cases h2 : ep ≤ l[k].m.ep
  all_goals simp [h1, h2, puF]
  all_goals omega
/-- A loop that collects what counts. -/
theorem filter_take_succ {α : Type} (p : α → Bool) {l : List α} {i : Nat} (hi : i < l.length) : (l.take (i + 1)).filter p = (l.take i).filter p ++ if p l[i] = true then [l[i]] else [] := by
  rw [← List.take_append_getElem hi, List.filter_append]
  congr 1
  cases h : p l[i] <;> simp [h]

/-- The deadline of an ID, 0 if there is none. -/
def dlO (l : List Le) (x : Int) : Int := match kLk Le.id l x with | some y => y.dl | none => 0
theorem dlO_none {l : List Le} {x : Int} (h : kFi Le.id l x < 0) : dlO l x = 0 := by unfold dlO; rw [kLk_none.2 (kFi_no h)]
theorem dlO_at {l : List Le} (h : Asc Le.id l) {k : Nat} (hk : k < l.length) : dlO l l[k].id = l[k].dl := by unfold dlO; rw [kLk_at h hk]
theorem dlO_pos {l : List Le} (h : Asc Le.id l) (hp : ∀ y ∈ l, 1 ≤ y.dl) (x : Int) : 0 < dlO l x ↔ 0 ≤ kFi Le.id l x := by
  rcases kFi_cases Le.id l x with ⟨e, _⟩ | ⟨k, hk, e, ex, _⟩
  · rw [dlO_none (by omega), e]; omega
  · rw [e, ← ex, dlO_at h hk]
    have := hp _ (List.getElem_mem hk)
    omega
theorem dlO_ins {l : List Le} (h : Asc Le.id l) {y : Le} (hy : kFi Le.id l y.id < 0) (x : Int) : dlO (kIns Le.id l y) x = if x = y.id then y.dl else dlO l x := by
  unfold dlO
  rw [kLk_ins h (kFi_no hy)]
  by_cases e : x = y.id
  · rw [if_pos e, if_pos e]
  · rw [if_neg e, if_neg e]
theorem dlO_erase {l : List Le} (h : Asc Le.id l) {k : Nat} (hk : k < l.length) (x : Int) : dlO (l.eraseIdx k) x = if x = l[k].id then 0 else dlO l x := by
  unfold dlO
  rw [kLk_erase h hk]
  by_cases e : x = l[k].id
  · rw [if_pos e, if_pos e]
  · rw [if_neg e, if_neg e]
theorem dlO_set {l : List Le} (h : Asc Le.id l) {k : Nat} (hk : k < l.length) {y : Le} (e : y.id = l[k].id) (x : Int) : dlO (l.set k y) x = if x = y.id then y.dl else dlO l x := by
  unfold dlO
  rw [kLk_set h hk e]
  by_cases e : x = y.id
  · rw [if_pos e, if_pos e]
  · rw [if_neg e, if_neg e]
end Go.Proofs.YtjclhlejbidpgaaGreat
