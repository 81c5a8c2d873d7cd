/- What is proved here: stripe.endError, stripe.Begin, stripe.End, ref11.End by contracts; stripe.Begin, stripe.End, ref11.End by contracts; stripe.Sum and ref11.Sum by contracts; awake of shardqueuelaw11 returns true; boxes of stripes. -/
import Derived.Test.YtdilgeabcacbdaaGreatJ18
import Derived.Test.YtdilgeabcacbdaaGreatJ22
import Derived.Test.YtdilgeabcacbdaaGreatJ28
import Derived.Deep.QuietTactic
import Derived.BigQuiet
namespace Go.Proofs.YtdilgeabcacbdaaGreat
open Go.RowKit
set_option linter.unusedVariables false

/-- End's error and stripe. -/
noncomputable def enE (s : St) (S : Sh) (ep lim : Int) : Int := if ¬ nbP s.sq then 1 else if s.sq % 2 = 0 then 7 else if shV S ≠ 0 then shV S else if (wi ep 0 65536 && wi lim 1 8) = true then 0 else 1
noncomputable def enT (s : St) (S : Sh) (ep lim : Int) : St := if enE s S ep lim = 0 then ⟨s.sq + 1, ep, ctR S ep lim, ctL S ep lim⟩ else zSt
section
variable {s : St} {S : Sh} {ep lim : Int}
theorem en_no {x : Int} (h : enE s S ep lim = x) (hx : x ≠ 0) : enT s S ep lim = zSt := by unfold enT; rw [if_neg (by rw [h]; exact hx)]
theorem enE_1 (h : ¬ nbP s.sq) : enE s S ep lim = 1 := if_pos h
theorem enE_7 (h : nbP s.sq) (h1 : s.sq % 2 = 0) : enE s S ep lim = 7 := by unfold enE; rw [if_neg (fun g => g h), if_pos h1]
theorem enE_v (h : nbP s.sq) (h1 : ¬ s.sq % 2 = 0) (h2 : shV S ≠ 0) : enE s S ep lim = shV S := by unfold enE; rw [if_neg (fun g => g h), if_neg h1, if_pos h2]
theorem enE_n (h : nbP s.sq) (h1 : ¬ s.sq % 2 = 0) (h2 : shV S = 0) (h3 : (wi ep 0 65536 && wi lim 1 8) = false) : enE s S ep lim = 1 := by unfold enE; rw [if_neg (fun g => g h), if_neg h1, if_neg (fun g => g h2), h3]; rfl
theorem enE_0 (h : nbP s.sq) (h1 : ¬ s.sq % 2 = 0) (h2 : shV S = 0) (h3 : wi ep 0 65536 = true) (h4 : wi lim 1 8 = true) : enE s S ep lim = 0 := by unfold enE; rw [if_neg (fun g => g h), if_neg h1, if_neg (fun g => g h2), h3, h4]; rfl
end
/-- A stripe's box beside a shard's box. -/
structure YB (w : World) (p q : Nat) (s : St) (S : Sh) (D : Sx) (W : World) : Prop where
  sa : SAt w q S D W
  c0 : W.cell? ⟨p, 0, none⟩ = some (.int .i64 s.sq)
  c1 : W.cell? ⟨p, 1, none⟩ = some (.int .i64 s.ep)
  c2 : W.cell? ⟨p, 2, none⟩ = some (.int .i64 s.rd)
  c3 : W.cell? ⟨p, 3, none⟩ = some (.int .i64 s.ls)
  lt : p < W.heap.size
section
variable {w W W' : World} {p q : Nat} {s : St} {S : Sh} {D : Sx}
theorem YB.below (h : YB w p q s S D W) (hb : Below W.heap.size W W') : YB w p q s S D W' :=
  ⟨h.sa.below hb, (hb.cell (p := ⟨p, 0, none⟩) h.lt).trans h.c0, (hb.cell (p := ⟨p, 1, none⟩) h.lt).trans h.c1, (hb.cell (p := ⟨p, 2, none⟩) h.lt).trans h.c2, (hb.cell (p := ⟨p, 3, none⟩) h.lt).trans h.c3, Nat.lt_of_lt_of_le h.lt hb.size⟩
theorem YB.start (s : St) (h : SR w w.heap.size S D) (t u : TypeId) : YB w w.heap.size (w.heap.size + 1) s S D ((w.alloc (.cells #[.int .i64 s.sq, .int .i64 s.ep, .int .i64 s.rd, .int .i64 s.ls] t)).alloc (.cells #[.bool S.lv, .int .i64 S.lo, .int .i64 S.hi, .slice D.A S.cs.length D.c, .int .i64 S.hd, .int .i64 S.sz, .slice D.A2 S.l.length D.c2, .slice D.A3 S.h.length D.c3] u)) := by
  have hb := (Below.refl w.heap.size w).alloc (Nat.le_refl _) (.cells #[.int .i64 s.sq, .int .i64 s.ep, .int .i64 s.rd, .int .i64 s.ls] t)
  have k := SAt.start u (h.up hb)
  have e : (w.alloc (.cells #[.int .i64 s.sq, .int .i64 s.ep, .int .i64 s.rd, .int .i64 s.ls] t)).heap.size = w.heap.size + 1 := by simp
  rw [e] at k
  refine ⟨⟨k.s8, k.sr, k.off, hb.trans (k.bel.mono (by rw [e]; omega)), by omega⟩, by simp [go_sem], by simp [go_sem], by simp [go_sem], by simp [go_sem], by simp; omega⟩
theorem YB.all (h : YB w p q s S D W) : (W.cell? ⟨p, 0, none⟩ = some (.int .i64 s.sq) ∧ W.cell? ⟨p, 1, none⟩ = some (.int .i64 s.ep) ∧ W.cell? ⟨p, 2, none⟩ = some (.int .i64 s.rd) ∧ W.cell? ⟨p, 3, none⟩ = some (.int .i64 s.ls) ∧ p < W.heap.size) ∧ (W.cell? ⟨q, 0, none⟩ = some (.bool S.lv) ∧ W.cell? ⟨q, 1, none⟩ = some (.int .i64 S.lo) ∧ W.cell? ⟨q, 2, none⟩ = some (.int .i64 S.hi) ∧ W.cell? ⟨q, 3, none⟩ = some (.slice D.A S.cs.length D.c) ∧ W.cell? ⟨q, 4, none⟩ = some (.int .i64 S.hd) ∧ W.cell? ⟨q, 5, none⟩ = some (.int .i64 S.sz) ∧ W.cell? ⟨q, 6, none⟩ = some (.slice D.A2 S.l.length D.c2) ∧ W.cell? ⟨q, 7, none⟩ = some (.slice D.A3 S.h.length D.c3) ∧ q < W.heap.size) := ⟨⟨h.c0, h.c1, h.c2, h.c3, h.lt⟩, h.sa.s8.facts⟩
end

set_option maxHeartbeats 4000000 in
set_option maxRecDepth 20000 in
theorem yenderr_any (s : St) (S : Sh) (D : Sx) (ep lim : Int) (w : World) (hs : SR w w.heap.size S D) :
    Calls Tryz.prog 29 #[s.v, sv S D, .int .i64 ep, .int .i64 lim] w fun e w' => e = .returned (.int .i64 (enE s S ep lim)) ∧ Below w.heap.size w w' := by
  have H0 := Lib.hid (YB.start s hs 28 37)
  have HV := Lib.hid (fun p q W (k : YB w p q s S D W) => svalid_any S D W k.sa.sr)
  have HN := Lib.hid (fun W => ynumber_any s.sq W)
  have HO := Lib.hid (fun W => yodd_any s.sq W)
  have HE := Lib.hid (fun W => ywithin_any ep 0 65536 W)
  have HL := Lib.hid (fun W => ywithin_any lim 1 8 W)
  obtain ⟨p, hp⟩ : ∃ p, p = w.heap.size := ⟨_, rfl⟩
  obtain ⟨q, hq⟩ : ∃ q, q = w.heap.size + 1 := ⟨_, rfl⟩
  obtain ⟨R, hR⟩ : ∃ R, R = enE s S ep lim := ⟨_, rfl⟩
  rw [← hR]
  have HRR := Lib.hid hR
  have HPP := Lib.hid (And.intro hp hq)
  clear hs hR hp hq
  go_enter Tryz.func29, Tryz.ntmps29
  obtain ⟨⟨x0, x1, x2, x3, xl⟩, y0, y1, y2, y3, y4, y5, y6, y7, yl⟩ := H0.out.all
  go_wp2_with fail
  clear x0 x1 x2 x3 xl y0 y1 y2 y3 y4 y5 y6 y7 yl
  rw [← HPP.out.2, ← HPP.out.1] at H0
  generalize (w.alloc (.cells #[.int .i64 s.sq, .int .i64 s.ep, .int .i64 s.rd, .int .i64 s.ls] 28)).alloc (.cells #[.bool S.lv, .int .i64 S.lo, .int .i64 S.hi, .slice D.A S.cs.length D.c, .int .i64 S.hd, .int .i64 S.sz, .slice D.A2 S.l.length D.c2, .slice D.A3 S.h.length D.c3] 37) = w2 at *
  rw [← HPP.out.2, ← HPP.out.1]
  by_cases h1 : nbP s.sq
  · rw [nbB_yes h1] at HN
    refine (HN.out _).mono ?_
    rintro e w3 ⟨rfl, rfl⟩
    clear HN
    obtain ⟨⟨x0, x1, x2, x3, xl⟩, y0, y1, y2, y3, y4, y5, y6, y7, yl⟩ := H0.out.all
    by_cases h2 : s.sq % 2 = 0
    · rw [evB_yes h2] at HO
      have HX := Lib.hid (enE_7 (S := S) (ep := ep) (lim := lim) h1 h2)
      clear h1 h2
      go_wp2_with fail
      refine (HO.out _).mono ?_
      rintro e w4 ⟨rfl, rfl⟩
      go_wp2
      go_ret
      exact ⟨by rw [HRR.out, HX.out]; rfl, H0.out.sa.bel⟩
    · rw [evB_no h2] at HO
      have HXV := Lib.hid (enE_v (S := S) (ep := ep) (lim := lim) h1 h2)
      have HXN := Lib.hid (enE_n (S := S) (ep := ep) (lim := lim) h1 h2)
      have HX0 := Lib.hid (enE_0 (S := S) (ep := ep) (lim := lim) h1 h2)
      clear h1 h2
      go_wp2_with fail
      refine (HO.out _).mono ?_
      rintro e w4 ⟨rfl, rfl⟩
      go_wp2_with fail
      clear x0 x1 x2 x3 xl y0 y1 y2 y3 y4 y5 y6 y7 yl
      refine (HV.out _ _ _ H0.out).mono ?_
      rintro e w4 ⟨rfl, hb⟩
      have H1 := Lib.hid (H0.out.below hb)
      clear hb HV H0 HO
      by_cases h3 : shV S = 0
      · rw [h3]
        have h3' : (shV S != 0) = false := by simpa using h3
        cases h4 : wi ep 0 65536 with
        | false =>
          have HX := Lib.hid (HXN.out h3 (by rw [h4]; rfl))
          rw [h4] at HE
          clear h3 h3' h4
          go_wp2_with fail
          refine (HE.out _).mono ?_
          rintro e w5 ⟨rfl, rfl⟩
          go_wp2
          go_ret
          exact ⟨by rw [HRR.out, HX.out]; rfl, H1.out.sa.bel⟩
        | true =>
          rw [h4] at HE
          cases h5 : wi lim 1 8 with
          | false =>
            have HX := Lib.hid (HXN.out h3 (by rw [h4, h5]; rfl))
            rw [h5] at HL
            clear h3 h3' h4 h5
            go_wp2_with fail
            refine (HE.out _).mono ?_
            rintro e w5 ⟨rfl, rfl⟩
            go_wp2_with fail
            refine (HL.out _).mono ?_
            rintro e w6 ⟨rfl, rfl⟩
            go_wp2
            go_ret
            exact ⟨by rw [HRR.out, HX.out]; rfl, H1.out.sa.bel⟩
          | true =>
            have HX := Lib.hid (HX0.out h3 h4 h5)
            rw [h5] at HL
            clear h3 h3' h4 h5
            go_wp2_with fail
            refine (HE.out _).mono ?_
            rintro e w5 ⟨rfl, rfl⟩
            go_wp2_with fail
            refine (HL.out _).mono ?_
            rintro e w6 ⟨rfl, rfl⟩
            go_wp2
            go_ret
            exact ⟨by rw [HRR.out, HX.out]; rfl, H1.out.sa.bel⟩
      · have HX := Lib.hid (HXV.out h3)
        have h3' : (shV S != 0) = true := bne_iff_ne.2 h3
        clear h3
        generalize shV S = v at *
        go_wp2
        go_ret
        exact ⟨by rw [HRR.out, HX.out]; rfl, H1.out.sa.bel⟩
  · rw [nbB_no h1] at HN
    have HX := Lib.hid (enE_1 (S := S) (ep := ep) (lim := lim) h1)
    clear h1
    refine (HN.out _).mono ?_
    rintro e w3 ⟨rfl, rfl⟩
    go_wp2
    go_ret
    exact ⟨by rw [HRR.out, HX.out]; rfl, H0.out.sa.bel⟩
end Go.Proofs.YtdilgeabcacbdaaGreat
namespace Go.Proofs.YtdilgeabcacbdaaGreat
open Go.RowKit
set_option linter.unusedVariables false

set_option maxHeartbeats 4000000 in
theorem ybegin_any (s : St) (w : World) : Calls Tryz.prog 11 #[s.v] w (StE w (bgT s) (bgE s)) := by
  have HN := Lib.hid (fun W => ynumber_any s.sq W)
  have HO := Lib.hid (fun W => yodd_any s.sq W)
  by_cases h1 : nbP s.sq
  · rw [nbB_yes h1] at HN
    by_cases h2 : s.sq % 2 = 0
    · rw [evB_yes h2] at HO
      by_cases h3 : 1099511627774 < s.sq
      · have HR := Lib.hid (bg_6 h1 (by omega) h3)
        clear h1 h2
        go_enter Tryz.func11, Tryz.ntmps11
        go_wp2_with fail
        refine (HN.out _).mono ?_
        rintro e w3 ⟨rfl, rfl⟩
        go_wp2_with fail
        refine (HO.out _).mono ?_
        rintro e w4 ⟨rfl, rfl⟩
        go_wp2
        exact bodyPost_ret (v := .tuple #[zSt.v, .int .i64 6]) (by simp only [results, Tryz.results11]; go_simp <;> rfl) rfl ⟨by rw [HR.out.1, HR.out.2], below2 w _ _⟩
      · have HR := Lib.hid (bg_0 h1 (by omega) h3)
        have hw : IntKind.i64.wrap (s.sq + 1) = s.sq + 1 := IntWalk.i64_in _ (by have := h1.1; omega)
        have hw2 : wrap64 (s.sq + 1) = s.sq + 1 := IntWalk.wrap64_in _ (by have := h1.1; omega)
        clear h1 h2
        go_enter Tryz.func11, Tryz.ntmps11
        go_wp2_with fail
        refine (HN.out _).mono ?_
        rintro e w3 ⟨rfl, rfl⟩
        go_wp2_with fail
        refine (HO.out _).mono ?_
        rintro e w4 ⟨rfl, rfl⟩
        go_wp2
        exact bodyPost_ret (v := .tuple #[.agg #[.int .i64 (s.sq + 1), .int .i64 s.ep, .int .i64 s.rd, .int .i64 s.ls], .int .i64 0]) (by simp only [results, Tryz.results11]; go_simp <;> rfl) rfl ⟨by rw [HR.out.1, HR.out.2], below2 w _ _⟩
    · rw [evB_no h2] at HO
      have HR := Lib.hid (bg_7 h1 (by omega))
      clear h1 h2
      go_enter Tryz.func11, Tryz.ntmps11
      go_wp2_with fail
      refine (HN.out _).mono ?_
      rintro e w3 ⟨rfl, rfl⟩
      go_wp2_with fail
      refine (HO.out _).mono ?_
      rintro e w4 ⟨rfl, rfl⟩
      go_wp2
      exact bodyPost_ret (v := .tuple #[zSt.v, .int .i64 7]) (by simp only [results, Tryz.results11]; go_simp <;> rfl) rfl ⟨by rw [HR.out.1, HR.out.2], below2 w _ _⟩
  · rw [nbB_no h1] at HN
    have HR := Lib.hid (bg_1 h1)
    clear h1
    go_enter Tryz.func11, Tryz.ntmps11
    go_wp2_with fail
    refine (HN.out _).mono ?_
    rintro e w3 ⟨rfl, rfl⟩
    go_wp2
    exact bodyPost_ret (v := .tuple #[zSt.v, .int .i64 1]) (by simp only [results, Tryz.results11]; go_simp <;> rfl) rfl ⟨by rw [HR.out.1, HR.out.2], below2 w _ _⟩

/-- .. and a box of a result. -/
structure YC (w : World) (p q r : Nat) (s : St) (S : Sh) (D : Sx) (W : World) : Prop where
  yb : YB w p q s S D W
  r0 : W.cell? ⟨r, 0, none⟩ = some (.int .i64 0)
  r1 : W.cell? ⟨r, 1, none⟩ = some (.int .i64 0)
  r2 : W.cell? ⟨r, 2, none⟩ = some (.int .i64 0)
  r3 : W.cell? ⟨r, 3, none⟩ = some (.int .i64 0)
  fr : ∀ o, W.frozen? ⟨r, o, none⟩ = false
  lt : r < W.heap.size
  old : w.heap.size ≤ r
section
variable {w W W' : World} {p q r : Nat} {s : St} {S : Sh} {D : Sx}
theorem YC.below (h : YC w p q r s S D W) (hb : Below W.heap.size W W') : YC w p q r s S D W' :=
  ⟨h.yb.below hb, (hb.cell (p := ⟨r, 0, none⟩) h.lt).trans h.r0, (hb.cell (p := ⟨r, 1, none⟩) h.lt).trans h.r1, (hb.cell (p := ⟨r, 2, none⟩) h.lt).trans h.r2, (hb.cell (p := ⟨r, 3, none⟩) h.lt).trans h.r3, fun o => (hb.frozen (p := ⟨r, o, none⟩) h.lt).trans (h.fr o), Nat.lt_of_lt_of_le h.lt hb.size, h.old⟩
theorem YC.start (s : St) (h : SR w w.heap.size S D) (t u : TypeId) : YC w w.heap.size (w.heap.size + 1) (w.heap.size + 1 + 1) s S D (((w.alloc (.cells #[.int .i64 s.sq, .int .i64 s.ep, .int .i64 s.rd, .int .i64 s.ls] t)).alloc (.cells #[.bool S.lv, .int .i64 S.lo, .int .i64 S.hi, .slice D.A S.cs.length D.c, .int .i64 S.hd, .int .i64 S.sz, .slice D.A2 S.l.length D.c2, .slice D.A3 S.h.length D.c3] u)).alloc (.cells #[.int .i64 0, .int .i64 0, .int .i64 0, .int .i64 0] t)) := by
  have k := (YB.start s h t u)
  exact ⟨k.below ((Below.refl _ _).alloc (Nat.le_refl _) _), by simp [go_sem], by simp [go_sem], by simp [go_sem], by simp [go_sem], fun o => by simp [go_sem], by simp, by omega⟩
theorem YC.all (h : YC w p q r s S D W) : ((W.cell? ⟨p, 0, none⟩ = some (.int .i64 s.sq) ∧ W.cell? ⟨p, 1, none⟩ = some (.int .i64 s.ep) ∧ W.cell? ⟨p, 2, none⟩ = some (.int .i64 s.rd) ∧ W.cell? ⟨p, 3, none⟩ = some (.int .i64 s.ls) ∧ p < W.heap.size) ∧ (W.cell? ⟨q, 0, none⟩ = some (.bool S.lv) ∧ W.cell? ⟨q, 1, none⟩ = some (.int .i64 S.lo) ∧ W.cell? ⟨q, 2, none⟩ = some (.int .i64 S.hi) ∧ W.cell? ⟨q, 3, none⟩ = some (.slice D.A S.cs.length D.c) ∧ W.cell? ⟨q, 4, none⟩ = some (.int .i64 S.hd) ∧ W.cell? ⟨q, 5, none⟩ = some (.int .i64 S.sz) ∧ W.cell? ⟨q, 6, none⟩ = some (.slice D.A2 S.l.length D.c2) ∧ W.cell? ⟨q, 7, none⟩ = some (.slice D.A3 S.h.length D.c3) ∧ q < W.heap.size)) ∧ W.cell? ⟨r, 0, none⟩ = some (.int .i64 0) ∧ W.cell? ⟨r, 1, none⟩ = some (.int .i64 0) ∧ W.cell? ⟨r, 2, none⟩ = some (.int .i64 0) ∧ W.cell? ⟨r, 3, none⟩ = some (.int .i64 0) ∧ r < W.heap.size ∧ W.frozen? ⟨r, 0, none⟩ = false ∧ W.frozen? ⟨r, 1, none⟩ = false ∧ W.frozen? ⟨r, 2, none⟩ = false ∧ W.frozen? ⟨r, 3, none⟩ = false := ⟨h.yb.all, h.r0, h.r1, h.r2, h.r3, h.lt, h.fr 0, h.fr 1, h.fr 2, h.fr 3⟩
theorem YC.out (h : YC w p q r s S D W) (a b c d : Value) : Below w.heap.size w ((((W.setCell ⟨r, 0, none⟩ a).setCell ⟨r, 1, none⟩ b).setCell ⟨r, 2, none⟩ c).setCell ⟨r, 3, none⟩ d) := below4 h.yb.sa.bel h.old a b c d
end

set_option maxHeartbeats 8000000 in
set_option maxRecDepth 20000 in
theorem yend_any (s : St) (S : Sh) (D : Sx) (ep lim : Int) (w : World) (hs : SR w w.heap.size S D) :
    Calls Tryz.prog 13 #[s.v, sv S D, .int .i64 ep, .int .i64 lim] w (StE w (enT s S ep lim) (enE s S ep lim)) := by
  have H0 := Lib.hid (YC.start s hs 28 37)
  have HV := Lib.hid (fun p q r W (k : YC w p q r s S D W) => yenderr_any s S D ep lim W k.yb.sa.sr)
  have HC := Lib.hid (fun p q r W (k : YC w p q r s S D W) => scounts_any S D ep lim W k.yb.sa.sr)
  obtain ⟨p, hp⟩ : ∃ p, p = w.heap.size := ⟨_, rfl⟩
  obtain ⟨q, hq⟩ : ∃ q, q = w.heap.size + 1 := ⟨_, rfl⟩
  obtain ⟨r, hr⟩ : ∃ r, r = w.heap.size + 1 + 1 := ⟨_, rfl⟩
  obtain ⟨R, hR⟩ : ∃ R, R = enE s S ep lim := ⟨_, rfl⟩
  obtain ⟨T, hT⟩ : ∃ T, T = enT s S ep lim := ⟨_, rfl⟩
  rw [← hR, ← hT]
  have HRR := Lib.hid (And.intro hR hT)
  have HPP := Lib.hid (And.intro hp (And.intro hq hr))
  have HNE := Lib.hid (show ¬ p = q ∧ ¬ q = p ∧ ¬ p = r ∧ ¬ r = p ∧ ¬ q = r ∧ ¬ r = q by omega)
  clear hs hR hT hp hq hr
  go_enter Tryz.func13, Tryz.ntmps13
  obtain ⟨⟨⟨x0, x1, x2, x3, xl⟩, y0, y1, y2, y3, y4, y5, y6, y7, yl⟩, z0, z1, z2, z3, zl, f0, f1, f2, f3⟩ := H0.out.all
  go_wp2_with fail
  clear x0 x1 x2 x3 xl y0 y1 y2 y3 y4 y5 y6 y7 yl z0 z1 z2 z3 zl f0 f1 f2 f3
  rw [← HPP.out.2.2, ← HPP.out.2.1, ← HPP.out.1] at H0
  generalize ((w.alloc (.cells #[.int .i64 s.sq, .int .i64 s.ep, .int .i64 s.rd, .int .i64 s.ls] 28)).alloc (.cells #[.bool S.lv, .int .i64 S.lo, .int .i64 S.hi, .slice D.A S.cs.length D.c, .int .i64 S.hd, .int .i64 S.sz, .slice D.A2 S.l.length D.c2, .slice D.A3 S.h.length D.c3] 37)).alloc (.cells #[.int .i64 0, .int .i64 0, .int .i64 0, .int .i64 0] 28) = w2 at *
  rw [← HPP.out.2.2, ← HPP.out.2.1, ← HPP.out.1]
  refine (HV.out _ _ _ _ H0.out).mono ?_
  rintro e w3 ⟨rfl, hb⟩
  have H1 := Lib.hid (H0.out.below hb)
  clear hb H0 HV
  obtain ⟨⟨⟨x0, x1, x2, x3, xl⟩, y0, y1, y2, y3, y4, y5, y6, y7, yl⟩, z0, z1, z2, z3, zl, f0, f1, f2, f3⟩ := H1.out.all
  by_cases h0 : enE s S ep lim = 0
  · have HT := Lib.hid (show T = ⟨s.sq + 1, ep, ctR S ep lim, ctL S ep lim⟩ from by rw [HRR.out.2]; unfold enT; rw [if_pos h0])
    have HX := Lib.hid (show R = 0 from by rw [HRR.out.1]; exact h0)
    have HNB := Lib.hid (show nbP s.sq from by
      apply Classical.byContradiction
      intro h
      rw [enE_1 h] at h0
      exact absurd h0 (by decide))
    have hw : IntKind.i64.wrap (s.sq + 1) = s.sq + 1 := IntWalk.i64_in _ (by have := HNB.out.1; have := HNB.out.2; omega)
    have hw2 : wrap64 (s.sq + 1) = s.sq + 1 := IntWalk.wrap64_in _ (by have := HNB.out.1; have := HNB.out.2; omega)
    rw [h0]
    clear h0
    generalize ctR S ep lim = cr at *
    generalize ctL S ep lim = cl at *
    go_wp2_with fail
    clear x0 x1 x2 x3 xl y0 y1 y2 y3 y4 y5 y6 y7 yl z0 z1 z2 z3 zl f0 f1 f2 f3
    refine (HC.out _ _ _ _ H1.out).mono ?_
    rintro e w4 ⟨rfl, hb⟩
    have H2 := Lib.hid (H1.out.below hb)
    clear hb H1 HC
    obtain ⟨⟨⟨x0, x1, x2, x3, xl⟩, y0, y1, y2, y3, y4, y5, y6, y7, yl⟩, z0, z1, z2, z3, zl, f0, f1, f2, f3⟩ := H2.out.all
    obtain ⟨n1, n2, n3, n4, n5, n6⟩ := HNE.out
    go_wp2
    exact bodyPost_ret (v := .tuple #[.agg #[.int .i64 (s.sq + 1), .int .i64 ep, .int .i64 cr, .int .i64 cl], .int .i64 0]) (by simp only [results, Tryz.results13]; go_simp <;> rfl) rfl ⟨by rw [HT.out, HX.out], H2.out.out _ _ _ _⟩
  · have HT := Lib.hid (show T = zSt from by rw [HRR.out.2]; exact en_no rfl h0)
    have h0' : (enE s S ep lim != 0) = true := bne_iff_ne.2 h0
    clear h0
    have HX := HRR
    generalize enE s S ep lim = x at *
    obtain ⟨n1, n2, n3, n4, n5, n6⟩ := HNE.out
    go_wp2
    exact bodyPost_ret (v := .tuple #[zSt.v, .int .i64 x]) (by simp only [results, Tryz.results13]; go_simp <;> rfl) rfl ⟨by rw [HT.out, HX.out.1], H1.out.out _ _ _ _⟩

set_option maxHeartbeats 8000000 in
set_option maxRecDepth 20000 in
theorem rend_any (s : St) (S : Sh) (D : Sx) (ep lim : Int) (w : World) (hs : SR w w.heap.size S D) :
    Calls Tryz.prog 14 #[s.v, sv S D, .int .i64 ep, .int .i64 lim] w (StE w (enT s S ep lim) (enE s S ep lim)) := by
  have H0 := Lib.hid (YC.start s hs 28 37)
  have HV := Lib.hid (fun p q r W (k : YC w p q r s S D W) => rvalid7_any S D W k.yb.sa.sr)
  have HC := Lib.hid (fun p q r W (k : YC w p q r s S D W) => rcounts7_any S D ep lim W k.yb.sa.sr)
  obtain ⟨p, hp⟩ : ∃ p, p = w.heap.size := ⟨_, rfl⟩
  obtain ⟨q, hq⟩ : ∃ q, q = w.heap.size + 1 := ⟨_, rfl⟩
  obtain ⟨r, hr⟩ : ∃ r, r = w.heap.size + 1 + 1 := ⟨_, rfl⟩
  obtain ⟨R, hR⟩ : ∃ R, R = enE s S ep lim := ⟨_, rfl⟩
  obtain ⟨T, hT⟩ : ∃ T, T = enT s S ep lim := ⟨_, rfl⟩
  rw [← hR, ← hT]
  have HRR := Lib.hid (And.intro hR hT)
  have HPP := Lib.hid (And.intro hp (And.intro hq hr))
  have HNE := Lib.hid (show ¬ p = q ∧ ¬ q = p ∧ ¬ p = r ∧ ¬ r = p ∧ ¬ q = r ∧ ¬ r = q by omega)
  clear hs hR hT hp hq hr
  go_enter Tryz.func14, Tryz.ntmps14
  obtain ⟨⟨⟨x0, x1, x2, x3, xl⟩, y0, y1, y2, y3, y4, y5, y6, y7, yl⟩, z0, z1, z2, z3, zl, f0, f1, f2, f3⟩ := H0.out.all
  go_upto_region 1 with (fail)
  clear x0 x1 x2 x3 xl y0 y1 y2 y3 y4 y5 y6 y7 yl z0 z1 z2 z3 zl f0 f1 f2 f3
  rw [← HPP.out.2.2, ← HPP.out.2.1, ← HPP.out.1] at H0
  generalize ((w.alloc (.cells #[.int .i64 s.sq, .int .i64 s.ep, .int .i64 s.rd, .int .i64 s.ls] 28)).alloc (.cells #[.bool S.lv, .int .i64 S.lo, .int .i64 S.hi, .slice D.A S.cs.length D.c, .int .i64 S.hd, .int .i64 S.sz, .slice D.A2 S.l.length D.c2, .slice D.A3 S.h.length D.c3] 37)).alloc (.cells #[.int .i64 0, .int .i64 0, .int .i64 0, .int .i64 0] 28) = w2 at *
  rw [← HPP.out.2.2, ← HPP.out.2.1, ← HPP.out.1]
  obtain ⟨⟨⟨x0, x1, x2, x3, xl⟩, y0, y1, y2, y3, y4, y5, y6, y7, yl⟩, z0, z1, z2, z3, zl, f0, f1, f2, f3⟩ := H0.out.all
  by_cases h1 : 0 ≤ s.sq
  · by_cases h2 : s.sq ≤ 1099511627776
    · have hm : s.sq.tmod 2 = s.sq % 2 := tmod2_pos h1
      by_cases h3 : s.sq % 2 = 0
      · have HX := Lib.hid (enE_7 (S := S) (ep := ep) (lim := lim) ⟨h1, h2⟩ h3)
        rw [h3] at hm
        clear h3
        have HT := Lib.hid (show T = zSt from by rw [HRR.out.2]; exact en_no HX.out (by decide))
        obtain ⟨n1, n2, n3, n4, n5, n6⟩ := HNE.out
        go_wp2
        exact bodyPost_ret (v := .tuple #[zSt.v, .int .i64 7]) (by simp only [results, Tryz.results14]; go_simp <;> rfl) rfl ⟨by rw [HT.out, HRR.out.1, HX.out], H0.out.out _ _ _ _⟩
      · have HXV := Lib.hid (enE_v (S := S) (ep := ep) (lim := lim) ⟨h1, h2⟩ h3)
        have HXN := Lib.hid (enE_n (S := S) (ep := ep) (lim := lim) ⟨h1, h2⟩ h3)
        have HX0 := Lib.hid (enE_0 (S := S) (ep := ep) (lim := lim) ⟨h1, h2⟩ h3)
        have hw : IntKind.i64.wrap (s.sq + 1) = s.sq + 1 := IntWalk.i64_in _ (by omega)
        have hw2 : wrap64 (s.sq + 1) = s.sq + 1 := IntWalk.wrap64_in _ (by omega)
        rw [show s.sq % 2 = 1 by omega] at hm
        clear h3
        go_wp2_with fail
        clear x0 x1 x2 x3 xl y0 y1 y2 y3 y4 y5 y6 y7 yl z0 z1 z2 z3 zl f0 f1 f2 f3
        refine (HV.out _ _ _ _ H0.out).mono ?_
        rintro e w3 ⟨rfl, hb⟩
        have H1 := Lib.hid (H0.out.below hb)
        clear hb H0 HV
        obtain ⟨⟨⟨x0, x1, x2, x3, xl⟩, y0, y1, y2, y3, y4, y5, y6, y7, yl⟩, z0, z1, z2, z3, zl, f0, f1, f2, f3⟩ := H1.out.all
        by_cases h4 : shV S = 0
        · rw [h4]
          by_cases h5 : (0 ≤ ep ∧ ep ≤ 65536) ∧ (1 ≤ lim ∧ lim ≤ 8)
          · have HX := Lib.hid (HX0.out h4 (wi_true h5.1.1 h5.1.2) (wi_true h5.2.1 h5.2.2))
            have HT := Lib.hid (show T = ⟨s.sq + 1, ep, ctR S ep lim, ctL S ep lim⟩ from by rw [HRR.out.2]; unfold enT; rw [if_pos HX.out])
            obtain ⟨⟨e1, e2⟩, l1, l2⟩ := h5
            clear h4
            generalize ctR S ep lim = cr at *
            generalize ctL S ep lim = cl at *
            go_wp2_with fail
            clear x0 x1 x2 x3 xl y0 y1 y2 y3 y4 y5 y6 y7 yl z0 z1 z2 z3 zl f0 f1 f2 f3
            refine (HC.out _ _ _ _ H1.out).mono ?_
            rintro e w4 ⟨rfl, hb⟩
            have H2 := Lib.hid (H1.out.below hb)
            clear hb H1 HC
            obtain ⟨⟨⟨x0, x1, x2, x3, xl⟩, y0, y1, y2, y3, y4, y5, y6, y7, yl⟩, z0, z1, z2, z3, zl, f0, f1, f2, f3⟩ := H2.out.all
            obtain ⟨n1, n2, n3, n4, n5, n6⟩ := HNE.out
            go_wp2
            exact bodyPost_ret (v := .tuple #[.agg #[.int .i64 (s.sq + 1), .int .i64 ep, .int .i64 cr, .int .i64 cl], .int .i64 0]) (by simp only [results, Tryz.results14]; go_simp <;> rfl) rfl ⟨by rw [HT.out, HRR.out.1, HX.out], H2.out.out _ _ _ _⟩
          · have HX := Lib.hid (HXN.out h4 (by
              cases he : (wi ep 0 65536 && wi lim 1 8) with
              | false => rfl
              | true =>
                rw [Bool.and_eq_true] at he
                exact absurd ⟨of_decide_eq_true he.1, of_decide_eq_true he.2⟩ h5))
            have HT := Lib.hid (show T = zSt from by rw [HRR.out.2]; exact en_no HX.out (by decide))
            have h6 : ep < 0 ∨ (0 ≤ ep ∧ 65536 < ep) ∨ (0 ≤ ep ∧ ep ≤ 65536 ∧ lim < 1) ∨ (0 ≤ ep ∧ ep ≤ 65536 ∧ 1 ≤ lim ∧ 8 < lim) := by omega
            clear h5 h4
            obtain ⟨n1, n2, n3, n4, n5, n6⟩ := HNE.out
            rcases h6 with a | ⟨a, b⟩ | ⟨a, b, c⟩ | ⟨a, b, c, d⟩
            all_goals
              go_wp2
              exact bodyPost_ret (v := .tuple #[zSt.v, .int .i64 1]) (by simp only [results, Tryz.results14]; go_simp <;> rfl) rfl ⟨by rw [HT.out, HRR.out.1, HX.out], H1.out.out _ _ _ _⟩
        · have HX := Lib.hid (HXV.out h4)
          have HT := Lib.hid (show T = zSt from by rw [HRR.out.2]; exact en_no HX.out h4)
          have h4' : (shV S != 0) = true := bne_iff_ne.2 h4
          clear h4
          generalize shV S = v at *
          obtain ⟨n1, n2, n3, n4, n5, n6⟩ := HNE.out
          go_wp2
          exact bodyPost_ret (v := .tuple #[zSt.v, .int .i64 v]) (by simp only [results, Tryz.results14]; go_simp <;> rfl) rfl ⟨by rw [HT.out, HRR.out.1, HX.out], H1.out.out _ _ _ _⟩
    · have HX := Lib.hid (enE_1 (s := s) (S := S) (ep := ep) (lim := lim) (fun h => h2 h.2))
      have HT := Lib.hid (show T = zSt from by rw [HRR.out.2]; exact en_no HX.out (by decide))
      obtain ⟨n1, n2, n3, n4, n5, n6⟩ := HNE.out
      go_wp2
      exact bodyPost_ret (v := .tuple #[zSt.v, .int .i64 1]) (by simp only [results, Tryz.results14]; go_simp <;> rfl) rfl ⟨by rw [HT.out, HRR.out.1, HX.out], H0.out.out _ _ _ _⟩
  · have HX := Lib.hid (enE_1 (s := s) (S := S) (ep := ep) (lim := lim) (fun h => h1 h.1))
    have HT := Lib.hid (show T = zSt from by rw [HRR.out.2]; exact en_no HX.out (by decide))
    obtain ⟨n1, n2, n3, n4, n5, n6⟩ := HNE.out
    go_wp2
    exact bodyPost_ret (v := .tuple #[zSt.v, .int .i64 1]) (by simp only [results, Tryz.results14]; go_simp <;> rfl) rfl ⟨by rw [HT.out, HRR.out.1, HX.out], H0.out.out _ _ _ _⟩
end Go.Proofs.YtdilgeabcacbdaaGreat
namespace Go.Proofs.YtdilgeabcacbdaaGreat
open Go.RowKit
set_option linter.unusedVariables false

/-- The sums of the first k stripes. -/
theorem su_zero (l : List St) (ep : Int) : suR (l.take 0) ep = 0 ∧ suL (l.take 0) ep = 0 := ⟨rfl, rfl⟩
theorem su_all (l : List St) (ep : Int) : suR (l.take l.length) ep = suR l ep ∧ suL (l.take l.length) ep = suL l ep := by rw [List.take_length]; exact ⟨rfl, rfl⟩
theorem su_rng {l : List St} {k : Nat} (hk : k ≤ l.length) (hl : l.length ≤ 1000) (ep : Int) : (0 ≤ suR (l.take k) ep ∧ suR (l.take k) ep ≤ 1099511627776000) ∧ (0 ≤ suL (l.take k) ep ∧ suL (l.take k) ep ≤ 1099511627776000) := by
  have h1 := suR_rng (l.take k) ep
  have h2 := suL_rng (l.take k) ep
  have h3 : ((l.take k).length : Int) ≤ 1000 := by simp; omega
  omega
theorem su_no {l : List St} {k : Nat} (h : k < l.length) {ep : Int} (hc : ¬ ((tg l k).ep = ep ∧ nbP (tg l k).sq ∧ nbP (tg l k).rd ∧ nbP (tg l k).ls)) : suR (l.take (k + 1)) ep = suR (l.take k) ep ∧ suL (l.take (k + 1)) ep = suL (l.take k) ep := by
  have e := cnB_no hc
  rw [suR_succ h, suL_succ h, e]
  simp
theorem su_yes {l : List St} {k : Nat} (h : k < l.length) {ep : Int} (hc : (tg l k).ep = ep ∧ nbP (tg l k).sq ∧ nbP (tg l k).rd ∧ nbP (tg l k).ls) : suR (l.take (k + 1)) ep = suR (l.take k) ep + (tg l k).rd ∧ suL (l.take (k + 1)) ep = suL (l.take k) ep + (tg l k).ls := by
  have e := cnB_iff.2 hc
  rw [suR_succ h, suL_succ h, e]
  simp
/-- The four ways in which a stripe does not count. -/
theorem cn_ways {s : St} {ep : Int} : (s.ep = ep ∧ nbP s.sq ∧ nbP s.rd ∧ nbP s.ls) ∨ ((s.ep == ep) = false ∧ ¬ (s.ep = ep ∧ nbP s.sq ∧ nbP s.rd ∧ nbP s.ls)) ∨ (((s.ep == ep) = true ∧ nbB s.sq = false) ∧ ¬ (s.ep = ep ∧ nbP s.sq ∧ nbP s.rd ∧ nbP s.ls)) ∨ (((s.ep == ep) = true ∧ nbB s.sq = true ∧ nbB s.rd = false) ∧ ¬ (s.ep = ep ∧ nbP s.sq ∧ nbP s.rd ∧ nbP s.ls)) ∨ (((s.ep == ep) = true ∧ nbB s.sq = true ∧ nbB s.rd = true ∧ nbB s.ls = false) ∧ ¬ (s.ep = ep ∧ nbP s.sq ∧ nbP s.rd ∧ nbP s.ls)) := by
  by_cases h0 : s.ep = ep
  · have h0' : (s.ep == ep) = true := by simpa using h0
    by_cases h1 : nbP s.sq
    · by_cases h2 : nbP s.rd
      · by_cases h3 : nbP s.ls
        · exact .inl ⟨h0, h1, h2, h3⟩
        · exact .inr (.inr (.inr (.inr ⟨⟨h0', nbB_yes h1, nbB_yes h2, nbB_no h3⟩, fun h => h3 h.2.2.2⟩)))
      · exact .inr (.inr (.inr (.inl ⟨⟨h0', nbB_yes h1, nbB_no h2⟩, fun h => h2 h.2.2.1⟩)))
    · exact .inr (.inr (.inl ⟨⟨h0', nbB_no h1⟩, fun h => h1 h.2.1⟩))
  · exact .inr (.inl ⟨by simpa using h0, fun h => h0 h.1⟩)

set_option maxHeartbeats 4000000 in
set_option maxRecDepth 20000 in
theorem ysum_any (A : Option Addr) (n c : Nat) (l : List St) (ep : Int) (w : World) (hv : Tl w w.heap.size (.slice A n c) l) (hl : n ≤ 1000) :
    Calls Tryz.prog 16 #[.slice A n c, .int .i64 ep] w fun e w' => e = .returned (.tuple #[.int .i64 (suR l ep), .int .i64 (suL l ep)]) ∧ Below w.heap.size w w' := by
  obtain ⟨rfl, hm1, hm2⟩ := hv.len
  have HLL := Lib.hid hl
  have hL : l.length ≤ 9223372036854775807 := by omega
  have HV := Lib.hid hv
  have HB := Lib.hid (Below.refl w.heap.size w)
  have HZ := Lib.hid (su_zero l ep)
  clear hv hm1 hm2 hl
  go_enter Tryz.func16, Tryz.ntmps16
  go_wp2
  go_loopw [4, 5, 10] (fun x y i wr => ∃ k : Nat, k ≤ l.length ∧ i = .int .i64 k ∧ x = .int .i64 (suR (l.take k) ep) ∧ y = .int .i64 (suL (l.take k) ep) ∧ Below w.heap.size w wr) (fun _ _ i _ => l.length - (intOf i).toNat)
  case atStart => exact ⟨0, by omega, rfl, by rw [HZ.out.1], by rw [HZ.out.2], HB.out⟩
  case round =>
    obtain ⟨k, hk, rfl, rfl, rfl, hb⟩ := hrel
    have HVK := Lib.hid (HV.out.below hb)
    have HB := Lib.hid hb
    clear hb HZ
    by_cases hlt : k < l.length
    · obtain ⟨b, o, rfl, hb, c0, c1, c2, c3⟩ := HVK.out.atg hlt
      have HQ := Lib.hid (fun w1 => ynumber_any (tg l k).sq w1)
      have HR := Lib.hid (fun w1 => ynumber_any (tg l k).rd w1)
      have HL := Lib.hid (fun w1 => ynumber_any (tg l k).ls w1)
      have HA := Lib.hid (HB.out.alloc HB.out.size (.cells #[.int .i64 (tg l k).sq, .int .i64 (tg l k).ep, .int .i64 (tg l k).rd, .int .i64 (tg l k).ls] 28))
      have HG := Lib.hid (su_rng hk HLL.out ep)
      have HG2 := Lib.hid (su_rng (show k + 1 ≤ l.length by omega) HLL.out ep)
      have hlt' : (k : Int) < (l.length : Int) := by omega
      have hw2 : IntKind.i64.wrap ((k : Int) + 1) = (k : Int) + 1 := IntWalk.i64_in _ (by omega)
      rcases cn_ways (s := tg l k) (ep := ep) with hc | ⟨q0, hc⟩ | ⟨⟨q0, q1⟩, hc⟩ | ⟨⟨q0, q1, q2⟩, hc⟩ | ⟨⟨q0, q1, q2, q3⟩, hc⟩
      · have HS := Lib.hid (su_yes hlt hc)
        rw [HS.out.1, HS.out.2] at HG2
        have q0 : ((tg l k).ep == ep) = true := by simpa using hc.1
        rw [nbB_yes hc.2.1] at HQ
        rw [nbB_yes hc.2.2.1] at HR
        rw [nbB_yes hc.2.2.2] at HL
        have hws1 : IntKind.i64.wrap (suR (l.take k) ep + (tg l k).rd) = suR (l.take k) ep + (tg l k).rd := IntWalk.i64_in _ (by have := HG2.out; omega)
        have hws2 : IntKind.i64.wrap (suL (l.take k) ep + (tg l k).ls) = suL (l.take k) ep + (tg l k).ls := IntWalk.i64_in _ (by have := HG2.out; omega)
        have hws3 : wrap64 (suR (l.take k) ep + (tg l k).rd) = suR (l.take k) ep + (tg l k).rd := IntWalk.wrap64_in _ (by have := HG2.out; omega)
        have hws4 : wrap64 (suL (l.take k) ep + (tg l k).ls) = suL (l.take k) ep + (tg l k).ls := IntWalk.wrap64_in _ (by have := HG2.out; omega)
        clear hc
        generalize suR (l.take k) ep = X at *
        generalize suL (l.take k) ep = Y at *
        generalize tg l k = M at *
        go_wp2_with fail
        refine (HQ.out _).mono ?_
        rintro e w5 ⟨rfl, rfl⟩
        go_wp2_with fail
        refine (HR.out _).mono ?_
        rintro e w6 ⟨rfl, rfl⟩
        go_wp2_with fail
        refine (HL.out _).mono ?_
        rintro e w7 ⟨rfl, rfl⟩
        go_wp2
        go_roundw
        case rel => exact ⟨k + 1, by omega, by go_num, by rw [HS.out.1], by rw [HS.out.2], HA.out⟩
        case measure => simp [intOf]; omega
      · have HS := Lib.hid (su_no hlt hc)
        clear hc
        generalize suR (l.take k) ep = X at *
        generalize suL (l.take k) ep = Y at *
        generalize tg l k = M at *
        go_wp2
        go_roundw
        case rel => exact ⟨k + 1, by omega, by go_num, by rw [HS.out.1], by rw [HS.out.2], HA.out⟩
        case measure => simp [intOf]; omega
      · have HS := Lib.hid (su_no hlt hc)
        rw [q1] at HQ
        clear hc q1
        generalize suR (l.take k) ep = X at *
        generalize suL (l.take k) ep = Y at *
        generalize tg l k = M at *
        go_wp2_with fail
        refine (HQ.out _).mono ?_
        rintro e w5 ⟨rfl, rfl⟩
        go_wp2
        go_roundw
        case rel => exact ⟨k + 1, by omega, by go_num, by rw [HS.out.1], by rw [HS.out.2], HA.out⟩
        case measure => simp [intOf]; omega
      · have HS := Lib.hid (su_no hlt hc)
        rw [q1] at HQ
        rw [q2] at HR
        clear hc q1 q2
        generalize suR (l.take k) ep = X at *
        generalize suL (l.take k) ep = Y at *
        generalize tg l k = M at *
        go_wp2_with fail
        refine (HQ.out _).mono ?_
        rintro e w5 ⟨rfl, rfl⟩
        go_wp2_with fail
        refine (HR.out _).mono ?_
        rintro e w6 ⟨rfl, rfl⟩
        go_wp2
        go_roundw
        case rel => exact ⟨k + 1, by omega, by go_num, by rw [HS.out.1], by rw [HS.out.2], HA.out⟩
        case measure => simp [intOf]; omega
      · have HS := Lib.hid (su_no hlt hc)
        rw [q1] at HQ
        rw [q2] at HR
        rw [q3] at HL
        clear hc q1 q2 q3
        generalize suR (l.take k) ep = X at *
        generalize suL (l.take k) ep = Y at *
        generalize tg l k = M at *
        go_wp2_with fail
        refine (HQ.out _).mono ?_
        rintro e w5 ⟨rfl, rfl⟩
        go_wp2_with fail
        refine (HR.out _).mono ?_
        rintro e w6 ⟨rfl, rfl⟩
        go_wp2_with fail
        refine (HL.out _).mono ?_
        rintro e w7 ⟨rfl, rfl⟩
        go_wp2
        go_roundw
        case rel => exact ⟨k + 1, by omega, by go_num, by rw [HS.out.1], by rw [HS.out.2], HA.out⟩
        case measure => simp [intOf]; omega
    · have hke : k = l.length := by omega
      subst hke
      have HE := Lib.hid (su_all l ep)
      rw [HE.out.1, HE.out.2]
      clear hlt hk
      go_wp2
      exact bodyPost_ret (v := .tuple #[.int .i64 (suR l ep), .int .i64 (suL l ep)]) (by simp only [results, Tryz.results16]; go_simp <;> rfl) rfl ⟨rfl, HB.out⟩

set_option maxHeartbeats 4000000 in
set_option maxRecDepth 20000 in
theorem rsum11_any (A : Option Addr) (n c : Nat) (l : List St) (ep : Int) (w : World) (hv : Tl w w.heap.size (.slice A n c) l) (hl : n ≤ 1000) :
    Calls Tryz.prog 17 #[.slice A n c, .int .i64 ep] w fun e w' => e = .returned (.tuple #[.int .i64 (suR l ep), .int .i64 (suL l ep)]) ∧ Below w.heap.size w w' := by
  obtain ⟨rfl, hm1, hm2⟩ := hv.len
  have HLL := Lib.hid hl
  have hL : l.length ≤ 9223372036854775807 := by omega
  have HV := Lib.hid hv
  have HB := Lib.hid (Below.refl w.heap.size w)
  have HZ := Lib.hid (su_zero l ep)
  clear hv hm1 hm2 hl
  go_enter Tryz.func17, Tryz.ntmps17
  go_wp2
  go_loopw [6, 7, 8] (fun x y i wr => ∃ k : Nat, k ≤ l.length ∧ i = .int .i64 k ∧ x = .int .i64 (suR (l.take k) ep) ∧ y = .int .i64 (suL (l.take k) ep) ∧ Below w.heap.size w wr) (fun _ _ i _ => l.length - (intOf i).toNat)
  case atStart => exact ⟨0, by omega, rfl, by rw [HZ.out.1], by rw [HZ.out.2], HB.out⟩
  case round =>
    obtain ⟨k, hk, rfl, rfl, rfl, hb⟩ := hrel
    have HVK := Lib.hid (HV.out.below hb)
    have HB := Lib.hid hb
    clear hb HZ
    by_cases hlt : k < l.length
    · obtain ⟨b, o, rfl, hb, c0, c1, c2, c3⟩ := HVK.out.atg hlt
      have HQ := Lib.hid (fun w1 => rcounted_any (tg l k).sq w1)
      have HR := Lib.hid (fun w1 => rcounted_any (tg l k).rd w1)
      have HL := Lib.hid (fun w1 => rcounted_any (tg l k).ls w1)
      have HA := Lib.hid (HB.out.alloc HB.out.size (.cells #[.int .i64 (tg l k).sq, .int .i64 (tg l k).ep, .int .i64 (tg l k).rd, .int .i64 (tg l k).ls] 28))
      have HG := Lib.hid (su_rng hk HLL.out ep)
      have HG2 := Lib.hid (su_rng (show k + 1 ≤ l.length by omega) HLL.out ep)
      have hlt' : (k : Int) < (l.length : Int) := by omega
      have hw2 : IntKind.i64.wrap ((k : Int) + 1) = (k : Int) + 1 := IntWalk.i64_in _ (by omega)
      rcases cn_ways (s := tg l k) (ep := ep) with hc | ⟨q0, hc⟩ | ⟨⟨q0, q1⟩, hc⟩ | ⟨⟨q0, q1, q2⟩, hc⟩ | ⟨⟨q0, q1, q2, q3⟩, hc⟩
      · have HS := Lib.hid (su_yes hlt hc)
        rw [HS.out.1, HS.out.2] at HG2
        have q0 : ((tg l k).ep == ep) = true := by simpa using hc.1
        rw [nbB_yes hc.2.1] at HQ
        rw [nbB_yes hc.2.2.1] at HR
        rw [nbB_yes hc.2.2.2] at HL
        have hws1 : IntKind.i64.wrap (suR (l.take k) ep + (tg l k).rd) = suR (l.take k) ep + (tg l k).rd := IntWalk.i64_in _ (by have := HG2.out; omega)
        have hws2 : IntKind.i64.wrap (suL (l.take k) ep + (tg l k).ls) = suL (l.take k) ep + (tg l k).ls := IntWalk.i64_in _ (by have := HG2.out; omega)
        have hws3 : wrap64 (suR (l.take k) ep + (tg l k).rd) = suR (l.take k) ep + (tg l k).rd := IntWalk.wrap64_in _ (by have := HG2.out; omega)
        have hws4 : wrap64 (suL (l.take k) ep + (tg l k).ls) = suL (l.take k) ep + (tg l k).ls := IntWalk.wrap64_in _ (by have := HG2.out; omega)
        clear hc
        generalize suR (l.take k) ep = X at *
        generalize suL (l.take k) ep = Y at *
        generalize tg l k = M at *
        go_wp2_with fail
        refine (HQ.out _).mono ?_
        rintro e w5 ⟨rfl, rfl⟩
        go_wp2_with fail
        refine (HR.out _).mono ?_
        rintro e w6 ⟨rfl, rfl⟩
        go_wp2_with fail
        refine (HL.out _).mono ?_
        rintro e w7 ⟨rfl, rfl⟩
        go_wp2
        go_roundw
        case rel => exact ⟨k + 1, by omega, by go_num, by rw [HS.out.1], by rw [HS.out.2], HB.out⟩
        case measure => simp [intOf]; omega
      · have HS := Lib.hid (su_no hlt hc)
        clear hc
        generalize suR (l.take k) ep = X at *
        generalize suL (l.take k) ep = Y at *
        generalize tg l k = M at *
        go_wp2
        go_roundw
        case rel => exact ⟨k + 1, by omega, by go_num, by rw [HS.out.1], by rw [HS.out.2], HB.out⟩
        case measure => simp [intOf]; omega
      · have HS := Lib.hid (su_no hlt hc)
        rw [q1] at HQ
        clear hc q1
        generalize suR (l.take k) ep = X at *
        generalize suL (l.take k) ep = Y at *
        generalize tg l k = M at *
        go_wp2_with fail
        refine (HQ.out _).mono ?_
        rintro e w5 ⟨rfl, rfl⟩
        go_wp2
        go_roundw
        case rel => exact ⟨k + 1, by omega, by go_num, by rw [HS.out.1], by rw [HS.out.2], HB.out⟩
        case measure => simp [intOf]; omega
      · have HS := Lib.hid (su_no hlt hc)
        rw [q1] at HQ
        rw [q2] at HR
        clear hc q1 q2
        generalize suR (l.take k) ep = X at *
        generalize suL (l.take k) ep = Y at *
        generalize tg l k = M at *
        go_wp2_with fail
        refine (HQ.out _).mono ?_
        rintro e w5 ⟨rfl, rfl⟩
        go_wp2_with fail
        refine (HR.out _).mono ?_
        rintro e w6 ⟨rfl, rfl⟩
        go_wp2
        go_roundw
        case rel => exact ⟨k + 1, by omega, by go_num, by rw [HS.out.1], by rw [HS.out.2], HB.out⟩
        case measure => simp [intOf]; omega
      · have HS := Lib.hid (su_no hlt hc)
        rw [q1] at HQ
        rw [q2] at HR
        rw [q3] at HL
        clear hc q1 q2 q3
        generalize suR (l.take k) ep = X at *
        generalize suL (l.take k) ep = Y at *
        generalize tg l k = M at *
        go_wp2_with fail
        refine (HQ.out _).mono ?_
        rintro e w5 ⟨rfl, rfl⟩
        go_wp2_with fail
        refine (HR.out _).mono ?_
        rintro e w6 ⟨rfl, rfl⟩
        go_wp2_with fail
        refine (HL.out _).mono ?_
        rintro e w7 ⟨rfl, rfl⟩
        go_wp2
        go_roundw
        case rel => exact ⟨k + 1, by omega, by go_num, by rw [HS.out.1], by rw [HS.out.2], HB.out⟩
        case measure => simp [intOf]; omega
    · have hke : k = l.length := by omega
      subst hke
      have HE := Lib.hid (su_all l ep)
      rw [HE.out.1, HE.out.2]
      clear hlt hk
      go_wp2
      exact bodyPost_ret (v := .tuple #[.int .i64 (suR l ep), .int .i64 (suL l ep)]) (by simp only [results, Tryz.results17]; go_simp <;> rfl) rfl ⟨rfl, HB.out⟩
end Go.Proofs.YtdilgeabcacbdaaGreat
namespace Go.Proofs.YtdilgeabcacbdaaGreat
open Go.RowKit
set_option linter.unusedVariables false

/-- Block r holds a stripe. -/
def YT (W : World) (r : Nat) (T : St) : Prop := (W.cell? ⟨r, 0, none⟩ = some (.int .i64 T.sq) ∧ W.cell? ⟨r, 1, none⟩ = some (.int .i64 T.ep) ∧ W.cell? ⟨r, 2, none⟩ = some (.int .i64 T.rd) ∧ W.cell? ⟨r, 3, none⟩ = some (.int .i64 T.ls)) ∧ r < W.heap.size
theorem YT.up {W W' : World} {r : Nat} {T : St} (h : YT W r T) (hb : Below W.heap.size W W') : YT W' r T :=
  ⟨⟨(hb.cell (p := ⟨r, 0, none⟩) h.2).trans h.1.1, (hb.cell (p := ⟨r, 1, none⟩) h.2).trans h.1.2.1, (hb.cell (p := ⟨r, 2, none⟩) h.2).trans h.1.2.2.1, (hb.cell (p := ⟨r, 3, none⟩) h.2).trans h.1.2.2.2⟩, Nat.lt_of_lt_of_le h.2 hb.size⟩
theorem YT.start (w : World) (T : St) (t : TypeId) : YT (w.alloc (.cells #[.int .i64 T.sq, .int .i64 T.ep, .int .i64 T.rd, .int .i64 T.ls] t)) w.heap.size T :=
  ⟨⟨by simp [go_sem], by simp [go_sem], by simp [go_sem], by simp [go_sem]⟩, by simp⟩
theorem rd_two (w : World) (a b : St) (t : TypeId) : Rd (w.alloc (.cells #[.int .i64 a.sq, .int .i64 a.ep, .int .i64 a.rd, .int .i64 a.ls, .int .i64 b.sq, .int .i64 b.ep, .int .i64 b.rd, .int .i64 b.ls] t)) (w.heap.size + 1) 4 (some ⟨w.heap.size, 0, none⟩) 2 (tcs [a, b]) :=
  ⟨rfl, fun _ => ⟨w.heap.size, 0, rfl, Nat.lt_succ_self _, fun i u hu => by
    have hi : i < 8 := by have := (List.getElem?_eq_some_iff.1 hu).1; exact this
    match i, hi with
    | 0, _ => injection hu with hu; subst hu; simp [go_sem]
    | 1, _ => injection hu with hu; subst hu; simp [go_sem]
    | 2, _ => injection hu with hu; subst hu; simp [go_sem]
    | 3, _ => injection hu with hu; subst hu; simp [go_sem]
    | 4, _ => injection hu with hu; subst hu; simp [go_sem]
    | 5, _ => injection hu with hu; subst hu; simp [go_sem]
    | 6, _ => injection hu with hu; subst hu; simp [go_sem]
    | 7, _ => injection hu with hu; subst hu; simp [go_sem]⟩⟩
theorem rd_one (w : World) (a : St) (t : TypeId) : Rd (w.alloc (.cells #[.int .i64 a.sq, .int .i64 a.ep, .int .i64 a.rd, .int .i64 a.ls] t)) (w.heap.size + 1) 4 (some ⟨w.heap.size, 0, none⟩) 1 (tcs [a]) :=
  ⟨rfl, fun _ => ⟨w.heap.size, 0, rfl, Nat.lt_succ_self _, fun i u hu => by
    have hi : i < 4 := by have := (List.getElem?_eq_some_iff.1 hu).1; exact this
    match i, hi with
    | 0, _ => injection hu with hu; subst hu; simp [go_sem]
    | 1, _ => injection hu with hu; subst hu; simp [go_sem]
    | 2, _ => injection hu with hu; subst hu; simp [go_sem]
    | 3, _ => injection hu with hu; subst hu; simp [go_sem]⟩⟩
theorem tl_two (w : World) (a b : St) (t : TypeId) : Tl (w.alloc (.cells #[.int .i64 a.sq, .int .i64 a.ep, .int .i64 a.rd, .int .i64 a.ls, .int .i64 b.sq, .int .i64 b.ep, .int .i64 b.rd, .int .i64 b.ls] t)) (w.alloc (.cells #[.int .i64 a.sq, .int .i64 a.ep, .int .i64 a.rd, .int .i64 a.ls, .int .i64 b.sq, .int .i64 b.ep, .int .i64 b.rd, .int .i64 b.ls] t)).heap.size (.slice (some ⟨w.heap.size, 0, none⟩) 2 2) [a, b] := by
  rw [World.size_alloc]
  exact ⟨_, 2, rfl, Nat.le_refl _, by unfold maxLen; omega, rd_two w a b t⟩
theorem tl_one (w : World) (a : St) (t : TypeId) : Tl (w.alloc (.cells #[.int .i64 a.sq, .int .i64 a.ep, .int .i64 a.rd, .int .i64 a.ls] t)) (w.alloc (.cells #[.int .i64 a.sq, .int .i64 a.ep, .int .i64 a.rd, .int .i64 a.ls] t)).heap.size (.slice (some ⟨w.heap.size, 0, none⟩) 1 1) [a] := by
  rw [World.size_alloc]
  exact ⟨_, 1, rfl, Nat.le_refl _, by unfold maxLen; omega, rd_one w a t⟩

theorem aw11_1 : suR [⟨2, 1, 3, 4⟩, ⟨0, 0, 5, 6⟩] 1 = 3 ∧ suL [⟨2, 1, 3, 4⟩, ⟨0, 0, 5, 6⟩] 1 = 4 ∧ bgE ⟨4, 0, 0, 0⟩ = 0 ∧ bgT ⟨4, 0, 0, 0⟩ = ⟨5, 0, 0, 0⟩ := by decide
set_option maxHeartbeats 4000000 in
set_option maxRecDepth 20000 in
theorem awake11_any (w : World) : Calls Tryz.prog 22 #[] w fun e w' => e = .returned (.bool true) ∧ Below w.heap.size w w' := by
  have HS := Lib.hid (ysum_any (some ⟨w.heap.size, 0, none⟩) 2 2 [⟨2, 1, 3, 4⟩, ⟨0, 0, 5, 6⟩] 1 _ (tl_two w ⟨2, 1, 3, 4⟩ ⟨0, 0, 5, 6⟩ 28) (by omega))
  have HG := Lib.hid (fun W => ybegin_any ⟨4, 0, 0, 0⟩ W)
  have HB0 := Lib.hid ((Below.refl w.heap.size w).alloc (Nat.le_refl _) (.cells #[.int .i64 2, .int .i64 1, .int .i64 3, .int .i64 4, .int .i64 0, .int .i64 0, .int .i64 5, .int .i64 6] 28))
  rw [aw11_1.1, aw11_1.2.1] at HS
  rw [aw11_1.2.2.1, aw11_1.2.2.2] at HG
  go_enter Tryz.func22, Tryz.ntmps22
  go_wp2_with fail
  refine HS.out.mono ?_
  rintro e w1 ⟨rfl, hb⟩
  have HB1 := Lib.hid (HB0.out.trans (hb.mono HB0.out.size))
  clear hb HB0 HS
  go_wp2_with fail
  refine (HG.out _).mono ?_
  rintro e w2 ⟨rfl, hb⟩
  have HB2 := Lib.hid (HB1.out.trans (hb.mono HB1.out.size))
  have HB3 := Lib.hid (HB2.out.alloc HB2.out.size (.cells #[.int .i64 5, .int .i64 0, .int .i64 0, .int .i64 0] 28))
  clear hb HB1 HG
  go_wp2
  go_ret
  exact ⟨rfl, HB3.out⟩
end Go.Proofs.YtdilgeabcacbdaaGreat
