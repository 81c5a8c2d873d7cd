/- What is proved here: arena.within, arena.isSetup, ref12.in by contracts; stripe.isOdd, isNumber, within, Begin and ref11.Begin, counted by contracts; ref07.Counts by a contract; stripe.endError, stripe.Begin, stripe.End, ref11.End by contracts; stripe.Begin, stripe.End, ref11.End by contracts. -/
import Derived.Test.YtijpflljopckiaaJ02
import Derived.Test.YtijpflljopckiaaJ27
import Derived.Test.YtijpflljopckiaaJ12
import Derived.Test.YtijpflljopckiaaRows
import Derived.WalkKit
import Derived.Outline
import Derived.IntWalk
import Derived.Test.YtijpflljopckiaaJ20
import Derived.Test.YtijpflljopckiaaJ26
import Derived.Test.YtijpflljopckiaaJ19
import Derived.Deep.RegionHeld3
import Derived.Deep.QuietTactic
import Derived.Test.YtijpflljopckiaaJ24
import Derived.BigQuiet
namespace Go.Proofs.Ytijpflljopckiaa
open Go.RowKit
set_option linter.unusedVariables false

theorem awithin_any (n lo hi : Int) (w : World) : Calls Try.prog 63 #[.int .i64 n, .int .i64 lo, .int .i64 hi] w fun e w' => e = .returned (.bool (wi n lo hi)) ∧ w = w' := by
  by_cases h1 : lo ≤ n
  · by_cases h2 : n ≤ hi
    · have H := Lib.hid (wi_true h1 h2)
      go_enter Try.func63, Try.ntmps63
      go_wp2
      go_ret
      exact ⟨by rw [H.out]; rfl, rfl⟩
    · have H := Lib.hid (show wi n lo hi = false from decide_eq_false (fun h => h2 h.2))
      go_enter Try.func63, Try.ntmps63
      go_wp2
      go_ret
      exact ⟨by rw [H.out]; rfl, rfl⟩
  · have H := Lib.hid (show wi n lo hi = false from decide_eq_false (fun h => h1 h.1))
    go_enter Try.func63, Try.ntmps63
    go_wp2
    go_ret
    exact ⟨by rw [H.out]; rfl, rfl⟩

theorem rin12_any (n lo hi : Int) (w : World) : Calls Try.prog 57 #[.int .i64 n, .int .i64 lo, .int .i64 hi] w fun e w' => e = .returned (.bool (wi n lo hi)) ∧ w = w' := by
  by_cases h1 : lo ≤ n
  · by_cases h2 : n ≤ hi
    · have H := Lib.hid (wi_true h1 h2)
      go_enter Try.func57, Try.ntmps57
      go_wp2
      go_ret
      exact ⟨by rw [H.out]; rfl, rfl⟩
    · have H := Lib.hid (show wi n lo hi = false from decide_eq_false (fun h => h2 h.2))
      go_enter Try.func57, Try.ntmps57
      go_wp2
      go_ret
      exact ⟨by rw [H.out]; rfl, rfl⟩
  · have H := Lib.hid (show wi n lo hi = false from decide_eq_false (fun h => h1 h.1))
    go_enter Try.func57, Try.ntmps57
    go_wp2
    go_ret
    exact ⟨by rw [H.out]; rfl, rfl⟩

/-- Whether the numbers of a setup are in their ranges. -/
def suB (s : Su) : Bool := (((((((wi s.sl 1 6 && wi s.lv 1 s.sl) && wi s.cp 1 12) && wi s.dd 1 24) && wi s.lm 1 8) && wi s.ck 0 1073741824) && wi s.ni 1 1073741824) && wi s.ep 0 65536)
theorem suB_ok (s : Su) : suB s = decide s.Ok := by
  unfold suB wi Su.Ok
  rw [Bool.eq_iff_iff]
  simp only [Bool.and_eq_true, decide_eq_true_eq, and_assoc]
theorem suB_iff {s : Su} : suB s = true ↔ s.Ok := by rw [suB_ok, decide_eq_true_eq]
set_option maxHeartbeats 4000000 in
set_option maxRecDepth 20000 in
theorem isset_any (s : Su) (w : World) : Calls Try.prog 32 #[s.v] w fun e w' => e = .returned (.bool (suB s)) ∧ Below w.heap.size w w' := by
  have HWI := Lib.hid (fun n lo hi W => awithin_any n lo hi W)
  have HSB := Lib.hid (SuB.start w s 41)
  have HBL := Lib.hid ((Below.refl w.heap.size w).alloc (Nat.le_refl _) (.cells #[.int .i64 s.sl, .int .i64 s.lv, .int .i64 s.cp, .int .i64 s.dd, .int .i64 s.lm, .int .i64 s.ck, .int .i64 s.ni, .int .i64 s.ep] 41))
  obtain ⟨p, hp⟩ : ∃ p, p = w.heap.size := ⟨_, rfl⟩
  have HPP := Lib.hid hp
  clear hp
  obtain ⟨b0, hb0⟩ : ∃ b, b = wi s.sl 1 6 := ⟨_, rfl⟩
  have H0 := Lib.hid hb0.symm
  clear hb0
  obtain ⟨b1, hb1⟩ : ∃ b, b = wi s.lv 1 s.sl := ⟨_, rfl⟩
  have H1 := Lib.hid hb1.symm
  clear hb1
  obtain ⟨b2, hb2⟩ : ∃ b, b = wi s.cp 1 12 := ⟨_, rfl⟩
  have H2 := Lib.hid hb2.symm
  clear hb2
  obtain ⟨b3, hb3⟩ : ∃ b, b = wi s.dd 1 24 := ⟨_, rfl⟩
  have H3 := Lib.hid hb3.symm
  clear hb3
  obtain ⟨b4, hb4⟩ : ∃ b, b = wi s.lm 1 8 := ⟨_, rfl⟩
  have H4 := Lib.hid hb4.symm
  clear hb4
  obtain ⟨b5, hb5⟩ : ∃ b, b = wi s.ck 0 1073741824 := ⟨_, rfl⟩
  have H5 := Lib.hid hb5.symm
  clear hb5
  obtain ⟨b6, hb6⟩ : ∃ b, b = wi s.ni 1 1073741824 := ⟨_, rfl⟩
  have H6 := Lib.hid hb6.symm
  clear hb6
  obtain ⟨b7, hb7⟩ : ∃ b, b = wi s.ep 0 65536 := ⟨_, rfl⟩
  have H7 := Lib.hid hb7.symm
  clear hb7
  have HSU := Lib.hid (show suB s = (((((((b0 && b1) && b2) && b3) && b4) && b5) && b6) && b7) from by unfold suB; rw [H0.out, H1.out, H2.out, H3.out, H4.out, H5.out, H6.out, H7.out])
  go_enter Try.func32, Try.ntmps32
  go_wp2_with fail
  rw [← HPP.out] at HSB ⊢
  generalize w.alloc (.cells #[.int .i64 s.sl, .int .i64 s.lv, .int .i64 s.cp, .int .i64 s.dd, .int .i64 s.lm, .int .i64 s.ck, .int .i64 s.ni, .int .i64 s.ep] 41) = w0 at *
  obtain ⟨k0, k1, k2, k3, k4, k5, k6, k7⟩ := HSB.out.k
  have kl := HSB.out.lt
  go_wp2_with fail
  refine (HWI.out _ _ _ _).mono ?_
  rintro e w1 ⟨rfl, rfl⟩
  rw [H0.out]
  cases b0 with
  | false =>
    go_wp2
    go_ret
    exact ⟨by rw [HSU.out]; simp, HBL.out⟩
  | true =>
    go_wp2_with fail
    refine (HWI.out _ _ _ _).mono ?_
    rintro e w1 ⟨rfl, rfl⟩
    rw [H1.out]
    cases b1 with
    | false =>
      go_wp2
      go_ret
      exact ⟨by rw [HSU.out]; simp, HBL.out⟩
    | true =>
      go_wp2_with fail
      refine (HWI.out _ _ _ _).mono ?_
      rintro e w1 ⟨rfl, rfl⟩
      rw [H2.out]
      cases b2 with
      | false =>
        go_wp2
        go_ret
        exact ⟨by rw [HSU.out]; simp, HBL.out⟩
      | true =>
        go_wp2_with fail
        refine (HWI.out _ _ _ _).mono ?_
        rintro e w1 ⟨rfl, rfl⟩
        rw [H3.out]
        cases b3 with
        | false =>
          go_wp2
          go_ret
          exact ⟨by rw [HSU.out]; simp, HBL.out⟩
        | true =>
          go_wp2_with fail
          refine (HWI.out _ _ _ _).mono ?_
          rintro e w1 ⟨rfl, rfl⟩
          rw [H4.out]
          cases b4 with
          | false =>
            go_wp2
            go_ret
            exact ⟨by rw [HSU.out]; simp, HBL.out⟩
          | true =>
            go_wp2_with fail
            refine (HWI.out _ _ _ _).mono ?_
            rintro e w1 ⟨rfl, rfl⟩
            rw [H5.out]
            cases b5 with
            | false =>
              go_wp2
              go_ret
              exact ⟨by rw [HSU.out]; simp, HBL.out⟩
            | true =>
              go_wp2_with fail
              refine (HWI.out _ _ _ _).mono ?_
              rintro e w1 ⟨rfl, rfl⟩
              rw [H6.out]
              cases b6 with
              | false =>
                go_wp2
                go_ret
                exact ⟨by rw [HSU.out]; simp, HBL.out⟩
              | true =>
                go_wp2_with fail
                refine (HWI.out _ _ _ _).mono ?_
                rintro e w1 ⟨rfl, rfl⟩
                rw [H7.out]
                cases b7 with
                | false =>
                  go_wp2
                  go_ret
                  exact ⟨by rw [HSU.out]; simp, HBL.out⟩
                | true =>
                  go_wp2
                  go_ret
                  exact ⟨by rw [HSU.out]; rfl, HBL.out⟩
end Go.Proofs.Ytijpflljopckiaa
namespace Go.Proofs.Ytijpflljopckiaa
open Go.RowKit
set_option linter.unusedVariables false

theorem below4 {w W : World} {B r : Nat} (h : Below B w W) (hr : B ≤ r) (a b c d : Value) : Below B w ((((W.setCell ⟨r, 0, none⟩ a).setCell ⟨r, 1, none⟩ b).setCell ⟨r, 2, none⟩ c).setCell ⟨r, 3, none⟩ d) :=
  (((h.setCell (p := ⟨r, 0, none⟩) hr _).setCell (p := ⟨r, 1, none⟩) hr _).setCell (p := ⟨r, 2, none⟩) hr _).setCell (p := ⟨r, 3, none⟩) hr _
end Go.Proofs.Ytijpflljopckiaa
namespace Go.Proofs.Ytijpflljopckiaa
open Go.RowKit
set_option linter.unusedVariables false

/-- A list of messages beside the shard. -/
structure CtAt (w : World) (p : Nat) (S : Sh) (D : Sx) (v v' : Value) (L L' : List Msg) (W : World) : Prop where
  sa : SAt w p S D W
  ls : Ls W W.heap.size v L
  ls' : Ls W W.heap.size v' L'
theorem CtAt.below {w W W' : World} {p : Nat} {S : Sh} {D : Sx} {v v' : Value} {L L' : List Msg} (h : CtAt w p S D v v' L L' W) (hb : Below W.heap.size W W') : CtAt w p S D v v' L L' W' := ⟨h.sa.below hb, h.ls.upz hb, h.ls'.upz hb⟩
end Go.Proofs.Ytijpflljopckiaa
namespace Go.Proofs.Ytijpflljopckiaa
open Go.RowKit
set_option linter.unusedVariables false

section
variable {s : St} {S : Sh} {ep lim : Int}
end
/-- A stripe's box beside a shard's box. -/
structure YB (w : World) (p q : Nat) (s : St) (S : Sh) (D : Sx) (W : World) : Prop where
  sa : SAt w q S D W
  c0 : W.cell? ⟨p, 0, none⟩ = some (.int .i64 s.sq)
  c1 : W.cell? ⟨p, 1, none⟩ = some (.int .i64 s.ep)
  c2 : W.cell? ⟨p, 2, none⟩ = some (.int .i64 s.rd)
  c3 : W.cell? ⟨p, 3, none⟩ = some (.int .i64 s.ls)
  lt : p < W.heap.size
section
variable {w W W' : World} {p q : Nat} {s : St} {S : Sh} {D : Sx}
theorem YB.below (h : YB w p q s S D W) (hb : Below W.heap.size W W') : YB w p q s S D W' :=
  ⟨h.sa.below hb, (hb.cell (p := ⟨p, 0, none⟩) h.lt).trans h.c0, (hb.cell (p := ⟨p, 1, none⟩) h.lt).trans h.c1, (hb.cell (p := ⟨p, 2, none⟩) h.lt).trans h.c2, (hb.cell (p := ⟨p, 3, none⟩) h.lt).trans h.c3, Nat.lt_of_lt_of_le h.lt hb.size⟩
theorem YB.start (s : St) (h : SR w w.heap.size S D) (t u : TypeId) : YB w w.heap.size (w.heap.size + 1) s S D ((w.alloc (.cells #[.int .i64 s.sq, .int .i64 s.ep, .int .i64 s.rd, .int .i64 s.ls] t)).alloc (.cells #[.bool S.lv, .int .i64 S.lo, .int .i64 S.hi, .slice D.A S.cs.length D.c, .int .i64 S.hd, .int .i64 S.sz, .slice D.A2 S.l.length D.c2, .slice D.A3 S.h.length D.c3] u)) := by
  have hb := (Below.refl w.heap.size w).alloc (Nat.le_refl _) (.cells #[.int .i64 s.sq, .int .i64 s.ep, .int .i64 s.rd, .int .i64 s.ls] t)
  have k := SAt.start u (h.up hb)
  have e : (w.alloc (.cells #[.int .i64 s.sq, .int .i64 s.ep, .int .i64 s.rd, .int .i64 s.ls] t)).heap.size = w.heap.size + 1 := by simp
  rw [e] at k
  refine ⟨⟨k.s8, k.sr, k.off, hb.trans (k.bel.mono (by rw [e]; omega)), by omega⟩, by simp [go_sem], by simp [go_sem], by simp [go_sem], by simp [go_sem], by simp; omega⟩
theorem YB.all (h : YB w p q s S D W) : (W.cell? ⟨p, 0, none⟩ = some (.int .i64 s.sq) ∧ W.cell? ⟨p, 1, none⟩ = some (.int .i64 s.ep) ∧ W.cell? ⟨p, 2, none⟩ = some (.int .i64 s.rd) ∧ W.cell? ⟨p, 3, none⟩ = some (.int .i64 s.ls) ∧ p < W.heap.size) ∧ (W.cell? ⟨q, 0, none⟩ = some (.bool S.lv) ∧ W.cell? ⟨q, 1, none⟩ = some (.int .i64 S.lo) ∧ W.cell? ⟨q, 2, none⟩ = some (.int .i64 S.hi) ∧ W.cell? ⟨q, 3, none⟩ = some (.slice D.A S.cs.length D.c) ∧ W.cell? ⟨q, 4, none⟩ = some (.int .i64 S.hd) ∧ W.cell? ⟨q, 5, none⟩ = some (.int .i64 S.sz) ∧ W.cell? ⟨q, 6, none⟩ = some (.slice D.A2 S.l.length D.c2) ∧ W.cell? ⟨q, 7, none⟩ = some (.slice D.A3 S.h.length D.c3) ∧ q < W.heap.size) := ⟨⟨h.c0, h.c1, h.c2, h.c3, h.lt⟩, h.sa.s8.facts⟩
end

end Go.Proofs.Ytijpflljopckiaa
namespace Go.Proofs.Ytijpflljopckiaa
open Go.RowKit
set_option linter.unusedVariables false

/-- .. and a box of a result. -/
structure YC (w : World) (p q r : Nat) (s : St) (S : Sh) (D : Sx) (W : World) : Prop where
  yb : YB w p q s S D W
  r0 : W.cell? ⟨r, 0, none⟩ = some (.int .i64 0)
  r1 : W.cell? ⟨r, 1, none⟩ = some (.int .i64 0)
  r2 : W.cell? ⟨r, 2, none⟩ = some (.int .i64 0)
  r3 : W.cell? ⟨r, 3, none⟩ = some (.int .i64 0)
  fr : ∀ o, W.frozen? ⟨r, o, none⟩ = false
  lt : r < W.heap.size
  old : w.heap.size ≤ r
section
variable {w W W' : World} {p q r : Nat} {s : St} {S : Sh} {D : Sx}
theorem YC.below (h : YC w p q r s S D W) (hb : Below W.heap.size W W') : YC w p q r s S D W' :=
  ⟨h.yb.below hb, (hb.cell (p := ⟨r, 0, none⟩) h.lt).trans h.r0, (hb.cell (p := ⟨r, 1, none⟩) h.lt).trans h.r1, (hb.cell (p := ⟨r, 2, none⟩) h.lt).trans h.r2, (hb.cell (p := ⟨r, 3, none⟩) h.lt).trans h.r3, fun o => (hb.frozen (p := ⟨r, o, none⟩) h.lt).trans (h.fr o), Nat.lt_of_lt_of_le h.lt hb.size, h.old⟩
theorem YC.start (s : St) (h : SR w w.heap.size S D) (t u : TypeId) : YC w w.heap.size (w.heap.size + 1) (w.heap.size + 1 + 1) s S D (((w.alloc (.cells #[.int .i64 s.sq, .int .i64 s.ep, .int .i64 s.rd, .int .i64 s.ls] t)).alloc (.cells #[.bool S.lv, .int .i64 S.lo, .int .i64 S.hi, .slice D.A S.cs.length D.c, .int .i64 S.hd, .int .i64 S.sz, .slice D.A2 S.l.length D.c2, .slice D.A3 S.h.length D.c3] u)).alloc (.cells #[.int .i64 0, .int .i64 0, .int .i64 0, .int .i64 0] t)) := by
  have k := (YB.start s h t u)
  exact ⟨k.below ((Below.refl _ _).alloc (Nat.le_refl _) _), by simp [go_sem], by simp [go_sem], by simp [go_sem], by simp [go_sem], fun o => by simp [go_sem], by simp, by omega⟩
theorem YC.all (h : YC w p q r s S D W) : ((W.cell? ⟨p, 0, none⟩ = some (.int .i64 s.sq) ∧ W.cell? ⟨p, 1, none⟩ = some (.int .i64 s.ep) ∧ W.cell? ⟨p, 2, none⟩ = some (.int .i64 s.rd) ∧ W.cell? ⟨p, 3, none⟩ = some (.int .i64 s.ls) ∧ p < W.heap.size) ∧ (W.cell? ⟨q, 0, none⟩ = some (.bool S.lv) ∧ W.cell? ⟨q, 1, none⟩ = some (.int .i64 S.lo) ∧ W.cell? ⟨q, 2, none⟩ = some (.int .i64 S.hi) ∧ W.cell? ⟨q, 3, none⟩ = some (.slice D.A S.cs.length D.c) ∧ W.cell? ⟨q, 4, none⟩ = some (.int .i64 S.hd) ∧ W.cell? ⟨q, 5, none⟩ = some (.int .i64 S.sz) ∧ W.cell? ⟨q, 6, none⟩ = some (.slice D.A2 S.l.length D.c2) ∧ W.cell? ⟨q, 7, none⟩ = some (.slice D.A3 S.h.length D.c3) ∧ q < W.heap.size)) ∧ W.cell? ⟨r, 0, none⟩ = some (.int .i64 0) ∧ W.cell? ⟨r, 1, none⟩ = some (.int .i64 0) ∧ W.cell? ⟨r, 2, none⟩ = some (.int .i64 0) ∧ W.cell? ⟨r, 3, none⟩ = some (.int .i64 0) ∧ r < W.heap.size ∧ W.frozen? ⟨r, 0, none⟩ = false ∧ W.frozen? ⟨r, 1, none⟩ = false ∧ W.frozen? ⟨r, 2, none⟩ = false ∧ W.frozen? ⟨r, 3, none⟩ = false := ⟨h.yb.all, h.r0, h.r1, h.r2, h.r3, h.lt, h.fr 0, h.fr 1, h.fr 2, h.fr 3⟩
theorem YC.out (h : YC w p q r s S D W) (a b c d : Value) : Below w.heap.size w ((((W.setCell ⟨r, 0, none⟩ a).setCell ⟨r, 1, none⟩ b).setCell ⟨r, 2, none⟩ c).setCell ⟨r, 3, none⟩ d) := below4 h.yb.sa.bel h.old a b c d
end

end Go.Proofs.Ytijpflljopckiaa
