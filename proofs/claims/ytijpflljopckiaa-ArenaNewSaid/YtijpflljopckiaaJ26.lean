/- What is proved here: shardqueueref07.Ready, Leased, All by contracts; shardqueueref07.span and Validate by contracts; shard.Free, ref07.New by contracts; '==' and '!=' of two spans; ref10.Owner, Span, Home, Same by contracts. -/
import Derived.Test.YtijpflljopckiaaJ25
import Derived.Test.YtijpflljopckiaaJ05
import Derived.Test.YtijpflljopckiaaJ03
import Derived.Test.YtijpflljopckiaaRows
import Derived.Test.YtijpflljopckiaaJ02
import Derived.WalkKit
import Derived.Outline
import Derived.IntWalk
import Derived.Deep.QuietTactic
import Derived.BigQuiet
import Derived.Deep.AppendLies
import Derived.Deep.RegionLaw
import Derived.Test.YtijpflljopckiaaJ20
import Derived.Test.YtijpflljopckiaaJ10
import Derived.Test.YtijpflljopckiaaJ21
import Derived.Test.YtijpflljopckiaaJ13
import Derived.Laws.StructEq
import Derived.KernelRfl
import Derived.Deep.RegionHeld3
import Derived.Deep.DrawnRows
namespace Go.Proofs.Ytijpflljopckiaa
open Go.RowKit
set_option linter.unusedVariables false

theorem Ls.upz {W W' : World} {L : List Msg} {v : Value} (h : Ls W W.heap.size v L) (hb : Below W.heap.size W W') : Ls W' W'.heap.size v L := (h.below hb).more hb.size
/-- The work of All: the shard, what Ready has returned (r4), the list with it (r5), what Leased has returned (r7). -/
structure AlAt (w : World) (p B : Nat) (S : Sh) (D : Sx) (L T : List Msg) (r4 r5 r7 : Option Value) (W : World) : Prop where
  sa : SAt w p S D W
  f4 : ∀ v, r4 = some v → Ls W W.heap.size v L
  f5 : ∀ v, r5 = some v → W.ownsRow B 151 7 v L.length (lcs L)
  f7 : ∀ v, r7 = some v → Ls W W.heap.size v T
  z : W.ownsRow B 151 7 (.slice none 0 0) 0 []
  pb : p < B ∧ B ≤ W.heap.size
  off : ∀ q, B ≤ q → SOff S D q
section
variable {w W W' : World} {p B : Nat} {S : Sh} {D : Sx} {L T : List Msg} {r4 r5 r7 : Option Value} {v : Value}
theorem AlAt.below (h : AlAt w p B S D L T r4 r5 r7 W) (hb : Below W.heap.size W W') : AlAt w p B S D L T r4 r5 r7 W' :=
  ⟨h.sa.below hb, fun v e => (h.f4 v e).upz hb, fun v e => own_below (h.f5 v e) hb, fun v e => (h.f7 v e).upz hb, World.ownsRow_nil _ _ _ _, ⟨h.pb.1, Nat.le_trans h.pb.2 hb.size⟩, h.off⟩
theorem AlAt.drew (h : AlAt w p B S D L T r4 r5 r7 W) : AlAt w p B S D L T r4 r5 r7 W.drew := h.below (Below.refl _ _).drew
theorem AlAt.a4 (h : AlAt w p B S D L T r4 r5 r7 W) (hb : Below W.heap.size W W') (hl : Ls W' W'.heap.size v L) : AlAt w p B S D L T (some v) r5 r7 W' :=
  ⟨(h.below hb).sa, fun u e => by injection e with e; subst e; exact hl, (h.below hb).f5, (h.below hb).f7, World.ownsRow_nil _ _ _ _, (h.below hb).pb, h.off⟩
theorem AlAt.a7 (h : AlAt w p B S D L T r4 r5 r7 W) (hb : Below W.heap.size W W') (hl : Ls W' W'.heap.size v T) : AlAt w p B S D L T r4 r5 (some v) W' :=
  ⟨(h.below hb).sa, (h.below hb).f4, (h.below hb).f5, fun u e => by injection e with e; subst e; exact hl, World.ownsRow_nil _ _ _ _, (h.below hb).pb, h.off⟩
theorem AlAt.a5 (h : AlAt w p B S D L T r4 none r7 W) (ho : W'.ownsRow B 151 7 v (0 + L.length) ([] ++ lcs L)) (hg : W.grownBy W' (Value.ownBlock (.slice none 0 0))) : AlAt w p B S D L T r4 (some v) r7 W' := by
  have hb : Below W.heap.size W W' := ((Below.refl _ _).grown hg (Nat.le_refl _) (fun x e => by simp [Value.ownBlock] at e))
  have := h.below hb
  refine ⟨this.sa, this.f4, fun u e => by injection e with e; subst e; simpa using ho, this.f7, this.z, this.pb, h.off⟩
theorem AlAt.a8 (h : AlAt w p B S D L T r4 (some v) r7 W) {u : Value} (ho : W'.ownsRow B 151 7 u (L.length + T.length) (lcs L ++ lcs T)) (hg : W.grownBy W' v.ownBlock) : ∃ A c, u = .slice A (L ++ T).length c ∧ Ls W' W'.heap.size (.slice A (L ++ T).length c) (L ++ T) ∧ Below w.heap.size w W' := by
  obtain ⟨A, c, rfl⟩ := own_form ho
  have e : L.length + T.length = (L ++ T).length := by simp
  rw [e, ← lcs_app] at ho
  refine ⟨A, c, by rw [e], Ls.of_own ho, h.sa.bel.grown hg h.sa.bel.size (fun x e => ?_)⟩
  have h1 := ((h.f5 v rfl).lt x e).1
  have h2 := h.pb.1
  have h3 := h.sa.old
  omega
end
end Go.Proofs.Ytijpflljopckiaa
namespace Go.Proofs.Ytijpflljopckiaa
open Go.RowKit
set_option linter.unusedVariables false

set_option maxHeartbeats 2000000 in
theorem rspan7_any (lo hi : Int) (w : World) : Calls Try.prog 89 #[.int .i64 lo, .int .i64 hi] w fun e w' => e = .returned (.bool (spB lo hi)) ∧ w' = w := by
  have HB : ∀ b, (spB lo hi = true ↔ b = true) → Hid (spB lo hi = b) := fun b h => Lib.hid (by cases h1 : spB lo hi <;> cases b <;> simp_all)
  by_cases h1 : 0 ≤ lo
  · by_cases h2 : lo ≤ hi
    · by_cases h3 : hi < 65536
      · have HX := HB true (by rw [spB_iff]; simp; omega)
        go_enter Try.func89, Try.ntmps89
        go_wp2
        go_ret
        exact ⟨by rw [HX.out]; rfl, rfl⟩
      · have HX := HB false (by rw [spB_iff]; simp; omega)
        go_enter Try.func89, Try.ntmps89
        go_wp2
        go_ret
        exact ⟨by rw [HX.out]; rfl, rfl⟩
    · have HX := HB false (by rw [spB_iff]; simp; omega)
      go_enter Try.func89, Try.ntmps89
      go_wp2
      go_ret
      exact ⟨by rw [HX.out]; rfl, rfl⟩
  · have HX := HB false (by rw [spB_iff]; simp; omega)
    go_enter Try.func89, Try.ntmps89
    go_wp2
    go_ret
    exact ⟨by rw [HX.out]; rfl, rfl⟩
/-- The box and the list of all messages. -/
structure VaAt (w : World) (p : Nat) (S : Sh) (D : Sx) (v : Value) (L : List Msg) (W : World) : Prop where
  sa : SAt w p S D W
  ls : Ls W W.heap.size v L
theorem VaAt.below {w W W' : World} {p : Nat} {S : Sh} {D : Sx} {v : Value} {L : List Msg} (h : VaAt w p S D v L W) (hb : Below W.heap.size W W') : VaAt w p S D v L W' := ⟨h.sa.below hb, h.ls.upz hb⟩
end Go.Proofs.Ytijpflljopckiaa
namespace Go.Proofs.Ytijpflljopckiaa
open Go.RowKit
set_option linter.unusedVariables false

set_option maxHeartbeats 4000000 in
set_option maxRecDepth 20000 in
theorem sfree_any (k : Nat) (w : World) (h1 : 1 ≤ k) (h2 : k ≤ 12) :
    Calls Try.prog 68 #[.int .i64 (k : Int)] w (SE w (frS k) 0) := by
  have R0 := Lib.hid (SB8.zero w 85)
  have B0 := Lib.hid ((Below.refl w.heap.size w).alloc (Nat.le_refl _) (.cells #[.bool false, .int .i64 0, .int .i64 0, .slice none 0 0, .int .i64 0, .int .i64 0, .slice none 0 0, .slice none 0 0] 85))
  have HN := Lib.hid (fun W => gnew_any (k : Int) W)
  have hnl : (nwC (k : Int)).length = k := by rw [(nwC_fil h1 h2 0 (by omega)).1, fil_len]
  rw [(nwC_fil h1 h2 0 (by omega)).2] at HN
  obtain ⟨S, hS⟩ : ∃ S, S = frS k := ⟨_, rfl⟩
  have HS := Lib.hid (show S = ⟨false, 0, 0, nwC k, 0, 0, [], []⟩ from hS)
  rw [← hS]
  clear hS
  generalize nwC (k : Int) = cs at *
  go_enter Try.func68, Try.ntmps68
  go_wp2_with fail
  obtain ⟨r, hr⟩ : ∃ r, r = w.heap.size := ⟨_, rfl⟩
  have HRW := Lib.hid (show w.heap.size ≤ r by omega)
  rw [← hr]
  rw [← hr] at R0
  clear hr
  generalize (w.alloc (.cells #[.bool false, .int .i64 0, .int .i64 0, .slice none 0 0, .int .i64 0, .int .i64 0, .slice none 0 0, .slice none 0 0] 85)) = w1 at *
  refine (HN.out _).mono ?_
  rintro e w2 ⟨A, c, rfl, hnw, hl, hb⟩
  have B2 := Lib.hid (btr B0.out hb)
  have R2 := Lib.hid (R0.out.up hb)
  have L2 := Lib.hid hl
  have N2 := Lib.hid (nw_low hnw (show r + 1 ≤ _ from R0.out.lt))
  clear hb hl hnw
  rw [hnl] at L2 ⊢
  have HF := Lib.hid (show SE w S 0 (.returned (.tuple #[.agg #[.bool false, .int .i64 0, .int .i64 0, .slice A k c, .int .i64 0, .int .i64 0, .slice none 0 0, .slice none 0 0], .int .i64 0])) ((((((((((w2.setCell ⟨r, 0, none⟩ (.bool false)).setCell ⟨r, 1, none⟩ (.int .i64 0)).setCell ⟨r, 2, none⟩ (.int .i64 0)).setCell ⟨r, 3, none⟩ (.slice A k c)).setCell ⟨r, 4, none⟩ (.int .i64 0)).setCell ⟨r, 5, none⟩ (.int .i64 0)).setCell ⟨r, 6, none⟩ (.slice none 0 0)).setCell ⟨r, 7, none⟩ (.slice none 0 0)).alloc (.cells #[.slice A k c, .int .i64 0, .int .i64 0] 79))) from by
    rw [HS.out]
    subst hnl
    exact ⟨⟨A, c, none, 0, none, 0⟩, rfl, ⟨nw_low N2.out (by have := HRW.out; omega), nw_none, nw_none⟩, (SR.sets (S := ⟨false, 0, 0, cs, 0, 0, [], []⟩) (D := ⟨A, c, none, 0, none, 0⟩) ⟨offb_nw N2.out (Nat.lt_succ_self r), offb_none, offb_none⟩ (Sh.l8 ⟨false, 0, 0, cs, 0, 0, [], []⟩ ⟨A, c, none, 0, none, 0⟩) 0 w2 ⟨L2.out, El.nil, Dl.nil⟩).up ((Below.refl _ _).alloc (Nat.le_refl _) _), bal (set8s_below HRW.out B2.out ⟨false, 0, 0, cs, 0, 0, [], []⟩ ⟨A, c, none, 0, none, 0⟩) _⟩)
  obtain ⟨⟨r0, r1, r2, r3, r4, r5, r6, r7, rl⟩, ⟨g0, g1, g2, g3, g4, g5, g6, g7⟩⟩ := R2.out.all
  clear hnl
  go_wp2
  exact bodyPost_ret (v := .tuple #[.agg #[.bool false, .int .i64 0, .int .i64 0, .slice A k c, .int .i64 0, .int .i64 0, .slice none 0 0, .slice none 0 0], .int .i64 0]) (by simp only [results, Try.results68]; go_simp <;> rfl) rfl HF.out
set_option maxHeartbeats 4000000 in
set_option maxRecDepth 20000 in
theorem rnew7_any (k lo hi : Int) (w : World) :
    Calls Try.prog 60 #[.int .i64 k, .int .i64 lo, .int .i64 hi] w (SE w (neS k lo hi) (neE k lo hi)) := by
  have R0 := Lib.hid (SB8.zero w 85)
  have B0 := Lib.hid ((Below.refl w.heap.size w).alloc (Nat.le_refl _) (.cells #[.bool false, .int .i64 0, .int .i64 0, .slice none 0 0, .int .i64 0, .int .i64 0, .slice none 0 0, .slice none 0 0] 85))
  have HN := Lib.hid (fun W => rnew4_any k W)
  have HSP := Lib.hid (fun W => rspan7_any lo hi W)
  go_enter Try.func60, Try.ntmps60
  go_wp2_with fail
  obtain ⟨r, hr⟩ : ∃ r, r = w.heap.size := ⟨_, rfl⟩
  have HRW := Lib.hid (show w.heap.size ≤ r by omega)
  rw [← hr]
  rw [← hr] at R0
  clear hr
  generalize w.alloc (.cells #[.bool false, .int .i64 0, .int .i64 0, .slice none 0 0, .int .i64 0, .int .i64 0, .slice none 0 0, .slice none 0 0] 85) = w1 at *
  refine (HN.out _).mono ?_
  rintro e w2 ⟨A, c, rfl, hnw, hl, hb⟩
  have B2 := Lib.hid (btr B0.out hb)
  have R2 := Lib.hid (R0.out.up hb)
  have L2 := Lib.hid hl
  have N2 := Lib.hid (nw_low hnw (show r + 1 ≤ _ from R0.out.lt))
  have HRL := Lib.hid (show r < w2.heap.size from Nat.lt_of_lt_of_le R0.out.lt hb.size)
  clear hb hl hnw
  by_cases h1 : nwE k = 0
  · have HX1 := Lib.hid h1
    rw [h1]
    clear h1
    have hrl := HRL.out
    go_wp2_with fail
    refine (HSP.out _).mono ?_
    rintro e w3 ⟨rfl, hw⟩
    replace hw := hw.symm
    subst hw
    obtain ⟨r0, r1, r2, r3, r4, r5, r6, r7, rl⟩ := R2.out.facts
    obtain ⟨f0, f1, f2, f3, f4, f5, f6, f7⟩ := R2.out.free
    cases h2 : spB lo hi with
    | true =>
      have hE : neE k lo hi = 0 := by unfold neE; rw [if_neg (fun g => g HX1.out), if_pos h2]
      have hS : neS k lo hi = ⟨true, lo, hi, nwC k, 0, 0, [], []⟩ := if_pos hE
      have HF := Lib.hid (show SE w (neS k lo hi) (neE k lo hi) (.returned (.tuple #[.agg #[.bool true, .int .i64 lo, .int .i64 hi, .slice A (nwC k).length c, .int .i64 0, .int .i64 0, .slice none 0 0, .slice none 0 0], .int .i64 0])) (((((((((w2.setCell ⟨r, 0, none⟩ (.bool true)).setCell ⟨r, 1, none⟩ (.int .i64 lo)).setCell ⟨r, 2, none⟩ (.int .i64 hi)).setCell ⟨r, 3, none⟩ (.slice A (nwC k).length c)).setCell ⟨r, 4, none⟩ (.int .i64 0)).setCell ⟨r, 5, none⟩ (.int .i64 0)).setCell ⟨r, 6, none⟩ (.slice none 0 0)).setCell ⟨r, 7, none⟩ (.slice none 0 0)).alloc (.cells #[.slice A (nwC k).length c, .int .i64 0, .int .i64 0] 79)) from by
        rw [hE, hS]
        exact ⟨⟨A, c, none, 0, none, 0⟩, rfl, ⟨nw_low N2.out (by have := HRW.out; omega), nw_none, nw_none⟩, (SR.sets (S := ⟨true, lo, hi, nwC k, 0, 0, [], []⟩) (D := ⟨A, c, none, 0, none, 0⟩) ⟨offb_nw N2.out (Nat.lt_succ_self r), offb_none, offb_none⟩ (Sh.l8 ⟨true, lo, hi, nwC k, 0, 0, [], []⟩ ⟨A, c, none, 0, none, 0⟩) 0 w2 ⟨L2.out, El.nil, Dl.nil⟩).up ((Below.refl _ _).alloc (Nat.le_refl _) _), bal (set8s_below HRW.out B2.out ⟨true, lo, hi, nwC k, 0, 0, [], []⟩ ⟨A, c, none, 0, none, 0⟩) _⟩)
      clear hE hS
      go_wp2
      exact bodyPost_ret (v := .tuple #[.agg #[.bool true, .int .i64 lo, .int .i64 hi, .slice A (nwC k).length c, .int .i64 0, .int .i64 0, .slice none 0 0, .slice none 0 0], .int .i64 0]) (by simp only [results, Try.results60]; go_simp <;> rfl) rfl HF.out
    | false =>
      have hE : neE k lo hi = 1 := by unfold neE; rw [if_neg (fun g => g HX1.out), if_neg (by simp [h2])]
      have hS : neS k lo hi = zS := if_neg (by rw [hE]; decide)
      have HF := Lib.hid (show SE w (neS k lo hi) (neE k lo hi) (.returned (.tuple #[.agg #[.bool false, .int .i64 0, .int .i64 0, .slice none 0 0, .int .i64 0, .int .i64 0, .slice none 0 0, .slice none 0 0], .int .i64 1])) ((z8 w2 r).alloc (.cells #[.slice A (nwC k).length c, .int .i64 0, .int .i64 0] 79)) from by
        rw [hE, hS]
        exact se_zeroA HRW.out B2.out _)
      clear hE hS
      go_wp2
      exact bodyPost_ret (v := .tuple #[.agg #[.bool false, .int .i64 0, .int .i64 0, .slice none 0 0, .int .i64 0, .int .i64 0, .slice none 0 0, .slice none 0 0], .int .i64 1]) (by simp only [results, Try.results60]; go_simp <;> rfl) rfl HF.out
  · have hE : neE k lo hi = nwE k := if_pos h1
    have hS : neS k lo hi = zS := if_neg (by rw [hE]; exact h1)
    have hne : (nwE k != 0) = true := bne_iff_ne.2 h1
    obtain ⟨r0, r1, r2, r3, r4, r5, r6, r7, rl⟩ := R2.out.facts
    obtain ⟨f0, f1, f2, f3, f4, f5, f6, f7⟩ := R2.out.free
    have HF := Lib.hid (show SE w (neS k lo hi) (neE k lo hi) (.returned (.tuple #[.agg #[.bool false, .int .i64 0, .int .i64 0, .slice none 0 0, .int .i64 0, .int .i64 0, .slice none 0 0, .slice none 0 0], .int .i64 (nwE k)])) ((z8 w2 r).alloc (.cells #[.slice A (nwC k).length c, .int .i64 0, .int .i64 0] 79)) from by
      rw [hE, hS]
      exact se_zeroA HRW.out B2.out _)
    clear hE hS h1
    have hrl := HRL.out
    generalize nwE k = x at *
    go_wp2
    exact bodyPost_ret (v := .tuple #[.agg #[.bool false, .int .i64 0, .int .i64 0, .slice none 0 0, .int .i64 0, .int .i64 0, .slice none 0 0, .slice none 0 0], .int .i64 x]) (by simp only [results, Try.results60]; go_simp <;> rfl) rfl HF.out
end Go.Proofs.Ytijpflljopckiaa
namespace Go.Proofs.Ytijpflljopckiaa
open Go.RowKit
set_option linter.unusedVariables false

theorem eqsp_in (a b : Sp) (W : World) : (Op.equalIn 10000 115 a.v b.v).run Try.prog W = .ok (decide (a = b)) W := by
  have u3 := Try.underlying3
  have hS : Try.prog.underlying 115 = some (.struct (Try.prog.fieldsOf 115)) := by kernel_rfl
  have hp : Try.prog.stoodInHeld 115 = false := by kernel_rfl
  rw [show (10000 : Nat) = 9999 + 1 from rfl, run_equalIn_agg W 9999 115 _ _ hS hp]
  simp only [Program.fieldsOf, Try.underlying115]
  by_cases h0 : a.lo = b.lo
  · have h0' : (a.lo == b.lo) = true := by simpa using h0
    by_cases h1 : a.hi = b.hi
    · have h1' : (a.hi == b.hi) = true := by simpa using h1
      by_cases h2 : a.sh = b.sh
      · have e : decide (a = b) = true := decide_eq_true (by cases a; cases b; simp_all)
        have h2' : (a.sh == b.sh) = true := by simpa using h2
        rw [e]
        clear e h0 h1 h2
        go_simp
      · have e : decide (a = b) = false := decide_eq_false (fun e => h2 (by rw [e]))
        have h2' : (a.sh == b.sh) = false := by simpa using h2
        rw [e]
        clear e h0 h1 h2
        go_simp
    · have e : decide (a = b) = false := decide_eq_false (fun e => h1 (by rw [e]))
      have h1' : (a.hi == b.hi) = false := by simpa using h1
      rw [e]
      clear e h0 h1
      go_simp
  · have e : decide (a = b) = false := decide_eq_false (fun e => h0 (by rw [e]))
    have h0' : (a.lo == b.lo) = false := by simpa using h0
    rw [e]
    clear e h0
    go_simp
theorem neqsp (a b : Sp) : ∀ W, (binOp .neq 115 a.v b.v).run Try.prog W = .ok (.bool (!decide (a = b))) W := fun W => by
  rw [run_neq_struct, eqsp_in]; rfl
end Go.Proofs.Ytijpflljopckiaa
namespace Go.Proofs.Ytijpflljopckiaa
open Go.RowKit
set_option linter.unusedVariables false

/-- A result box of a span behind a directory's box. -/
structure DSX (w : World) (p q : Nat) (d : Dd) (X : Dx) (W : World) : Prop where
  da : DAt w p d X W
  c0 : W.cell? ⟨q, 0, none⟩ = some (.int .i64 0)
  c1 : W.cell? ⟨q, 1, none⟩ = some (.int .i64 0)
  c2 : W.cell? ⟨q, 2, none⟩ = some (.int .i64 0)
  fr : ∀ o, W.frozen? ⟨q, o, none⟩ = false
  lt : q < W.heap.size
  old : w.heap.size ≤ q
theorem DSX.below {w W W' : World} {p q : Nat} {d : Dd} {X : Dx} (h : DSX w p q d X W) (hb : Below W.heap.size W W') : DSX w p q d X W' :=
  ⟨h.da.below hb, (hb.cell (p := ⟨q, 0, none⟩) h.lt).trans h.c0, (hb.cell (p := ⟨q, 1, none⟩) h.lt).trans h.c1, (hb.cell (p := ⟨q, 2, none⟩) h.lt).trans h.c2, fun o => (hb.frozen (p := ⟨q, o, none⟩) h.lt).trans (h.fr o), Nat.lt_of_lt_of_le h.lt hb.size, h.old⟩
theorem DSX.all {w W : World} {p q : Nat} {d : Dd} {X : Dx} (h : DSX w p q d X W) : (W.cell? ⟨q, 0, none⟩ = some (.int .i64 0) ∧ W.cell? ⟨q, 1, none⟩ = some (.int .i64 0) ∧ W.cell? ⟨q, 2, none⟩ = some (.int .i64 0) ∧ q < W.heap.size) ∧ W.frozen? ⟨q, 0, none⟩ = false ∧ W.frozen? ⟨q, 1, none⟩ = false ∧ W.frozen? ⟨q, 2, none⟩ = false := ⟨⟨h.c0, h.c1, h.c2, h.lt⟩, h.fr 0, h.fr 1, h.fr 2⟩
theorem DSX.out {w W : World} {p q : Nat} {d : Dd} {X : Dx} (h : DSX w p q d X W) (a b c : Value) : Below w.heap.size w (((W.setCell ⟨q, 0, none⟩ a).setCell ⟨q, 1, none⟩ b).setCell ⟨q, 2, none⟩ c) :=
  ((h.da.bel.setCell (p := ⟨q, 0, none⟩) h.old _).setCell (p := ⟨q, 1, none⟩) h.old _).setCell (p := ⟨q, 2, none⟩) h.old _
theorem DSX.start {w : World} {d : Dd} {X : Dx} (t u : TypeId) (h : DR w w.heap.size d X) : DSX w w.heap.size (w.heap.size + 1) d X ((w.alloc (.cells #[.int .i64 d.vn, .slice X.A d.l.length X.c, .slice X.A2 d.F.length X.c2] t)).alloc (.cells #[.int .i64 0, .int .i64 0, .int .i64 0] u)) := by
  refine ⟨(DAt.start t h).alloc _, by simp [go_sem], by simp [go_sem], by simp [go_sem], fun o => by simp [go_sem], by simp, by omega⟩
end Go.Proofs.Ytijpflljopckiaa
