/- What is proved here: shardqueuelaw12.ArenaNew returns true for every input and leaves its arguments as they were. No condition. -/
import Derived.Test.YtijpflljopckiaaJ37
import Derived.Test.YtijpflljopckiaaJ35
import Derived.Test.YtijpflljopckiaaJ24
import Derived.ProofKit
import Derived.OpenShut
import Derived.ChangeOld
import Derived.Deep.DeepCutAuto
import Derived.Deep.RegionHeld3
namespace Go.Proofs.Ytijpflljopckiaa
open Go.RowKit
set_option linter.unusedVariables false

theorem Ns.upq {w w' : World} {v : Value} {zs : List Int} (h : Ns w w.heap.size v zs) (hb : Below w.heap.size w w') : Ns w' w'.heap.size v zs := by
  obtain ⟨A, c, e, h1, h2, h3, h4⟩ := h.below hb
  exact ⟨A, c, e, h1, h2, h3.more hb.size, h4⟩
theorem rowq_cells (w : World) (zs : List Int) (t : TypeId) : ∀ j (hj : j < zs.length), (w.alloc (.cells (zs.map i64v).toArray t)).cell? ⟨w.heap.size, j, none⟩ = some (.int .i64 zs[j]) := by
  intro j hj
  rw [World.cell?_alloc_new]
  simp [hj, i64v]
theorem SuB.p0 {W : World} {k : Nat} {s : Su} (h : SuB W k s) (y : Int) : SuB (W.setCell ⟨k, 0, none⟩ (.int .i64 y)) k ⟨y, s.lv, s.cp, s.dd, s.lm, s.ck, s.ni, s.ep⟩ := by
  obtain ⟨⟨k0, k1, k2, k3, k4, k5, k6, k7⟩, fr, lt⟩ := h
  exact ⟨⟨by simp [go_sem, k0], by simp [go_sem, k1], by simp [go_sem, k2], by simp [go_sem, k3], by simp [go_sem, k4], by simp [go_sem, k5], by simp [go_sem, k6], by simp [go_sem, k7]⟩, fun o => by simp [go_sem, fr o], by simp [lt]⟩
theorem SuB.p2 {W : World} {k : Nat} {s : Su} (h : SuB W k s) (y : Int) : SuB (W.setCell ⟨k, 2, none⟩ (.int .i64 y)) k ⟨s.sl, s.lv, y, s.dd, s.lm, s.ck, s.ni, s.ep⟩ := by
  obtain ⟨⟨k0, k1, k2, k3, k4, k5, k6, k7⟩, fr, lt⟩ := h
  exact ⟨⟨by simp [go_sem, k0], by simp [go_sem, k1], by simp [go_sem, k2], by simp [go_sem, k3], by simp [go_sem, k4], by simp [go_sem, k5], by simp [go_sem, k6], by simp [go_sem, k7]⟩, fun o => by simp [go_sem, fr o], by simp [lt]⟩
theorem SuB.p3 {W : World} {k : Nat} {s : Su} (h : SuB W k s) (y : Int) : SuB (W.setCell ⟨k, 3, none⟩ (.int .i64 y)) k ⟨s.sl, s.lv, s.cp, y, s.lm, s.ck, s.ni, s.ep⟩ := by
  obtain ⟨⟨k0, k1, k2, k3, k4, k5, k6, k7⟩, fr, lt⟩ := h
  exact ⟨⟨by simp [go_sem, k0], by simp [go_sem, k1], by simp [go_sem, k2], by simp [go_sem, k3], by simp [go_sem, k4], by simp [go_sem, k5], by simp [go_sem, k6], by simp [go_sem, k7]⟩, fun o => by simp [go_sem, fr o], by simp [lt]⟩
theorem SuB.p4 {W : World} {k : Nat} {s : Su} (h : SuB W k s) (y : Int) : SuB (W.setCell ⟨k, 4, none⟩ (.int .i64 y)) k ⟨s.sl, s.lv, s.cp, s.dd, y, s.ck, s.ni, s.ep⟩ := by
  obtain ⟨⟨k0, k1, k2, k3, k4, k5, k6, k7⟩, fr, lt⟩ := h
  exact ⟨⟨by simp [go_sem, k0], by simp [go_sem, k1], by simp [go_sem, k2], by simp [go_sem, k3], by simp [go_sem, k4], by simp [go_sem, k5], by simp [go_sem, k6], by simp [go_sem, k7]⟩, fun o => by simp [go_sem, fr o], by simp [lt]⟩
/-- A setup of the caller's, one of the call's own that may be written, a source. -/
structure Nq12 (w : World) (p q g B : Nat) (x s : Su) (W : World) : Prop where
  pb : SuB W p x
  qb : SuB W q s
  src : SrcAt W B g
  ne : p < B ∧ w.heap.size ≤ p ∧ B ≤ g ∧ g < q
  bel : Below w.heap.size w W
section
variable {w W W' : World} {p q g B : Nat} {x s s' : Su}
theorem Nq12.below (h : Nq12 w p q g B x s W) (hb : Below W.heap.size W W') : Nq12 w p q g B x s W' := ⟨h.pb.up hb, h.qb.up hb, h.src.below hb, h.ne, h.bel.trans (hb.mono h.bel.size)⟩
theorem Nq12.turn (h : Nq12 w p q g B x s W) (hs : SrcAt W' B g) (hg : W.grownBy W' (some g)) : Nq12 w p q g B x s W' := by
  have hn := h.ne
  exact ⟨h.pb.grown hg (by omega), h.qb.grown hg (by omega), hs, h.ne, h.bel.grown hg h.bel.size (fun k e => by injection e with e; omega)⟩
theorem Nq12.put (h : Nq12 w p q g B x s W) {j : Nat} {v : Int} (hk : SuB (W.setCell ⟨q, j, none⟩ (.int .i64 v)) q s') : Nq12 w p q g B x s' (W.setCell ⟨q, j, none⟩ (.int .i64 v)) := by
  have hn := h.ne
  exact ⟨h.pb.other (x := ⟨q, j, none⟩) (show q ≠ p by omega) _, hk, h.src.other (p := ⟨q, j, none⟩) (show q ≠ g by omega) (show B ≤ q by omega) _, h.ne, h.bel.setCell (p := ⟨q, j, none⟩) (show w.heap.size ≤ q by omega) _⟩
end
/-- Block p holds an arena, whose lists lie there. -/
structure Qh12 (W : World) (p : Nat) (a : Ar) (Y : Ax) : Prop where
  qb : QB W p a Y
  ar : AR W W.heap.size a Y
theorem Qh12.up {W W' : World} {p : Nat} {a : Ar} {Y : Ax} (h : Qh12 W p a Y) (hb : Below W.heap.size W W') : Qh12 W' p a Y := ⟨h.qb.up hb, h.ar.up hb⟩
theorem Qh12.start {W : World} {a : Ar} {Y : Ax} (h : AR W W.heap.size a Y) : Qh12 (W.alloc (.cells #[.slice Y.A a.sl.length Y.c, .slice Y.A2 a.st.length Y.c2, .int .i64 a.ow, .int .i64 a.cap, .slice Y.A3 a.dl.length Y.c3, .int .i64 a.dir.vn, .slice Y.D.A a.dir.l.length Y.D.c, .slice Y.D.A2 a.dir.F.length Y.D.c2, .int .i64 a.ep, .int .i64 a.ck, .int .i64 a.ni] 36)) W.heap.size a Y := ⟨QB.start W a Y _, h.alloc _⟩
theorem nwA_len (s : Su) : (nwA s).sl.length ≤ 1000 := by
  unfold nwA
  split
  · next h =>
    have := suB_iff.1 h
    unfold Su.Ok at this
    rw [grA_sl]
    omega
  · exact Nat.zero_le _
set_option maxHeartbeats 8000000 in
set_option maxRecDepth 20000 in
theorem ArenaNew_walk (w : World) (x : Su) (hw : x.wf) (a1 : Option Addr) (l1 c1 : Nat) (zs : List Int) (hz : Ns w w.heap.size (.slice a1 l1 c1) zs) :
    Calls Try.prog 6 #[x.v, .slice a1 l1 c1] w fun e w' => e = .returned (.bool true) ∧ Below w.heap.size w w' := by
  have HAW := Lib.hid (fun W => awake12_any W)
  have HP0 := Lib.hid (SuB.start w x 41)
  have HB0 := Lib.hid ((Below.refl w.heap.size w).alloc (Nat.le_refl _) (.cells #[.int .i64 x.sl, .int .i64 x.lv, .int .i64 x.cp, .int .i64 x.dd, .int .i64 x.lm, .int .i64 x.ck, .int .i64 x.ni, .int .i64 x.ep] 41))
  have HZ0 := Lib.hid (hz.upq ((Below.refl w.heap.size w).alloc (Nat.le_refl _) (.cells #[.int .i64 x.sl, .int .i64 x.lv, .int .i64 x.cp, .int .i64 x.dd, .int .i64 x.lm, .int .i64 x.ck, .int .i64 x.ni, .int .i64 x.ep] 41)))
  obtain ⟨p, hp⟩ : ∃ p, p = w.heap.size := ⟨_, rfl⟩
  have HPW := Lib.hid hp
  have HP0 := Lib.hid (show SuB (w.alloc (.cells #[.int .i64 x.sl, .int .i64 x.lv, .int .i64 x.cp, .int .i64 x.dd, .int .i64 x.lm, .int .i64 x.ck, .int .i64 x.ni, .int .i64 x.ep] 41)) p x by rw [hp]; exact HP0.out)
  clear hw hz hp
  go_enter Try.func6, Try.ntmps6
  go_upto_region 1 with (fail)
  rw [← HPW.out]
  generalize w.alloc (.cells #[.int .i64 x.sl, .int .i64 x.lv, .int .i64 x.cp, .int .i64 x.dd, .int .i64 x.lm, .int .i64 x.ck, .int .i64 x.ni, .int .i64 x.ep] 41) = w1 at *
  have HNS := Lib.hid (new_src a1 l1 c1 zs w1 HZ0.out)
  go_wp2_with fail
  refine HNS.out.mono ?_
  rintro e w2 ⟨g, rfl, hs, hb⟩
  obtain ⟨B, hB⟩ : ∃ B, B = w1.heap.size := ⟨_, rfl⟩
  rw [← hB] at hs
  have HS := Lib.hid hs
  have HB2 := Lib.hid (HB0.out.trans (hb.mono HB0.out.size))
  have HP2 := Lib.hid (HP0.out.up hb)
  have HPB := Lib.hid (show p < B ∧ w.heap.size ≤ p from ⟨by rw [hB]; exact HP0.out.lt, by rw [HPW.out]; exact Nat.le_refl _⟩)
  clear hs hb hB HNS HZ0 HP0 HB0
  go_wp2_with fail
  refine (setup_any B g _ HS.out).mono ?_
  rintro e w3 ⟨s, rfl, -, hs, hg⟩
  have HQ := Lib.hid (show Nq12 w p w3.heap.size g B x s (w3.alloc (.cells #[.int .i64 s.sl, .int .i64 s.lv, .int .i64 s.cp, .int .i64 s.dd, .int .i64 s.lm, .int .i64 s.ck, .int .i64 s.ni, .int .i64 s.ep] 41)) from by
    have h1 := HS.out.1
    have h2 := hs.2.1
    have h3 := HPB.out
    exact ⟨(HP2.out.grown hg (by omega)).alloc _, SuB.start w3 s _, hs.alloc _, ⟨h3.1, h3.2, h1, h2⟩, (HB2.out.grown hg HB2.out.size (fun k e => by injection e with e; omega)).alloc (Nat.le_trans HB2.out.size hg.size) _⟩)
  clear hs hg HS HB2 HP2
  go_upto_region 3 with (fail)
  obtain ⟨q, hq⟩ : ∃ q, q = w3.heap.size := ⟨_, rfl⟩
  rw [← hq] at HQ ⊢
  clear hq
  generalize w3.alloc (.cells #[.int .i64 s.sl, .int .i64 s.lv, .int .i64 s.cp, .int .i64 s.dd, .int .i64 s.lm, .int .i64 s.ck, .int .i64 s.ni, .int .i64 s.ep] 41) = w4 at *
  go_wp2_with fail
  refine (n_any B g _ HQ.out.src 9 (by omega) (by omega)).mono ?_
  rintro e w5 ⟨v, rfl, v0, v1, hs, hg⟩
  have HM := Lib.hid (HQ.out.turn hs hg)
  clear hs hg HQ
  go_upto_block 0 with (fail)
  go_cut [5] (fun s5 wx => s5 = .pointer (some ⟨g, 0, none⟩) ∧ ∃ s' : Su, Hid (Nq12 w p q g B x s' wx))
  case first =>
    rcases (show v = 0 ∨ v = 1 ∨ v = 2 ∨ v = 3 ∨ v = 4 ∨ v = 5 ∨ v = 6 ∨ v = 7 ∨ v = 8 by omega) with rfl | rfl | rfl | rfl | rfl | rfl | rfl | rfl | rfl
    · have hrow := rowq_cells w5 [0, 6, 7] 3
      have hgw := HM.out.src.2.1
      have HW9 := Lib.hid (HM.out.below ((Below.refl _ _).alloc (Nat.le_refl _) (.cells #[.int .i64 0, .int .i64 6, .int .i64 7] 3)))
      have HRW := Lib.hid (show (∀ j (hj : j < ([0, 6, 7] : List Int).length), (w5.alloc (.cells #[.int .i64 0, .int .i64 6, .int .i64 7] 3)).cell? ⟨w5.heap.size, j, none⟩ = some (.int .i64 ([0, 6, 7] : List Int)[j])) ∧ w5.heap.size < (w5.alloc (.cells #[.int .i64 0, .int .i64 6, .int .i64 7] 3)).heap.size ∧ w5.heap.size ≠ g from ⟨hrow, by simp, by omega⟩)
      clear hrow hgw HM
      go_wp2_with fail
      generalize w5.heap.size = b at *
      generalize w5.alloc (.cells #[.int .i64 0, .int .i64 6, .int .i64 7] 3) = w6 at *
      refine (pick_any B g _ HW9.out.src b 3 [0, 6, 7] rfl HRW.out.2.1 HRW.out.2.2 (by omega) (by omega) HRW.out.1).mono ?_
      rintro e w7 ⟨y, rfl, _, hs, hg⟩
      have HT := Lib.hid (HW9.out.turn hs hg)
      have HPUT := Lib.hid (HT.out.put (HT.out.qb.p0 y))
      obtain ⟨k0, k1, k2, k3, k4, k5, k6, k7⟩ := HT.out.qb.k
      have kl := HT.out.qb.lt
      obtain ⟨f0, f1, f2, f3, f4, f5, f6, f7⟩ := HT.out.qb.free
      clear hs hg HW9 HT HRW
      go_wp2
      go_meet
      exact ⟨rfl, _, HPUT⟩
    · go_wp2_with fail
      refine (range_any B g _ HM.out.src 0 7 (by omega) (by omega) (by omega)).mono ?_
      rintro e w7 ⟨y, rfl, _, _, hs, hg⟩
      have HT := Lib.hid (HM.out.turn hs hg)
      have HPUT := Lib.hid (HT.out.put (HT.out.qb.p1 y))
      obtain ⟨k0, k1, k2, k3, k4, k5, k6, k7⟩ := HT.out.qb.k
      have kl := HT.out.qb.lt
      obtain ⟨f0, f1, f2, f3, f4, f5, f6, f7⟩ := HT.out.qb.free
      clear hs hg HT HM
      go_wp2
      go_meet
      exact ⟨rfl, _, HPUT⟩
    · have hrow := rowq_cells w5 [0, 12, 13] 3
      have hgw := HM.out.src.2.1
      have HW9 := Lib.hid (HM.out.below ((Below.refl _ _).alloc (Nat.le_refl _) (.cells #[.int .i64 0, .int .i64 12, .int .i64 13] 3)))
      have HRW := Lib.hid (show (∀ j (hj : j < ([0, 12, 13] : List Int).length), (w5.alloc (.cells #[.int .i64 0, .int .i64 12, .int .i64 13] 3)).cell? ⟨w5.heap.size, j, none⟩ = some (.int .i64 ([0, 12, 13] : List Int)[j])) ∧ w5.heap.size < (w5.alloc (.cells #[.int .i64 0, .int .i64 12, .int .i64 13] 3)).heap.size ∧ w5.heap.size ≠ g from ⟨hrow, by simp, by omega⟩)
      clear hrow hgw HM
      go_wp2_with fail
      generalize w5.heap.size = b at *
      generalize w5.alloc (.cells #[.int .i64 0, .int .i64 12, .int .i64 13] 3) = w6 at *
      refine (pick_any B g _ HW9.out.src b 3 [0, 12, 13] rfl HRW.out.2.1 HRW.out.2.2 (by omega) (by omega) HRW.out.1).mono ?_
      rintro e w7 ⟨y, rfl, _, hs, hg⟩
      have HT := Lib.hid (HW9.out.turn hs hg)
      have HPUT := Lib.hid (HT.out.put (HT.out.qb.p2 y))
      obtain ⟨k0, k1, k2, k3, k4, k5, k6, k7⟩ := HT.out.qb.k
      have kl := HT.out.qb.lt
      obtain ⟨f0, f1, f2, f3, f4, f5, f6, f7⟩ := HT.out.qb.free
      clear hs hg HW9 HT HRW
      go_wp2
      go_meet
      exact ⟨rfl, _, HPUT⟩
    · have hrow := rowq_cells w5 [0, 24, 25] 3
      have hgw := HM.out.src.2.1
      have HW9 := Lib.hid (HM.out.below ((Below.refl _ _).alloc (Nat.le_refl _) (.cells #[.int .i64 0, .int .i64 24, .int .i64 25] 3)))
      have HRW := Lib.hid (show (∀ j (hj : j < ([0, 24, 25] : List Int).length), (w5.alloc (.cells #[.int .i64 0, .int .i64 24, .int .i64 25] 3)).cell? ⟨w5.heap.size, j, none⟩ = some (.int .i64 ([0, 24, 25] : List Int)[j])) ∧ w5.heap.size < (w5.alloc (.cells #[.int .i64 0, .int .i64 24, .int .i64 25] 3)).heap.size ∧ w5.heap.size ≠ g from ⟨hrow, by simp, by omega⟩)
      clear hrow hgw HM
      go_wp2_with fail
      generalize w5.heap.size = b at *
      generalize w5.alloc (.cells #[.int .i64 0, .int .i64 24, .int .i64 25] 3) = w6 at *
      refine (pick_any B g _ HW9.out.src b 3 [0, 24, 25] rfl HRW.out.2.1 HRW.out.2.2 (by omega) (by omega) HRW.out.1).mono ?_
      rintro e w7 ⟨y, rfl, _, hs, hg⟩
      have HT := Lib.hid (HW9.out.turn hs hg)
      have HPUT := Lib.hid (HT.out.put (HT.out.qb.p3 y))
      obtain ⟨k0, k1, k2, k3, k4, k5, k6, k7⟩ := HT.out.qb.k
      have kl := HT.out.qb.lt
      obtain ⟨f0, f1, f2, f3, f4, f5, f6, f7⟩ := HT.out.qb.free
      clear hs hg HW9 HT HRW
      go_wp2
      go_meet
      exact ⟨rfl, _, HPUT⟩
    · have hrow := rowq_cells w5 [0, 8, 9] 3
      have hgw := HM.out.src.2.1
      have HW9 := Lib.hid (HM.out.below ((Below.refl _ _).alloc (Nat.le_refl _) (.cells #[.int .i64 0, .int .i64 8, .int .i64 9] 3)))
      have HRW := Lib.hid (show (∀ j (hj : j < ([0, 8, 9] : List Int).length), (w5.alloc (.cells #[.int .i64 0, .int .i64 8, .int .i64 9] 3)).cell? ⟨w5.heap.size, j, none⟩ = some (.int .i64 ([0, 8, 9] : List Int)[j])) ∧ w5.heap.size < (w5.alloc (.cells #[.int .i64 0, .int .i64 8, .int .i64 9] 3)).heap.size ∧ w5.heap.size ≠ g from ⟨hrow, by simp, by omega⟩)
      clear hrow hgw HM
      go_wp2_with fail
      generalize w5.heap.size = b at *
      generalize w5.alloc (.cells #[.int .i64 0, .int .i64 8, .int .i64 9] 3) = w6 at *
      refine (pick_any B g _ HW9.out.src b 3 [0, 8, 9] rfl HRW.out.2.1 HRW.out.2.2 (by omega) (by omega) HRW.out.1).mono ?_
      rintro e w7 ⟨y, rfl, _, hs, hg⟩
      have HT := Lib.hid (HW9.out.turn hs hg)
      have HPUT := Lib.hid (HT.out.put (HT.out.qb.p4 y))
      obtain ⟨k0, k1, k2, k3, k4, k5, k6, k7⟩ := HT.out.qb.k
      have kl := HT.out.qb.lt
      obtain ⟨f0, f1, f2, f3, f4, f5, f6, f7⟩ := HT.out.qb.free
      clear hs hg HW9 HT HRW
      go_wp2
      go_meet
      exact ⟨rfl, _, HPUT⟩
    · have hrow := rowq_cells w5 [-1, 1073741824, 1073741825] 3
      have hgw := HM.out.src.2.1
      have HW9 := Lib.hid (HM.out.below ((Below.refl _ _).alloc (Nat.le_refl _) (.cells #[.int .i64 (-1), .int .i64 1073741824, .int .i64 1073741825] 3)))
      have HRW := Lib.hid (show (∀ j (hj : j < ([-1, 1073741824, 1073741825] : List Int).length), (w5.alloc (.cells #[.int .i64 (-1), .int .i64 1073741824, .int .i64 1073741825] 3)).cell? ⟨w5.heap.size, j, none⟩ = some (.int .i64 ([-1, 1073741824, 1073741825] : List Int)[j])) ∧ w5.heap.size < (w5.alloc (.cells #[.int .i64 (-1), .int .i64 1073741824, .int .i64 1073741825] 3)).heap.size ∧ w5.heap.size ≠ g from ⟨hrow, by simp, by omega⟩)
      clear hrow hgw HM
      go_wp2_with fail
      generalize w5.heap.size = b at *
      generalize w5.alloc (.cells #[.int .i64 (-1), .int .i64 1073741824, .int .i64 1073741825] 3) = w6 at *
      refine (pick_any B g _ HW9.out.src b 3 [-1, 1073741824, 1073741825] rfl HRW.out.2.1 HRW.out.2.2 (by omega) (by omega) HRW.out.1).mono ?_
      rintro e w7 ⟨y, rfl, _, hs, hg⟩
      have HT := Lib.hid (HW9.out.turn hs hg)
      have HPUT := Lib.hid (HT.out.put (HT.out.qb.p5 y))
      obtain ⟨k0, k1, k2, k3, k4, k5, k6, k7⟩ := HT.out.qb.k
      have kl := HT.out.qb.lt
      obtain ⟨f0, f1, f2, f3, f4, f5, f6, f7⟩ := HT.out.qb.free
      clear hs hg HW9 HT HRW
      go_wp2
      go_meet
      exact ⟨rfl, _, HPUT⟩
    · have hrow := rowq_cells w5 [0, 1073741824, 1073741825] 3
      have hgw := HM.out.src.2.1
      have HW9 := Lib.hid (HM.out.below ((Below.refl _ _).alloc (Nat.le_refl _) (.cells #[.int .i64 0, .int .i64 1073741824, .int .i64 1073741825] 3)))
      have HRW := Lib.hid (show (∀ j (hj : j < ([0, 1073741824, 1073741825] : List Int).length), (w5.alloc (.cells #[.int .i64 0, .int .i64 1073741824, .int .i64 1073741825] 3)).cell? ⟨w5.heap.size, j, none⟩ = some (.int .i64 ([0, 1073741824, 1073741825] : List Int)[j])) ∧ w5.heap.size < (w5.alloc (.cells #[.int .i64 0, .int .i64 1073741824, .int .i64 1073741825] 3)).heap.size ∧ w5.heap.size ≠ g from ⟨hrow, by simp, by omega⟩)
      clear hrow hgw HM
      go_wp2_with fail
      generalize w5.heap.size = b at *
      generalize w5.alloc (.cells #[.int .i64 0, .int .i64 1073741824, .int .i64 1073741825] 3) = w6 at *
      refine (pick_any B g _ HW9.out.src b 3 [0, 1073741824, 1073741825] rfl HRW.out.2.1 HRW.out.2.2 (by omega) (by omega) HRW.out.1).mono ?_
      rintro e w7 ⟨y, rfl, _, hs, hg⟩
      have HT := Lib.hid (HW9.out.turn hs hg)
      have HPUT := Lib.hid (HT.out.put (HT.out.qb.p6 y))
      obtain ⟨k0, k1, k2, k3, k4, k5, k6, k7⟩ := HT.out.qb.k
      have kl := HT.out.qb.lt
      obtain ⟨f0, f1, f2, f3, f4, f5, f6, f7⟩ := HT.out.qb.free
      clear hs hg HW9 HT HRW
      go_wp2
      go_meet
      exact ⟨rfl, _, HPUT⟩
    · have hrow := rowq_cells w5 [-1, 65536, 65537] 3
      have hgw := HM.out.src.2.1
      have HW9 := Lib.hid (HM.out.below ((Below.refl _ _).alloc (Nat.le_refl _) (.cells #[.int .i64 (-1), .int .i64 65536, .int .i64 65537] 3)))
      have HRW := Lib.hid (show (∀ j (hj : j < ([-1, 65536, 65537] : List Int).length), (w5.alloc (.cells #[.int .i64 (-1), .int .i64 65536, .int .i64 65537] 3)).cell? ⟨w5.heap.size, j, none⟩ = some (.int .i64 ([-1, 65536, 65537] : List Int)[j])) ∧ w5.heap.size < (w5.alloc (.cells #[.int .i64 (-1), .int .i64 65536, .int .i64 65537] 3)).heap.size ∧ w5.heap.size ≠ g from ⟨hrow, by simp, by omega⟩)
      clear hrow hgw HM
      go_wp2_with fail
      generalize w5.heap.size = b at *
      generalize w5.alloc (.cells #[.int .i64 (-1), .int .i64 65536, .int .i64 65537] 3) = w6 at *
      refine (pick_any B g _ HW9.out.src b 3 [-1, 65536, 65537] rfl HRW.out.2.1 HRW.out.2.2 (by omega) (by omega) HRW.out.1).mono ?_
      rintro e w7 ⟨y, rfl, _, hs, hg⟩
      have HT := Lib.hid (HW9.out.turn hs hg)
      have HPUT := Lib.hid (HT.out.put (HT.out.qb.p7 y))
      obtain ⟨k0, k1, k2, k3, k4, k5, k6, k7⟩ := HT.out.qb.k
      have kl := HT.out.qb.lt
      obtain ⟨f0, f1, f2, f3, f4, f5, f6, f7⟩ := HT.out.qb.free
      clear hs hg HW9 HT HRW
      go_wp2
      go_meet
      exact ⟨rfl, _, HPUT⟩
    · go_wp2
      go_meet
      exact ⟨rfl, s, HM⟩
  case rest =>
    obtain ⟨rfl, s', HN⟩ := hcut
    clear HM
    generalize wc = w8 at *
    obtain ⟨A, hA⟩ : ∃ A, A = nwA x := ⟨_, rfl⟩
    obtain ⟨E, hE⟩ : ∃ A, A = nwAE x := ⟨_, rfl⟩
    obtain ⟨A', hA'⟩ : ∃ A, A = nwA s' := ⟨_, rfl⟩
    obtain ⟨E', hE'⟩ : ∃ A, A = nwAE s' := ⟨_, rfl⟩
    have HN1 := Lib.hid (fun W => anew_any x W)
    have HN2 := Lib.hid (fun W => arnew_any x W)
    have HN3 := Lib.hid (fun W => anew_any s' W)
    have HN4 := Lib.hid (fun W => arnew_any s' W)
    rw [← hA, ← hE] at HN1 HN2
    rw [← hA', ← hE'] at HN3 HN4
    have HLA := Lib.hid (show A.sl.length ≤ 1000 ∧ A'.sl.length ≤ 1000 from ⟨by rw [hA]; exact nwA_len x, by rw [hA']; exact nwA_len s'⟩)
    have HSM := Lib.hid (fun Y Z W (h1 : AR W W.heap.size A Y) (h2 : AR W W.heap.size A Z) => rsame12_yes A Y Z W h1 h2 HLA.out.1)
    have HSM' := Lib.hid (fun Y Z W (h1 : AR W W.heap.size A' Y) (h2 : AR W W.heap.size A' Z) => rsame12_yes A' Y Z W h1 h2 HLA.out.2)
    clear hA hE hA' hE'
    obtain ⟨k0, k1, k2, k3, k4, k5, k6, k7⟩ := HN.out.pb.k
    have kl := HN.out.pb.lt
    go_wp2_with fail
    clear k0 k1 k2 k3 k4 k5 k6 k7 kl
    refine (HN1.out _).mono ?_
    rintro e w9 ⟨Y1, rfl, -, hr, hb⟩
    have HA := ((Below.refl w9.heap.size w9).alloc (Nat.le_refl _) (.cells #[.slice Y1.A A.sl.length Y1.c, .slice Y1.A2 A.st.length Y1.c2, .int .i64 A.ow, .int .i64 A.cap, .slice Y1.A3 A.dl.length Y1.c3, .int .i64 A.dir.vn, .slice Y1.D.A A.dir.l.length Y1.D.c, .slice Y1.D.A2 A.dir.F.length Y1.D.c2, .int .i64 A.ep, .int .i64 A.ck, .int .i64 A.ni] 36))
    have HN := Lib.hid ((HN.out.below hb).below HA)
    have HU1 := Lib.hid (Qh12.start hr)
    clear hb hr HA
    go_upto_region 21 with (fail)
    obtain ⟨r1, hr1⟩ : ∃ r, r = w9.heap.size := ⟨_, rfl⟩
    rw [← hr1] at HU1 ⊢
    clear hr1
    generalize w9.alloc (.cells #[.slice Y1.A A.sl.length Y1.c, .slice Y1.A2 A.st.length Y1.c2, .int .i64 A.ow, .int .i64 A.cap, .slice Y1.A3 A.dl.length Y1.c3, .int .i64 A.dir.vn, .slice Y1.D.A A.dir.l.length Y1.D.c, .slice Y1.D.A2 A.dir.F.length Y1.D.c2, .int .i64 A.ep, .int .i64 A.ck, .int .i64 A.ni] 36) = w10 at *
    obtain ⟨k0, k1, k2, k3, k4, k5, k6, k7⟩ := HN.out.pb.k
    have kl := HN.out.pb.lt
    go_wp2_with fail
    clear k0 k1 k2 k3 k4 k5 k6 k7 kl
    refine (HN2.out _).mono ?_
    rintro e w11 ⟨Y2, rfl, -, hr, hb⟩
    have HA := ((Below.refl w11.heap.size w11).alloc (Nat.le_refl _) (.cells #[.slice Y2.A A.sl.length Y2.c, .slice Y2.A2 A.st.length Y2.c2, .int .i64 A.ow, .int .i64 A.cap, .slice Y2.A3 A.dl.length Y2.c3, .int .i64 A.dir.vn, .slice Y2.D.A A.dir.l.length Y2.D.c, .slice Y2.D.A2 A.dir.F.length Y2.D.c2, .int .i64 A.ep, .int .i64 A.ck, .int .i64 A.ni] 36))
    have HN := Lib.hid ((HN.out.below hb).below HA)
    have HU1 := Lib.hid ((HU1.out.up hb).up HA)
    have HU2 := Lib.hid (Qh12.start hr)
    clear hb hr HA
    go_upto_region 22 with (fail)
    obtain ⟨r2, hr2⟩ : ∃ r, r = w11.heap.size := ⟨_, rfl⟩
    rw [← hr2] at HU2 ⊢
    clear hr2
    generalize w11.alloc (.cells #[.slice Y2.A A.sl.length Y2.c, .slice Y2.A2 A.st.length Y2.c2, .int .i64 A.ow, .int .i64 A.cap, .slice Y2.A3 A.dl.length Y2.c3, .int .i64 A.dir.vn, .slice Y2.D.A A.dir.l.length Y2.D.c, .slice Y2.D.A2 A.dir.F.length Y2.D.c2, .int .i64 A.ep, .int .i64 A.ck, .int .i64 A.ni] 36) = w12 at *
    obtain ⟨k0, k1, k2, k3, k4, k5, k6, k7⟩ := HN.out.qb.k
    have kl := HN.out.qb.lt
    go_wp2_with fail
    clear k0 k1 k2 k3 k4 k5 k6 k7 kl
    refine (HN3.out _).mono ?_
    rintro e w13 ⟨Y3, rfl, -, hr, hb⟩
    have HA := ((Below.refl w13.heap.size w13).alloc (Nat.le_refl _) (.cells #[.slice Y3.A A'.sl.length Y3.c, .slice Y3.A2 A'.st.length Y3.c2, .int .i64 A'.ow, .int .i64 A'.cap, .slice Y3.A3 A'.dl.length Y3.c3, .int .i64 A'.dir.vn, .slice Y3.D.A A'.dir.l.length Y3.D.c, .slice Y3.D.A2 A'.dir.F.length Y3.D.c2, .int .i64 A'.ep, .int .i64 A'.ck, .int .i64 A'.ni] 36))
    have HN := Lib.hid ((HN.out.below hb).below HA)
    have HU1 := Lib.hid ((HU1.out.up hb).up HA)
    have HU2 := Lib.hid ((HU2.out.up hb).up HA)
    have HU3 := Lib.hid (Qh12.start hr)
    clear hb hr HA
    go_upto_region 23 with (fail)
    obtain ⟨r3, hr3⟩ : ∃ r, r = w13.heap.size := ⟨_, rfl⟩
    rw [← hr3] at HU3 ⊢
    clear hr3
    generalize w13.alloc (.cells #[.slice Y3.A A'.sl.length Y3.c, .slice Y3.A2 A'.st.length Y3.c2, .int .i64 A'.ow, .int .i64 A'.cap, .slice Y3.A3 A'.dl.length Y3.c3, .int .i64 A'.dir.vn, .slice Y3.D.A A'.dir.l.length Y3.D.c, .slice Y3.D.A2 A'.dir.F.length Y3.D.c2, .int .i64 A'.ep, .int .i64 A'.ck, .int .i64 A'.ni] 36) = w14 at *
    obtain ⟨k0, k1, k2, k3, k4, k5, k6, k7⟩ := HN.out.qb.k
    have kl := HN.out.qb.lt
    go_wp2_with fail
    clear k0 k1 k2 k3 k4 k5 k6 k7 kl
    refine (HN4.out _).mono ?_
    rintro e w15 ⟨Y4, rfl, -, hr, hb⟩
    have HA := ((Below.refl w15.heap.size w15).alloc (Nat.le_refl _) (.cells #[.slice Y4.A A'.sl.length Y4.c, .slice Y4.A2 A'.st.length Y4.c2, .int .i64 A'.ow, .int .i64 A'.cap, .slice Y4.A3 A'.dl.length Y4.c3, .int .i64 A'.dir.vn, .slice Y4.D.A A'.dir.l.length Y4.D.c, .slice Y4.D.A2 A'.dir.F.length Y4.D.c2, .int .i64 A'.ep, .int .i64 A'.ck, .int .i64 A'.ni] 36))
    have HN := Lib.hid ((HN.out.below hb).below HA)
    have HU1 := Lib.hid ((HU1.out.up hb).up HA)
    have HU2 := Lib.hid ((HU2.out.up hb).up HA)
    have HU3 := Lib.hid ((HU3.out.up hb).up HA)
    have HU4 := Lib.hid (Qh12.start hr)
    clear hb hr HA
    go_upto_region 24 with (fail)
    obtain ⟨r4, hr4⟩ : ∃ r, r = w15.heap.size := ⟨_, rfl⟩
    rw [← hr4] at HU4 ⊢
    clear hr4
    generalize w15.alloc (.cells #[.slice Y4.A A'.sl.length Y4.c, .slice Y4.A2 A'.st.length Y4.c2, .int .i64 A'.ow, .int .i64 A'.cap, .slice Y4.A3 A'.dl.length Y4.c3, .int .i64 A'.dir.vn, .slice Y4.D.A A'.dir.l.length Y4.D.c, .slice Y4.D.A2 A'.dir.F.length Y4.D.c2, .int .i64 A'.ep, .int .i64 A'.ck, .int .i64 A'.ni] 36) = w16 at *
    obtain ⟨y0, y1, y2, y3, y4, y5, y6, y7, y8, y9, y10⟩ := HU1.out.qb.k
    have yl := HU1.out.qb.lt
    obtain ⟨z0, z1, z2, z3, z4, z5, z6, z7, z8, z9, z10⟩ := HU2.out.qb.k
    have zl := HU2.out.qb.lt
    go_wp2_with fail
    clear y0 y1 y2 y3 y4 y5 y6 y7 y8 y9 y10 yl z0 z1 z2 z3 z4 z5 z6 z7 z8 z9 z10 zl
    refine (HSM.out Y1 Y2 _ HU1.out.ar HU2.out.ar).mono ?_
    rintro e w20 ⟨rfl, hb⟩
    have HN := Lib.hid (HN.out.below hb)
    have HU3 := Lib.hid (HU3.out.up hb)
    have HU4 := Lib.hid (HU4.out.up hb)
    clear hb HU1 HU2
    obtain ⟨y0, y1, y2, y3, y4, y5, y6, y7, y8, y9, y10⟩ := HU3.out.qb.k
    have yl := HU3.out.qb.lt
    obtain ⟨z0, z1, z2, z3, z4, z5, z6, z7, z8, z9, z10⟩ := HU4.out.qb.k
    have zl := HU4.out.qb.lt
    go_wp2_with fail
    clear y0 y1 y2 y3 y4 y5 y6 y7 y8 y9 y10 yl z0 z1 z2 z3 z4 z5 z6 z7 z8 z9 z10 zl
    refine (HSM'.out Y3 Y4 _ HU3.out.ar HU4.out.ar).mono ?_
    rintro e w21 ⟨rfl, hb⟩
    have HN := Lib.hid (HN.out.below hb)
    clear hb HU3 HU4
    go_wp2_with fail
    refine (HAW.out _).mono ?_
    rintro e w22 ⟨rfl, hb⟩
    have HFIN := Lib.hid (HN.out.below hb).bel
    clear hb HN
    go_wp2
    go_ret
    exact ⟨rfl, HFIN.out⟩

/-! The row's step, as the guide's shell has it. -/
namespace arenaNew
open Go.ChangeShapes Go.WideShapes Go.ChangeAt
open Go.ChangeMaps (open_string shut_string)
theorem own : ownKnob Try.prog.godebug = none := by kernel_rfl
theorem laidOut : laidOutB Try.prog = true := by kernel_rfl

set_option maxRecDepth 100000 in
theorem lifted (os : Os) (started : os.Started) (H : Type) (enc : TypeId × Value → H) :
    ReturnsInHanded {} Try.checked os 6 .any (Rows.arenaNewSpec.pre6 enc Try.prog Try.f6 Rows.arenaNewRow.domain false) (Rows.arenaNewSpec.post enc Try.prog Try.f6 false true false false) := by
  refine returnsInHanded_of_change (C := Try.checked) own started (by kernel_rfl) Try.func6
    (ChangeSpec.witness6 (enc := enc) (C := Try.checked) false ⟨#[], #[.agg #[.int .i64 0, .int .i64 0, .int .i64 0, .int .i64 0, .int .i64 0, .int .i64 0, .int .i64 0, .int .i64 0], .slice none 0 0], []⟩ 8 (by kernel_rfl) (by kernel_rfl) (by kernel_rfl) (by kernel_rfl)) ?_
  intro W base args ds gs before hval0 hW hcnd _
  have hval : ∀ (j : Nat) t v, Try.f6.params[j]? = some t → args[j]? = some v → Value.okWide Try.prog W .any base t v := hval0
  have hW' := hW
  obtain ⟨p, q, hA0, hV, rfl, hfz, hnd⟩ := hW
  have hA : DataW.TrodAll enc Try.prog W 0 (fun _ => true) true Try.f6.params.toList args.toList ds p := hA0
  rw [Try.params6] at hA hval
  obtain ⟨v0, vs0, d0, ds0, p0, q0, hargs, rfl, rfl, h0, r0⟩ := trodAll_cons hA
  obtain ⟨v1, vs1, d1, ds1, p1, q1, rfl, rfl, rfl, h1, r1⟩ := trodAll_cons r0
  obtain ⟨rfl, rfl, rfl⟩ := trodAll_nil r1
  obtain rfl : args = #[v0, v1] := by cases args; simp_all
  obtain ⟨rfl, rfl⟩ := trodVars_none hV
  obtain ⟨a0, rfl, rfl, rfl, w0⟩ := open_setup (hval 0 41 v0 rfl rfl) h0
  obtain ⟨a1, len1, cap1, rfl⟩ := okWide_slice Try.underlying22 (hval 1 22 v1 rfl rfl)
  have k1 := h1
  have lt1 : ∀ x ∈ p1, x.block < W.heap.size := by obtain ⟨m, hm⟩ := k1; exact DataW.trod_lt m _ _ _ hm
  obtain ⟨z1, w1⟩ : ∃ zs, Ns W W.heap.size (.slice a1 len1 cap1) zs := by
    obtain ⟨fuel, hf⟩ := h1
    rcases open_ints Try.underlying22 Try.underlying3 (by kernel_rfl) hf with ⟨hcs, _⟩ | ⟨x, l, c, zs, hcs, _, hl, hm, hz, _, hcell, hwz⟩
    · simp [Value.cells] at hcs
      obtain ⟨rfl, rfl, rfl⟩ := hcs
      exact ⟨[], Ns.nil⟩
    · simp [Value.cells] at hcs
      obtain ⟨rfl, rfl, rfl⟩ := hcs
      exact Ns.of_cells hl hm (by simpa using hz) hcell hwz
  clear hA0 hval0
  refine (ArenaNew_walk W a0 w0 a1 len1 cap1 z1 w1).mono fun e W' ⟨he, bel⟩ => ?_
  subst he
  exact ⟨_, rfl, _, _, _, [], _, [], hW', trodAll_mk1 (shut_bool Try.underlying4 _), (trodAll_cons_mk (shut_setup a0 w0) (trodAll_cons_mk (Below.trod laidOut (by kernel_rfl) (of_decide_eq_true (by kernel_rfl)) k1 bel lt1) trodAll_mk0)), rfl, bel.frame _, fun h => by cases h⟩

theorem over : Rows.arenaNewRow.holds Try.pinned (OpenSpec.ofChange Rows.arenaNewSpec) :=
  OpenClaim.holds_of_wide 6 Try.f6 rfl rfl rfl rfl rfl rfl rfl ⟨rfl, rfl, rfl, rfl, rfl⟩ rfl rfl rfl rfl rfl (by kernel_rfl) Try.func6 (by kernel_rfl)
    (of_decide_eq_true (by kernel_rfl)) (by unfold Func.isWrapper; first | (rw [if_pos (by decide +kernel)]; kernel_rfl) | (rw [if_neg (by decide +kernel)]; exact ⟨rfl, rfl⟩))
    (fun os started H enc _ => lifted os started H enc)

/-- The statement. -/
theorem proved : Rows.ArenaNewSaid := over
#print axioms proved
end arenaNew
end Go.Proofs.Ytijpflljopckiaa
