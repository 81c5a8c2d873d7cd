/- What is proved here: ref12.New by a contract; arena.New by a contract; in the statements of layer 12, awake is true; arena.isSlot, ownerOf, ownerError, slotError, isNumber by contracts; arena.wordError, CAS of the epoch, Tick by contracts. -/
import Derived.Test.YtijpflljopckiaaJ31
import Derived.Test.YtijpflljopckiaaJ15
import Derived.Deep.AppendLies
import Derived.WalkSpells
import Derived.Deep.RegionHeld3
import Derived.Test.YtijpflljopckiaaJ32
import Derived.Test.YtijpflljopckiaaJ03
import Derived.Test.YtijpflljopckiaaRows
import Derived.Test.YtijpflljopckiaaJ02
import Derived.WalkKit
import Derived.Outline
import Derived.IntWalk
import Derived.Laws.StructEq
import Derived.KernelRfl
import Derived.Deep.QuietTactic
import Derived.BigQuiet
import Derived.Test.YtijpflljopckiaaJ14
import Derived.Test.YtijpflljopckiaaJ16
import Derived.Deep.DeepCutAuto
import Derived.Test.YtijpflljopckiaaJ34
namespace Go.Proofs.Ytijpflljopckiaa
open Go.RowKit
set_option linter.unusedVariables false

theorem nwD_ok {n m : Nat} (h1 : 1 ≤ m) (h2 : m ≤ n) (h3 : n ≤ 6) : nwD n m = ⟨1, nwL m m, List.replicate n (-1)⟩ := by
  have hE : nwE10 n m = 0 := by unfold nwE10; rw [if_pos (by omega)]
  unfold nwD
  rw [if_pos hE]
  simp
theorem Db10.grownN {W W' : World} {g : Option Nat} {z : Nat} {d : Dd} {X : Dx} (h : Db10 W z d X) (hg : W.grownBy W' g) (ho : ∀ x, g = some x → z ≠ x) : Db10 W' z d X := by
  cases g with
  | none => exact h.up ((Below.refl _ _).grown hg (Nat.le_refl _) (fun k e => by cases e))
  | some x => exact h.grown hg (ho x rfl)
/-- An arena that grows, and the directory's box. -/
structure Gr12 (w : World) (p r z y : Nat) (s : Su) (i k : Nat) (A : Option Addr) (c1 : Nat) (q : List Sl) (A2 : Option Addr) (c2 : Nat) (X : Dx) (W : World) : Prop where
  gw : Gw12 w p r y s 0 i k A c1 q A2 c2 X W
  zb : Db10 W z (nwD s.sl s.lv) X
  zy : r < z ∧ z < y
section
variable {w W W' : World} {p r z y : Nat} {s : Su} {i k : Nat} {A A2 : Option Addr} {c1 c2 : Nat} {q : List Sl} {X : Dx}
theorem Gr12.below (h : Gr12 w p r z y s i k A c1 q A2 c2 X W) (hb : Below W.heap.size W W') : Gr12 w p r z y s i k A c1 q A2 c2 X W' := ⟨h.gw.below hb, h.zb.up hb, h.zy⟩
theorem Gr12.alloc (h : Gr12 w p r z y s i k A c1 q A2 c2 X W) (o : Obj) : Gr12 w p r z y s i k A c1 q A2 c2 X (W.alloc o) := h.below ((Below.refl _ _).alloc (Nat.le_refl _) o)
theorem Gr12.drew (h : Gr12 w p r z y s i k A c1 q A2 c2 X W) : Gr12 w p r z y s i k A c1 q A2 c2 X W.drew := h.below (Below.refl _ _).drew
theorem Gr12.slot {W0 : World} (h0 : Gw12 w p r y s 0 i k A c1 q A2 c2 X W0) (h : Gr12 w p r z y s i k A c1 q A2 c2 X W) {T : Sl} (hso : T.so = nwSl s i) (hsr : SR W W.heap.size T.sh T.sx) (hsn : T.sx.nw W0.heap.size)
    {g1 cp1 : Nat} (ho : W'.ownsRow (y + 1) 88 9 (.slice (some ⟨g1, 0, none⟩) (i + 1) cp1) (i + 1) (qcs q ++ T.l)) (hg : W.grownBy W' (Value.slice A i c1).ownBlock) (hat : (Value.slice A i c1).ownBlock = some g1 ∨ g1 = W.heap.size) :
    Gr12 w p r z y s (i + 1) k (some ⟨g1, 0, none⟩) cp1 (q ++ [T]) A2 c2 X (W'.setCell ⟨y, 0, none⟩ (.slice (some ⟨g1, 0, none⟩) (i + 1) cp1)) :=
  ⟨h0.slot h.gw hso hsr hsn ho hg hat, (h.zb.grownN hg (fun x e => by have := (h.gw.o1.lt x e).1; have := h.zy; omega)).other (a := ⟨y, 0, none⟩) (show y ≠ z by have := h.zy; omega) _, h.zy⟩
theorem Gr12.stripe (h : Gr12 w p r z y s i k A c1 q A2 c2 X W)
    {g1 cp1 : Nat} (ho : W'.ownsRow (y + 1) 90 4 (.slice (some ⟨g1, 0, none⟩) (k + 1) cp1) (k + 1) (tcs (List.replicate k (stE s)) ++ (stE s).l)) (hg : W.grownBy W' (Value.slice A2 k c2).ownBlock) (hat : (Value.slice A2 k c2).ownBlock = some g1 ∨ g1 = W.heap.size) :
    Gr12 w p r z y s i (k + 1) A c1 q (some ⟨g1, 0, none⟩) cp1 X (W'.setCell ⟨y, 1, none⟩ (.slice (some ⟨g1, 0, none⟩) (k + 1) cp1)) :=
  ⟨h.gw.stripe ho hg hat, (h.zb.grownN hg (fun x e => by have := (h.gw.o2.lt x e).1; have := h.zy; omega)).other (a := ⟨y, 1, none⟩) (show y ≠ z by have := h.zy; omega) _, h.zy⟩
/-- A store into a box that is none of these. -/
theorem Gr12.sets (h : Gr12 w p r z y s i k A c1 q A2 c2 X W) {x : Nat} (hb : Below x W W') (hx : W.heap.size ≤ x) : Gr12 w p r z y s i k A c1 q A2 c2 X W' := h.below (hb.mono hx)
end
/-- The box of the next shard, since the world w0. -/
structure Gx12 (w : World) (p r z y x : Nat) (w0 : World) (s : Su) (i : Nat) (A : Option Addr) (c1 : Nat) (q : List Sl) (A2 : Option Addr) (c2 : Nat) (X : Dx) (S : Sh) (D : Sx) (W : World) : Prop where
  g0 : Gr12 w p r z y s i i A c1 q A2 c2 X w0
  b0 : Below w0.heap.size w0 W
  xb : SB8 W x S D
  xr : SR W W.heap.size S D
  xn : D.nw w0.heap.size
  xl : w0.heap.size ≤ x
section
variable {w w0 W W' : World} {p r z y x : Nat} {s : Su} {i : Nat} {A A2 : Option Addr} {c1 c2 : Nat} {q : List Sl} {X : Dx} {S S' : Sh} {D E : Sx}
theorem Gx12.gr (h : Gx12 w p r z y x w0 s i A c1 q A2 c2 X S D W) : Gr12 w p r z y s i i A c1 q A2 c2 X W := h.g0.below h.b0
/-- Another shard is stored. -/
theorem Gx12.put (h : Gx12 w p r z y x w0 s i A c1 q A2 c2 X S D W) (hb : Below W.heap.size W W') (hr : SR W' W'.heap.size S' E) (hn : E.nw W.heap.size) : Gx12 w p r z y x w0 s i A c1 q A2 c2 X S' E (set8s W' x S' E) :=
  ⟨h.g0, set8s_below h.xl (h.b0.trans (hb.mono h.b0.size)) _ _, (h.xb.up hb).put S' E, SR.sets (hn.off h.xb.lt) (S'.l8 E) 0 W' hr, hn.low h.b0.size, h.xl⟩
/-- The cells that the draw of the next shard loads. -/
abbrev C4q (p z b o m c k i : Nat) (M : Sp) (W : World) : Prop := W.cell? ⟨p, 2, none⟩ = some (.int .i64 (k : Int)) ∧ W.cell? ⟨z, 1, none⟩ = some (.slice (some ⟨b, o, none⟩) m c) ∧ W.cell? ⟨b, o + i * 3, none⟩ = some (.int .i64 M.lo) ∧ W.cell? ⟨b, o + i * 3 + 1, none⟩ = some (.int .i64 M.hi)
theorem Gr12.c4 (h : Gr12 w p r z y s i i A c1 q A2 c2 X w0) {m k : Nat} (hk : s.cp = (k : Int)) (hm : (nwD s.sl s.lv).l.length = m) (hi : i < m) : ∃ b o, ∀ W, Below w0.heap.size w0 W → C4q p z b o m X.c k i (sg (nwD s.sl s.lv).l i) W := by
  obtain ⟨b, o, e, hb, h1, h2, -⟩ := h.gw.dr.pl.atg (k := i) (by omega)
  refine ⟨b, o, fun W hW => ⟨?_, ?_, ?_, ?_⟩⟩
  · rw [← hk]; exact (hW.cell (p := ⟨p, 2, none⟩) h.gw.sb.lt).trans h.gw.sb.k.2.2.1
  · rw [← e, ← hm]; exact (hW.cell (p := ⟨z, 1, none⟩) h.zb.lt).trans h.zb.c1
  · exact (hW.cell (p := ⟨b, o + i * 3, none⟩) hb).trans h1
  · exact (hW.cell (p := ⟨b, o + i * 3 + 1, none⟩) hb).trans h2
end

end Go.Proofs.Ytijpflljopckiaa
namespace Go.Proofs.Ytijpflljopckiaa
open Go.RowKit
set_option linter.unusedVariables false

set_option maxHeartbeats 8000000 in
set_option maxRecDepth 20000 in
theorem anew_any (s : Su) (w : World) : Calls Try.prog 8 #[s.v] w (AE w (nwA s) (nwAE s)) := by
  have H0 := Lib.hid (Pn12.start w s)
  have HIS := Lib.hid (fun W => isset_any s W)
  have HDN := Lib.hid (fun W => dnew_any s.sl s.lv W)
  have HDE := Lib.hid (fun W => new8_any s.dd W)
  have HA := Lib.hid (rfl : nwA s = if suB s = true then grA s s.sl.toNat s.sl.toNat s.dd else zA)
  have HE := Lib.hid (rfl : nwAE s = if suB s = true then 0 else 1)
  obtain ⟨i0, hi0, hz0⟩ := Option.map_eq_some_iff.1 info_sl
  obtain ⟨i1, hi1, hz1⟩ := Option.map_eq_some_iff.1 info_st12
  simp only [Prod.mk.injEq] at hz0 hz1
  have HI := Lib.hid hi0
  have HZ := Lib.hid hz0
  have HI1 := Lib.hid hi1
  have HZ1 := Lib.hid hz1
  clear hi0 hz0 hi1 hz1
  obtain ⟨p, hp⟩ : ∃ p, p = w.heap.size := ⟨_, rfl⟩
  obtain ⟨r, hr⟩ : ∃ r, r = w.heap.size + 1 := ⟨_, rfl⟩
  have HPP := Lib.hid (And.intro hp hr)
  clear hp hr
  cases hs : suB s with
  | false =>
    rw [hs] at HIS
    have HA2 := Lib.hid (show nwA s = zA from HA.out.trans (if_neg (by rw [hs]; decide)))
    have HE2 := Lib.hid (show nwAE s = 1 from HE.out.trans (if_neg (by rw [hs]; decide)))
    clear hs HA HE
    go_enter Try.func8, Try.ntmps8
    obtain ⟨k0, k1, k2, k3, k4, k5, k6, k7⟩ := H0.out.sb.k
    have kl := H0.out.sb.lt
    go_wp2_with fail
    clear k0 k1 k2 k3 k4 k5 k6 k7 kl
    rw [← HPP.out.2, ← HPP.out.1] at H0
    generalize (w.alloc (.cells #[.int .i64 s.sl, .int .i64 s.lv, .int .i64 s.cp, .int .i64 s.dd, .int .i64 s.lm, .int .i64 s.ck, .int .i64 s.ni, .int .i64 s.ep] 41)).alloc (.cells #[.slice none 0 0, .slice none 0 0, .int .i64 0, .int .i64 0, .slice none 0 0, .int .i64 0, .slice none 0 0, .slice none 0 0, .int .i64 0, .int .i64 0, .int .i64 0] 36) = w1 at *
    rw [← HPP.out.2, ← HPP.out.1]
    refine (HIS.out _).mono ?_
    rintro e w2 ⟨rfl, hb⟩
    have H1 := Lib.hid (H0.out.below hb)
    clear hb H0
    obtain ⟨k0, k1, k2, k3, k4, k5, k6, k7, k8, k9, k10⟩ := H1.out.rb.k
    obtain ⟨f0, f1, f2, f3, f4, f5, f6, f7, f8, f9, f10⟩ := H1.out.rb.free
    have kl := H1.out.rb.lt
    have HF := Lib.hid (show AE w (nwA s) (nwAE s) (.returned (.tuple #[av zA zAx, .int .i64 1])) (set11 w2 r zA zAx) from by
      rw [HA2.out, HE2.out]
      have := H1.out.ne
      exact ae_out (y := r) (by omega) H1.out.bel (zAx_nw _) (Nat.le_refl _) AR.zero 1)
    clear HA2 HE2 H1
    go_wp2
    exact bodyPost_ret (v := .tuple #[.agg #[.slice none 0 0, .slice none 0 0, .int .i64 0, .int .i64 0, .slice none 0 0, .int .i64 0, .slice none 0 0, .slice none 0 0, .int .i64 0, .int .i64 0, .int .i64 0], .int .i64 1]) (by simp only [results, Try.results8]; go_simp <;> rfl) rfl HF.out
  | true =>
    have HOK := Lib.hid (suB_iff.1 hs)
    rw [hs] at HIS
    have HA2 := Lib.hid (show nwA s = grA s s.sl.toNat s.sl.toNat s.dd from HA.out.trans (if_pos hs))
    have HE2 := Lib.hid (show nwAE s = 0 from HE.out.trans (if_pos hs))
    have HCP := Lib.hid (show nw8 s.dd = s.dd from if_pos (wi_true HOK.out.2.2.2.1.1 HOK.out.2.2.2.1.2))
    obtain ⟨n, hn⟩ : ∃ n : Nat, n = s.sl.toNat := ⟨_, rfl⟩
    have HNN := Lib.hid (show s.sl = (n : Int) ∧ n ≤ 6 from by have := HOK.out; unfold Su.Ok at this; omega)
    obtain ⟨k, hk⟩ : ∃ k : Nat, k = s.cp.toNat := ⟨_, rfl⟩
    have HKK := Lib.hid (show s.cp = (k : Int) ∧ 1 ≤ k ∧ k ≤ 12 ∧ k = s.cp.toNat from by have := HOK.out; unfold Su.Ok at this; omega)
    rw [← hn] at HA2
    rw [HCP.out] at HDE
    clear hs HA HE HCP hn hk
    go_enter Try.func8, Try.ntmps8
    obtain ⟨k0, k1, k2, k3, k4, k5, k6, k7⟩ := H0.out.sb.k
    have kl := H0.out.sb.lt
    go_wp2_with fail
    clear k0 k1 k2 k3 k4 k5 k6 k7 kl
    rw [← HPP.out.2, ← HPP.out.1] at H0
    generalize (w.alloc (.cells #[.int .i64 s.sl, .int .i64 s.lv, .int .i64 s.cp, .int .i64 s.dd, .int .i64 s.lm, .int .i64 s.ck, .int .i64 s.ni, .int .i64 s.ep] 41)).alloc (.cells #[.slice none 0 0, .slice none 0 0, .int .i64 0, .int .i64 0, .slice none 0 0, .int .i64 0, .slice none 0 0, .slice none 0 0, .int .i64 0, .int .i64 0, .int .i64 0] 36) = w1 at *
    rw [← HPP.out.2, ← HPP.out.1]
    refine (HIS.out _).mono ?_
    rintro e w2 ⟨rfl, hb⟩
    have H1 := Lib.hid (H0.out.below hb)
    clear hb H0
    have HY1 := Lib.hid (show Py12 w p r w2.heap.size s ⟨[], [], 0, 0, [], zD10, s.ep, s.ck, s.ni⟩ zAx (w2.alloc (.cells #[.slice none 0 0, .slice none 0 0, .int .i64 0, .int .i64 0, .slice none 0 0, .int .i64 0, .slice none 0 0, .slice none 0 0, .int .i64 s.ep, .int .i64 s.ck, .int .i64 s.ni] 36)) from ⟨H1.out.below ((Below.refl _ _).alloc (Nat.le_refl _) _), QB.start w2 ⟨[], [], 0, 0, [], zD10, s.ep, s.ck, s.ni⟩ zAx _, H1.out.rb.lt⟩)
    obtain ⟨k0, k1, k2, k3, k4, k5, k6, k7⟩ := H1.out.sb.k
    have kl := H1.out.sb.lt
    go_upto_region 4 with (fail)
    clear k0 k1 k2 k3 k4 k5 k6 k7 kl H1
    obtain ⟨y, hy⟩ : ∃ y, y = w2.heap.size := ⟨_, rfl⟩
    rw [← hy] at HY1 ⊢
    clear hy
    generalize w2.alloc (.cells #[.slice none 0 0, .slice none 0 0, .int .i64 0, .int .i64 0, .slice none 0 0, .int .i64 0, .slice none 0 0, .slice none 0 0, .int .i64 s.ep, .int .i64 s.ck, .int .i64 s.ni] 36) = w3 at *
    obtain ⟨k0, k1, k2, k3, k4, k5, k6, k7⟩ := HY1.out.pn.sb.k
    have kl := HY1.out.pn.sb.lt
    go_wp2_with fail
    clear k0 k1 k2 k3 k4 k5 k6 k7 kl
    refine (HDN.out _).mono ?_
    rintro e w4 ⟨X, rfl, hnw, hdr, hb⟩
    have HY2 := Lib.hid (HY1.out.below hb)
    have HXN := Lib.hid (hnw.low (show y + 1 ≤ _ from HY1.out.yb.lt))
    have HDR := Lib.hid hdr
    clear hb hnw hdr HY1 HDN
    have HY3 := Lib.hid (HY2.out.dir (nwD s.sl s.lv) X)
    have HDR3 := Lib.hid ((((HDR.out.offp (q := ⟨y, 5, none⟩) (HXN.out.off (Nat.lt_succ_self y)) (.int .i64 (nwD s.sl s.lv).vn)).offp (q := ⟨y, 6, none⟩) (HXN.out.off (Nat.lt_succ_self y)) (.slice X.A (nwD s.sl s.lv).l.length X.c)).offp (q := ⟨y, 7, none⟩) (HXN.out.off (Nat.lt_succ_self y)) (.slice X.A2 (nwD s.sl s.lv).F.length X.c2)).more (show w4.heap.size ≤ (((w4.setCell ⟨y, 5, none⟩ (.int .i64 (nwD s.sl s.lv).vn)).setCell ⟨y, 6, none⟩ (.slice X.A (nwD s.sl s.lv).l.length X.c)).setCell ⟨y, 7, none⟩ (.slice X.A2 (nwD s.sl s.lv).F.length X.c2)).heap.size by simp))
    obtain ⟨k0, k1, k2, k3, k4, k5, k6, k7, k8, k9, k10⟩ := HY2.out.yb.k
    obtain ⟨f0, f1, f2, f3, f4, f5, f6, f7, f8, f9, f10⟩ := HY2.out.yb.free
    have kl := HY2.out.yb.lt
    go_upto_region 5 with (fail)
    clear k0 k1 k2 k3 k4 k5 k6 k7 k8 k9 k10 f0 f1 f2 f3 f4 f5 f6 f7 f8 f9 f10 kl HY2 HDR
    generalize ((w4.setCell ⟨y, 5, none⟩ (.int .i64 (nwD s.sl s.lv).vn)).setCell ⟨y, 6, none⟩ (.slice X.A (nwD s.sl s.lv).l.length X.c)).setCell ⟨y, 7, none⟩ (.slice X.A2 (nwD s.sl s.lv).F.length X.c2) = w5 at *
    obtain ⟨k0, k1, k2, k3, k4, k5, k6, k7⟩ := HY3.out.pn.sb.k
    have kl := HY3.out.pn.sb.lt
    go_wp2_with fail
    clear k0 k1 k2 k3 k4 k5 k6 k7 kl
    refine (HDE.out _).mono ?_
    rintro e w6 ⟨rfl, hb⟩
    have HY4 := Lib.hid (HY3.out.below hb)
    have HDR4 := Lib.hid (HDR3.out.up hb)
    clear hb HY3 HDR3 HDE
    have HG := Lib.hid ((HY4.out.dead s.dd).grow (((HDR4.out.offp (q := ⟨y, 3, none⟩) (HXN.out.off (Nat.lt_succ_self y)) (.int .i64 s.dd)).offp (q := ⟨y, 4, none⟩) (HXN.out.off (Nat.lt_succ_self y)) (.slice none 0 0)).more (by simp)) ⟨HXN.out.low (by have := HY4.out.ry; omega), HXN.out.off (Nat.lt_succ_self y)⟩)
    obtain ⟨k0, k1, k2, k3, k4, k5, k6, k7, k8, k9, k10⟩ := HY4.out.yb.k
    obtain ⟨f0, f1, f2, f3, f4, f5, f6, f7, f8, f9, f10⟩ := HY4.out.yb.free
    have kl := HY4.out.yb.lt
    go_upto_region 6 with (fail)
    clear k0 k1 k2 k3 k4 k5 k6 k7 k8 k9 k10 f0 f1 f2 f3 f4 f5 f6 f7 f8 f9 f10 kl HY4 HDR4 HXN
    generalize (w6.setCell ⟨y, 3, none⟩ (.int .i64 s.dd)).setCell ⟨y, 4, none⟩ (.slice none 0 0) = w7 at *
    obtain ⟨k0, k1, k2, k3, k4, k5, k6, k7⟩ := HG.out.sb.k
    have kl := HG.out.sb.lt
    have hsl := HNN.out.1
    rw [hsl] at k0
    clear hsl
    go_wp2_with fail
    clear k0 k1 k2 k3 k4 k5 k6 k7 kl
    go_loopw [36] (fun iv wr => ∃ (i : Nat) (A : Option Addr) (c1 : Nat) (q : List Sl) (A2 : Option Addr) (c2 : Nat), iv = .int .i64 i ∧ i ≤ n ∧ Hid (Gw12 w p r y s s.dd i i A c1 q A2 c2 X wr)) (fun iv _ => n - (intOf iv).toNat)
    case atStart => exact ⟨0, none, 0, [], none, 0, rfl, Nat.zero_le _, HG⟩
    case round =>
      clear HG
      obtain ⟨i, A, c1, q, A2, c2, rfl, hi, HG⟩ := hrel
      by_cases hlt : i < n
      · have hlt' : (i : Int) < (n : Int) := by omega
        have hi6 : i < 6 := by have := HNN.out.2; omega
        have HI6 := Lib.hid hi6
        have hw1 : IntKind.i64.wrap ((i : Int) + 1) = (i : Int) + 1 := IntWalk.i64_in _ (by omega)
        obtain ⟨FF, hFF⟩ : ∃ FF, FF = ffS (nwD s.sl s.lv) (i : Int) k := ⟨_, rfl⟩
        have HFS := Lib.hid (fun W (k0 : Gw12 w p r y s s.dd i i A c1 q A2 c2 X W) => fshard_any (nwD s.sl s.lv) X (i : Int) k W k0.dr HKK.out.2.1 HKK.out.2.2.1)
        rw [← hFF] at HFS
        have HSO := Lib.hid (show ∀ D, Sl.so ⟨0, FF, D⟩ = nwSl s i from fun D => by unfold nwSl; rw [← HKK.out.2.2.2, ← hFF]; rfl)
        clear hFF hi hi6
        have HD := Lib.hid HG.out.drew
        obtain ⟨y0, y1, y2, y3, y4, y5, y6, y7, y8, y9, y10⟩ := HG.out.yk
        have yl := HG.out.yl
        obtain ⟨k0, k1, k2, k3, k4, k5, k6, k7⟩ := HG.out.sb.k
        have kl := HG.out.sb.lt
        have hcp := HKK.out.1
        rw [hcp] at k2
        clear hcp
        go_upto_region 9 with (fail)
        go_cut [5] (fun s5 wx => s5 = .int .i64 i ∧ ∃ (A : Option Addr) (c1 : Nat) (q : List Sl), Hid (Gw12 w p r y s s.dd (i + 1) i A c1 q A2 c2 X wx))
        case first =>
          go_region_law (first
            | (go_simp; go_at_call 35; (with_reducible refine (HFS.out _ HD.out).mono ?_); rintro e w4 ⟨D, rfl, hn, hr, hb⟩; have HTN := Lib.hid hn; have HD4 := Lib.hid (HD.out.below hb); have HD5 := Lib.hid (HD4.out.alloc (.cells (Sl.mk 0 FF D).l.toArray 88)); have HTR := Lib.hid (hr.up ((Below.refl w4.heap.size w4).alloc (Nat.le_refl _) (.cells (Sl.mk 0 FF D).l.toArray 88))); obtain ⟨z0, z1, z2, z3, z4, z5, z6, z7, z8, z9, z10⟩ := HD4.out.yk; have zl := HD4.out.yl; clear hn hr hb)
            | (refine step_append_lies _ (by rfl) _ _ _ (by rfl) (y + 1) 88 i0 _ 9 120 Try.underlying25 HI.out HZ.out.1 HZ.out.2.1 HZ.out.2.2 rfl (by omega) (.slice A i c1) i (qcs q) (by rfl) HD5.out.o1 ⟨w4.heap.size, 0, none⟩ 1 1 (Sl.mk 0 FF D).l (by rfl) (by rfl) (World.news_of_block (cs := (Sl.mk 0 FF D).l.toArray) (t := 88) (fr := (0, 0)) (heap_alloc_new w4 _)) (Sl.l_one _) (by omega) (by have := HI6.out; unfold maxLen; omega) (by have := HI6.out; omega) (Nat.succ_le_of_lt HD5.out.yl) _ rfl ?_; intro g1 cp1 w8 hown1 hgrow1 hat1 hlt1; have HP8 := Lib.hid (HD.out.slot (T := Sl.mk 0 FF D) HD5.out (HSO.out D) HTR.out HTN.out hown1 hgrow1 hat1); obtain ⟨v1, v2, v3⟩ := HD5.out.near1 hgrow1; clear hown1 hgrow1 hat1 hlt1))
          all_goals
            have HQ := Lib.hid HP8.out
            clear HP8 HG HD HD4 HD5 HTN HTR HFS HSO
            go_wp2_with fail
            go_meet
            exact ⟨rfl, _, _, _, HQ⟩
        case rest =>
          obtain ⟨rfl, A, c1, q, HQ⟩ := hcut
          clear y0 y1 y2 y3 y4 y5 y6 y7 y8 y9 y10 yl k0 k1 k2 k3 k4 k5 k6 k7 kl HG HD HFS HSO
          generalize wc = w9 at *
          obtain ⟨y0, y1, y2, y3, y4, y5, y6, y7, y8, y9, y10⟩ := HQ.out.yk
          have yl := HQ.out.yl
          obtain ⟨k0, k1, k2, k3, k4, k5, k6, k7⟩ := HQ.out.sb.k
          have kl := HQ.out.sb.lt
          go_wp2_with (at_builtin; refine wpList_append_lies _ rfl _ _ _ rfl (y + 1) 90 i1 _ 4 32 Try.underlying26 HI1.out HZ1.out.1 HZ1.out.2.1 HZ1.out.2.2 rfl (by omega) (.slice A2 i c2) i (tcs (List.replicate i (stE s))) (by rfl) (HQ.out.alloc _).o2 ⟨w9.heap.size, 0, none⟩ 1 1 (stE s).l (by rfl) (by rfl) (World.news_of_block (cs := (stE s).l.toArray) (t := 90) (fr := (0, 0)) (heap_alloc_new w9 _)) (St.l_one _) (by omega) (by have := HI6.out; unfold maxLen; omega) (by have := HI6.out; omega) (Nat.succ_le_of_lt (HQ.out.alloc _).yl) _ rfl ?_; intro g2 cp2 w10 hown2 hgrow2 hat2 hlt2; have HR := Lib.hid ((HQ.out.alloc _).stripe hown2 hgrow2 hat2); obtain ⟨u1, u2, u3⟩ := (HQ.out.alloc _).near2 hgrow2; clear hown2 hgrow2 hat2 hlt2)
          go_roundw
          case rel => exact ⟨i + 1, _, _, _, _, _, by go_num, by omega, HR⟩
          case measure => simp [intOf]; omega
      · obtain rfl : i = n := by omega
        clear hi hlt
        have HAR := Lib.hid HG.out.ar
        have HAN := Lib.hid HG.out.anw
        obtain ⟨y0, y1, y2, y3, y4, y5, y6, y7, y8, y9, y10⟩ := HG.out.yk
        have yl := HG.out.yl
        obtain ⟨k0, k1, k2, k3, k4, k5, k6, k7, k8, k9, k10⟩ := HG.out.rb.k
        obtain ⟨f0, f1, f2, f3, f4, f5, f6, f7, f8, f9, f10⟩ := HG.out.rb.free
        have kl := HG.out.rb.lt
        have hyr : ¬ y = r := by have := HG.out.ne; omega
        have hry : ¬ r = y := fun e => hyr e.symm
        have HF := Lib.hid (show AE w (nwA s) (nwAE s) (.returned (.tuple #[.agg #[.slice A i c1, .slice A2 i c2, .int .i64 0, .int .i64 s.dd, .slice none 0 0, .int .i64 (nwD s.sl s.lv).vn, .slice X.A (nwD s.sl s.lv).l.length X.c, .slice X.A2 (nwD s.sl s.lv).F.length X.c2, .int .i64 s.ep, .int .i64 s.ck, .int .i64 s.ni], .int .i64 0])) (((((((((((wr.setCell ⟨r, 0, none⟩ (.slice A i c1)).setCell ⟨r, 1, none⟩ (.slice A2 i c2)).setCell ⟨r, 2, none⟩ (.int .i64 0)).setCell ⟨r, 3, none⟩ (.int .i64 s.dd)).setCell ⟨r, 4, none⟩ (.slice none 0 0)).setCell ⟨r, 5, none⟩ (.int .i64 (nwD s.sl s.lv).vn)).setCell ⟨r, 6, none⟩ (.slice X.A (nwD s.sl s.lv).l.length X.c)).setCell ⟨r, 7, none⟩ (.slice X.A2 (nwD s.sl s.lv).F.length X.c2)).setCell ⟨r, 8, none⟩ (.int .i64 s.ep)).setCell ⟨r, 9, none⟩ (.int .i64 s.ck)).setCell ⟨r, 10, none⟩ (.int .i64 s.ni)) from by
          rw [HA2.out, HE2.out]
          have := HG.out.ne
          have h := ae_out (show w.heap.size ≤ r by omega) HG.out.bel HAN.out (by omega) HAR.out 0
          simp only [av, set11, grA_sl, grA_st] at h
          exact h)
        clear HAR HAN HA2 HE2 HG
        go_wp2
        exact bodyPost_ret (v := .tuple #[.agg #[.slice A i c1, .slice A2 i c2, .int .i64 0, .int .i64 s.dd, .slice none 0 0, .int .i64 (nwD s.sl s.lv).vn, .slice X.A (nwD s.sl s.lv).l.length X.c, .slice X.A2 (nwD s.sl s.lv).F.length X.c2, .int .i64 s.ep, .int .i64 s.ck, .int .i64 s.ni], .int .i64 0]) (by simp only [results, Try.results8]; go_simp <;> rfl) rfl HF.out
end Go.Proofs.Ytijpflljopckiaa
namespace Go.Proofs.Ytijpflljopckiaa
open Go.RowKit
set_option linter.unusedVariables false

theorem ffS_len {d : Dd} {j : Int} {k : Nat} (h1 : 1 ≤ k) (h2 : k ≤ 12) : (ffS d j k).cs.length ≤ 1000 ∧ (ffS d j k).l.length ≤ 1000 ∧ (ffS d j k).h.length ≤ 1000 := by
  have hn : (nwC (k : Int)).length = k := by rw [(nwC_fil h1 h2 0 (by omega)).1, fil_len]
  unfold ffS
  split
  · unfold neS
    split
    · exact ⟨by show (nwC (k : Int)).length ≤ 1000; omega, Nat.zero_le _, Nat.zero_le _⟩
    · exact ⟨Nat.zero_le _, Nat.zero_le _, Nat.zero_le _⟩
  · exact ⟨by show (nwC (k : Int)).length ≤ 1000; omega, Nat.zero_le _, Nat.zero_le _⟩
theorem few_nw {s : Su} (hs : suB s = true) : (nwA s).Few := by
  have hok := suB_iff.1 hs
  unfold Su.Ok at hok
  have e : nwA s = grA s s.sl.toNat s.sl.toNat s.dd := if_pos hs
  rw [e]
  obtain ⟨n, hn⟩ : ∃ n : Nat, s.sl = n := ⟨s.sl.toNat, by omega⟩
  obtain ⟨m, hm⟩ : ∃ m : Nat, s.lv = m := ⟨s.lv.toNat, by omega⟩
  have hd : nwD s.sl s.lv = ⟨1, nwL m m, List.replicate n (-1)⟩ := by rw [hn, hm]; exact nwD_ok (by omega) (by omega) (by omega)
  refine ⟨by rw [grA_sl]; omega, by rw [grA_st]; omega, Nat.zero_le _, ?_, fun t ht => ?_⟩
  · show (nwD s.sl s.lv).l.length ≤ 1000 ∧ (nwD s.sl s.lv).F.length ≤ 1000
    rw [hd]
    exact ⟨by show (nwL m m).length ≤ 1000; rw [nwL_len]; omega, by show (List.replicate n (-1 : Int)).length ≤ 1000; rw [List.length_replicate]; omega⟩
  · have ht2 : t ∈ (List.range s.sl.toNat).map (nwSl s) := ht
    obtain ⟨i, -, rfl⟩ := List.mem_map.1 ht2
    exact ffS_len (by omega) (by omega)
theorem Ar.Few.own {a : Ar} (h : a.Few) (k : Nat) (v : Int) : (a.setOwn k v).Few := by
  unfold Ar.setOwn
  split
  · exact ⟨h.sl, h.st, h.dl, h.dr, h.sh⟩
  · refine ⟨by simpa using h.sl, h.st, h.dl, h.dr, fun s hs => ?_⟩
    rcases List.mem_or_eq_of_mem_set hs with h1 | rfl
    · exact h.sh s h1
    · by_cases hk : k < a.sl.length
      · have h1 := h.sh a.sl[k] (List.getElem_mem hk); rw [og_get hk]; exact h1
      · have e : og a.sl k = ⟨0, zS⟩ := by simp [og, List.getD, List.getElem?_eq_none (Nat.not_lt.1 hk)]
        rw [e]
        exact ⟨Nat.zero_le 1000, Nat.zero_le 1000, Nat.zero_le 1000⟩
/-- An arena in a box of the call's own. -/
structure Aw12 (w : World) (p : Nat) (a : Ar) (Y : Ax) (W : World) : Prop where
  qb : QB W p a Y
  ar : AR W W.heap.size a Y
  bel : Below w.heap.size w W
  old : w.heap.size ≤ p
section
variable {w W W' : World} {p : Nat} {a a' : Ar} {Y Z : Ax}
theorem Aw12.below (h : Aw12 w p a Y W) (hb : Below W.heap.size W W') : Aw12 w p a Y W' := ⟨h.qb.up hb, h.ar.up hb, h.bel.trans (hb.mono h.bel.size), h.old⟩
theorem Aw12.start (hb : Below w.heap.size w W) (h : AR W W.heap.size a Y) : Aw12 w W.heap.size a Y (W.alloc (.cells #[.slice Y.A a.sl.length Y.c, .slice Y.A2 a.st.length Y.c2, .int .i64 a.ow, .int .i64 a.cap, .slice Y.A3 a.dl.length Y.c3, .int .i64 a.dir.vn, .slice Y.D.A a.dir.l.length Y.D.c, .slice Y.D.A2 a.dir.F.length Y.D.c2, .int .i64 a.ep, .int .i64 a.ck, .int .i64 a.ni] 36)) :=
  ⟨QB.start W a Y _, h.alloc _, hb.alloc hb.size _, hb.size⟩
theorem Aw12.put (h : Aw12 w p a Y W) (hb : Below W.heap.size W W') (hn : Z.nw W.heap.size) (hr : AR W' W'.heap.size a' Z) : Aw12 w p a' Z (set11 W' p a' Z) :=
  have h' := h.below hb
  ⟨h'.qb.set a' Z, (hr.set11 (hn.off h.qb.lt) a' Z).more (by rw [set11_size]; exact Nat.le_refl _), set11_below h'.bel h.old a' Z, h.old⟩
end
end Go.Proofs.Ytijpflljopckiaa
namespace Go.Proofs.Ytijpflljopckiaa
open Go.RowKit
set_option linter.unusedVariables false

theorem anumber_any (n : Int) (w : World) : Calls Try.prog 45 #[.int .i64 n] w fun e w' => e = .returned (.bool (wi n 0 1099511627776)) ∧ w = w' := by
  have HW := Lib.hid (fun W => awithin_any n 0 1099511627776 W)
  go_enter Try.func45, Try.ntmps45
  go_wp2_with fail
  refine (HW.out _).mono ?_
  rintro e w1 ⟨rfl, rfl⟩
  go_wp2
  go_ret
  exact ⟨rfl, rfl⟩
/-- The place of an owner, the slots' row from o on. -/
def ownQ (p b o n k : Nat) : Addr := if k = n then ⟨p, 2, none⟩ else ⟨b, o + k * 9, none⟩
/-- The owner's cell of an arena in a box. -/
theorem Aw12.at_ {w W : World} {p : Nat} {a : Ar} {Y : Ax} (h : Aw12 w p a Y W) {k : Nat} (hk : k ≤ a.sl.length) (h0 : 0 < a.sl.length) : ∃ b o, Y.A = some ⟨b, o, none⟩ ∧ ∀ W', Below W.heap.size W W' → W'.cell? (ownQ p b o a.sl.length k) = some (.int .i64 (a.own k)) := by
  obtain ⟨D0, b, o, hA, hb, -, -, -⟩ := h.ar.at2 h0
  refine ⟨b, o, hA, fun W' hW => ?_⟩
  unfold ownQ Ar.own
  by_cases e : k = a.sl.length
  · rw [if_pos e, if_pos e]
    exact (hW.cell (p := ⟨p, 2, none⟩) h.qb.lt).trans h.qb.k.2.2.1
  · rw [if_neg e, if_neg e]
    obtain ⟨D, b', o', hA', hb', h9, -, -⟩ := h.ar.at2 (k := k) (by omega)
    rw [hA] at hA'
    injection hA' with hA'
    injection hA' with e1 e2 e3
    subst e1 e2
    exact (hW.cell (p := ⟨b, o + k * 9, none⟩) hb).trans h9.1
end Go.Proofs.Ytijpflljopckiaa
namespace Go.Proofs.Ytijpflljopckiaa
open Go.RowKit
set_option linter.unusedVariables false

/-- The boxes of an arena and a result, behind a clone. -/
structure Wb14 (w : World) (p r : Nat) (a : Ar) (Y : Ax) (W : World) : Prop where
  pb : QB W p a Y
  rb : QB W r zA zAx
  ar : AR W W.heap.size a Y
  nw : Y.nw (r + 1)
  ne : w.heap.size ≤ p ∧ p < r
  bel : Below w.heap.size w W
section
variable {w W W' : World} {p r : Nat} {a b : Ar} {Y Z : Ax}
theorem Wb14.below (h : Wb14 w p r a Y W) (hb : Below W.heap.size W W') : Wb14 w p r a Y W' := ⟨h.pb.up hb, h.rb.up hb, h.ar.up hb, h.nw, h.ne, h.bel.trans (hb.mono h.bel.size)⟩
theorem QB.set11w {q : Nat} (h : QB W q a Y) (hp : p ≠ q) (b : Ar) (Z : Ax) : QB (set11 W p b Z) q a Y :=
  ((((((((((h.other (x := ⟨p, 0, none⟩) hp _).other (x := ⟨p, 1, none⟩) hp _).other (x := ⟨p, 2, none⟩) hp _).other (x := ⟨p, 3, none⟩) hp _).other (x := ⟨p, 4, none⟩) hp _).other (x := ⟨p, 5, none⟩) hp _).other (x := ⟨p, 6, none⟩) hp _).other (x := ⟨p, 7, none⟩) hp _).other (x := ⟨p, 8, none⟩) hp _).other (x := ⟨p, 9, none⟩) hp _).other (x := ⟨p, 10, none⟩) hp _
theorem Wb14.of (h : Ci12 w p r a Y W) (hb : Below W.heap.size W W') (hn : Z.nw W.heap.size) (hr : AR W' W'.heap.size b Z) : Wb14 w p r b Z (set11 W' p b Z) :=
  ⟨(h.pb.up hb).set b Z, (h.rb.up hb).set11w (by have := h.ne; omega) b Z, (hr.set11 (hn.off h.pb.lt) b Z).more (by rw [set11_size]; exact Nat.le_refl _), hn.low h.rb.lt, h.ne, set11_below (h.bel.trans (hb.mono h.bel.size)) h.ne.1 b Z⟩
theorem AR.words {B : Nat} (h : AR W B a Y) (ep ck ni : Int) : AR W B (a.words ep ck ni) Y := ⟨h.ql, h.so, h.sr, h.tl, h.ls, h.dr⟩
theorem AOff.words (h : AOff a Y p) (ep ck ni : Int) : AOff (a.words ep ck ni) Y p := ⟨h.o1, h.os, h.o2, h.o3, h.o4⟩
theorem Ar.Few.words (h : a.Few) (ep ck ni : Int) : (a.words ep ck ni).Few := ⟨h.sl, h.st, h.dl, h.dr, h.sh⟩
theorem QB.ep (h : QB W p a Y) (x : Int) : QB (W.setCell ⟨p, 8, none⟩ (.int .i64 x)) p (a.words x a.ck a.ni) Y := by
  obtain ⟨⟨k0, k1, k2, k3, k4, k5, k6, k7, k8, k9, k10⟩, fr, lt⟩ := h
  unfold Ar.words
  exact ⟨⟨by simp [go_sem, k0], by simp [go_sem, k1], by simp [go_sem, k2], by simp [go_sem, k3], by simp [go_sem, k4], by simp [go_sem, k5], by simp [go_sem, k6], by simp [go_sem, k7], by simp [go_sem, k8], by simp [go_sem, k9], by simp [go_sem, k10]⟩, fun o => by simp [go_sem, fr o], by simp [lt]⟩
theorem QB.ck (h : QB W p a Y) (x : Int) : QB (W.setCell ⟨p, 9, none⟩ (.int .i64 x)) p (a.words a.ep x a.ni) Y := by
  obtain ⟨⟨k0, k1, k2, k3, k4, k5, k6, k7, k8, k9, k10⟩, fr, lt⟩ := h
  unfold Ar.words
  exact ⟨⟨by simp [go_sem, k0], by simp [go_sem, k1], by simp [go_sem, k2], by simp [go_sem, k3], by simp [go_sem, k4], by simp [go_sem, k5], by simp [go_sem, k6], by simp [go_sem, k7], by simp [go_sem, k8], by simp [go_sem, k9], by simp [go_sem, k10]⟩, fun o => by simp [go_sem, fr o], by simp [lt]⟩
theorem Wb14.ep (h : Wb14 w p r a Y W) (x : Int) : Wb14 w p r (a.words x a.ck a.ni) Y (W.setCell ⟨p, 8, none⟩ (.int .i64 x)) :=
  ⟨h.pb.ep x, h.rb.other (x := ⟨p, 8, none⟩) (show p ≠ r by have := h.ne; omega) _, ((h.ar.offp (q := ⟨p, 8, none⟩) (h.nw.off (show p < r + 1 by have := h.ne; omega)) _).more (by simp)).words _ _ _, h.nw, h.ne, h.bel.setCell (p := ⟨p, 8, none⟩) h.ne.1 _⟩
theorem Wb14.ck (h : Wb14 w p r a Y W) (x : Int) : Wb14 w p r (a.words a.ep x a.ni) Y (W.setCell ⟨p, 9, none⟩ (.int .i64 x)) :=
  ⟨h.pb.ck x, h.rb.other (x := ⟨p, 9, none⟩) (show p ≠ r by have := h.ne; omega) _, ((h.ar.offp (q := ⟨p, 9, none⟩) (h.nw.off (show p < r + 1 by have := h.ne; omega)) _).more (by simp)).words _ _ _, h.nw, h.ne, h.bel.setCell (p := ⟨p, 9, none⟩) h.ne.1 _⟩
end
set_option maxHeartbeats 2000000 in
set_option maxRecDepth 20000 in
theorem aworderr_any (n : Int) (h0 : 0 ≤ n) (h1 : n ≤ 65536) (w : World) : Calls Try.prog 41 #[.int .i64 1, .int .i64 n] w fun e w' => e = .returned (.int .i64 0) ∧ w = w' := by
  have HR := Lib.hid (fun W => arange_any n 0 65536 W)
  have he : rgE n 0 65536 = 0 := if_pos (wi_true h0 h1)
  rw [he] at HR
  clear he h0 h1
  go_enter Try.func41, Try.ntmps41
  go_wp2_with fail
  refine (HR.out _).mono ?_
  rintro e w1 ⟨rfl, rfl⟩
  go_wp2
  go_ret
  exact ⟨rfl, rfl⟩
set_option maxHeartbeats 8000000 in
set_option maxRecDepth 20000 in
theorem acas_any (a : Ar) (Y : Ax) (o n : Int) (w : World) (har : AR w w.heap.size a Y) (hf : a.Few) (h0 : 0 ≤ n) (h1 : n ≤ 65536) : Calls Try.prog 12 #[av a Y, .int .i64 1, .int .i64 o, .int .i64 n] w (A3P w (a.words (if a.ep = o then n else a.ep) a.ck a.ni) (decide (a.ep = o)) 0) := by
  obtain ⟨p, hp⟩ : ∃ p, p = w.heap.size := ⟨_, rfl⟩
  obtain ⟨r, hr⟩ : ∃ r, r = w.heap.size + 1 := ⟨_, rfl⟩
  have H0 := Lib.hid (show Ci12 w p r a Y _ from by rw [hr, hp]; exact Ci12.start har)
  have HPP := Lib.hid (And.intro hp hr)
  have HWE := Lib.hid (fun W => aworderr_any n h0 h1 W)
  have HCL := Lib.hid (fun W (k : Ci12 w p r a Y W) => aclone_any a Y W (k.ar.more k.bel.size) hf)
  obtain ⟨B, hB⟩ : ∃ b, b = a.words (if a.ep = o then n else a.ep) a.ck a.ni := ⟨_, rfl⟩
  obtain ⟨TB, hTB⟩ : ∃ t, t = decide (a.ep = o) := ⟨_, rfl⟩
  rw [← hB, ← hTB]
  have HBB := Lib.hid (And.intro hB hTB)
  clear hp hr har hf h0 h1 hB hTB
  go_enter Try.func12, Try.ntmps12
  go_upto_region 1 with (fail)
  rw [← HPP.out.2, ← HPP.out.1]
  generalize (w.alloc (.cells #[.slice Y.A a.sl.length Y.c, .slice Y.A2 a.st.length Y.c2, .int .i64 a.ow, .int .i64 a.cap, .slice Y.A3 a.dl.length Y.c3, .int .i64 a.dir.vn, .slice Y.D.A a.dir.l.length Y.D.c, .slice Y.D.A2 a.dir.F.length Y.D.c2, .int .i64 a.ep, .int .i64 a.ck, .int .i64 a.ni] 36)).alloc (.cells #[.slice none 0 0, .slice none 0 0, .int .i64 0, .int .i64 0, .slice none 0 0, .int .i64 0, .slice none 0 0, .slice none 0 0, .int .i64 0, .int .i64 0, .int .i64 0] 36) = w1 at *
  go_wp2_with fail
  refine (HWE.out _).mono ?_
  rintro e w2 ⟨rfl, rfl⟩
  obtain ⟨y0, y1, y2, y3, y4, y5, y6, y7, y8, y9, y10⟩ := H0.out.pb.k
  have yl := H0.out.pb.lt
  go_wp2_with fail
  clear y0 y1 y2 y3 y4 y5 y6 y7 y8 y9 y10 yl
  refine (HCL.out _ H0.out).mono ?_
  rintro e w3 ⟨Z, b, rfl, hnw, har, hb, -, -, -, -, -, -, -⟩
  have HC := Lib.hid (show Wb14 w p r a Z (((((((((((w3.setCell ⟨p, 0, none⟩ (.slice Z.A a.sl.length Z.c)).setCell ⟨p, 1, none⟩ (.slice Z.A2 a.st.length Z.c2)).setCell ⟨p, 2, none⟩ (.int .i64 a.ow)).setCell ⟨p, 3, none⟩ (.int .i64 a.cap)).setCell ⟨p, 4, none⟩ (.slice Z.A3 a.dl.length Z.c3)).setCell ⟨p, 5, none⟩ (.int .i64 a.dir.vn)).setCell ⟨p, 6, none⟩ (.slice Z.D.A a.dir.l.length Z.D.c)).setCell ⟨p, 7, none⟩ (.slice Z.D.A2 a.dir.F.length Z.D.c2)).setCell ⟨p, 8, none⟩ (.int .i64 a.ep)).setCell ⟨p, 9, none⟩ (.int .i64 a.ck)).setCell ⟨p, 10, none⟩ (.int .i64 a.ni)) from Wb14.of H0.out hb hnw har)
  have H2 := Lib.hid (H0.out.below hb)
  clear hnw har hb H0 HCL HWE
  obtain ⟨y0, y1, y2, y3, y4, y5, y6, y7, y8, y9, y10⟩ := H2.out.pb.k
  have yl := H2.out.pb.lt
  obtain ⟨f0, f1, f2, f3, f4, f5, f6, f7, f8, f9, f10⟩ := H2.out.pb.free
  go_upto_region 5 with (fail)
  clear y0 y1 y2 y3 y4 y5 y6 y7 y8 y9 y10 yl f0 f1 f2 f3 f4 f5 f6 f7 f8 f9 f10 H2
  generalize ((((((((((w3.setCell ⟨p, 0, none⟩ (.slice Z.A a.sl.length Z.c)).setCell ⟨p, 1, none⟩ (.slice Z.A2 a.st.length Z.c2)).setCell ⟨p, 2, none⟩ (.int .i64 a.ow)).setCell ⟨p, 3, none⟩ (.int .i64 a.cap)).setCell ⟨p, 4, none⟩ (.slice Z.A3 a.dl.length Z.c3)).setCell ⟨p, 5, none⟩ (.int .i64 a.dir.vn)).setCell ⟨p, 6, none⟩ (.slice Z.D.A a.dir.l.length Z.D.c)).setCell ⟨p, 7, none⟩ (.slice Z.D.A2 a.dir.F.length Z.D.c2)).setCell ⟨p, 8, none⟩ (.int .i64 a.ep)).setCell ⟨p, 9, none⟩ (.int .i64 a.ck)).setCell ⟨p, 10, none⟩ (.int .i64 a.ni) = w4 at *
  have HWO := Lib.hid (aword1_any a Z p w4 HC.out.pb)
  go_wp2_with fail
  refine HWO.out.mono ?_
  rintro e w5 ⟨rfl, rfl⟩
  have HSW := Lib.hid (swap_any ⟨p, 8, none⟩ a.ep o n w4 HC.out.pb.k.2.2.2.2.2.2.2.2.1 (HC.out.pb.fr 8) HC.out.pb.lt)
  clear HWO
  go_wp2_with fail
  refine HSW.out.mono ?_
  rintro e w6 ⟨rfl, w7, hb, hw6⟩
  have HX := Lib.hid (show Wb14 w p r B Z w6 from by rw [hw6, HBB.out.1]; exact (HC.out.below hb).ep _)
  rw [← HBB.out.2]
  clear hb hw6 HC HSW HBB
  have HF := Lib.hid (a3_out (show w.heap.size ≤ r by have := HX.out.ne; omega) HX.out.bel HX.out.nw HX.out.ar TB 0)
  obtain ⟨y0, y1, y2, y3, y4, y5, y6, y7, y8, y9, y10⟩ := HX.out.pb.k
  have yl := HX.out.pb.lt
  obtain ⟨r0, r1, r2, r3, r4, r5, r6, r7, r8, r9, r10⟩ := HX.out.rb.k
  have rl := HX.out.rb.lt
  obtain ⟨f0, f1, f2, f3, f4, f5, f6, f7, f8, f9, f10⟩ := HX.out.rb.free
  have hpr : ¬ p = r := by have := HX.out.ne; omega
  have hrp : ¬ r = p := fun e => hpr e.symm
  clear HX
  go_wp2
  exact bodyPost_ret (v := .tuple #[av B Z, .bool TB, .int .i64 0]) (by simp only [results, Try.results12]; go_simp <;> rfl) rfl HF.out
set_option maxHeartbeats 8000000 in
set_option maxRecDepth 20000 in
theorem atick_any (a : Ar) (Y : Ax) (n : Int) (w : World) (har : AR w w.heap.size a Y) (hf : a.Few) (h0 : 0 ≤ n) (h1 : n ≤ 1000) (h2 : 0 ≤ a.ck) (h3 : a.ck ≤ 100000) : Calls Try.prog 13 #[av a Y, .int .i64 n] w (AE w (a.words a.ep (a.ck + n) a.ni) 0) := by
  obtain ⟨p, hp⟩ : ∃ p, p = w.heap.size := ⟨_, rfl⟩
  obtain ⟨r, hr⟩ : ∃ r, r = w.heap.size + 1 := ⟨_, rfl⟩
  have H0 := Lib.hid (show Ci12 w p r a Y _ from by rw [hr, hp]; exact Ci12.start har)
  have HPP := Lib.hid (And.intro hp hr)
  have HWE := Lib.hid (fun W => anumber_any n W)
  rw [wi_true h0 (show n ≤ 1099511627776 by omega)] at HWE
  have HCL := Lib.hid (fun W (k : Ci12 w p r a Y W) => aclone_any a Y W (k.ar.more k.bel.size) hf)
  have hw : IntKind.i64.wrap (a.ck + n) = a.ck + n := IntWalk.i64_in _ (by omega)
  have hle : ¬ (1073741824 < a.ck + n) := by omega
  obtain ⟨B, hB⟩ : ∃ b, b = a.words a.ep (a.ck + n) a.ni := ⟨_, rfl⟩
  rw [← hB]
  have HBB := Lib.hid hB
  clear hp hr har hf h0 h1 h2 h3 hB
  go_enter Try.func13, Try.ntmps13
  go_upto_region 1 with (fail)
  rw [← HPP.out.2, ← HPP.out.1]
  generalize (w.alloc (.cells #[.slice Y.A a.sl.length Y.c, .slice Y.A2 a.st.length Y.c2, .int .i64 a.ow, .int .i64 a.cap, .slice Y.A3 a.dl.length Y.c3, .int .i64 a.dir.vn, .slice Y.D.A a.dir.l.length Y.D.c, .slice Y.D.A2 a.dir.F.length Y.D.c2, .int .i64 a.ep, .int .i64 a.ck, .int .i64 a.ni] 36)).alloc (.cells #[.slice none 0 0, .slice none 0 0, .int .i64 0, .int .i64 0, .slice none 0 0, .int .i64 0, .slice none 0 0, .slice none 0 0, .int .i64 0, .int .i64 0, .int .i64 0] 36) = w1 at *
  go_wp2_with fail
  refine (HWE.out _).mono ?_
  rintro e w2 ⟨rfl, rfl⟩
  obtain ⟨y0, y1, y2, y3, y4, y5, y6, y7, y8, y9, y10⟩ := H0.out.pb.k
  have yl := H0.out.pb.lt
  go_wp2_with fail
  clear y0 y1 y2 y3 y4 y5 y6 y7 y8 y9 y10 yl
  refine (HCL.out _ H0.out).mono ?_
  rintro e w3 ⟨Z, b, rfl, hnw, har, hb, -, -, -, -, -, -, -⟩
  have HC := Lib.hid (show Wb14 w p r a Z (((((((((((w3.setCell ⟨p, 0, none⟩ (.slice Z.A a.sl.length Z.c)).setCell ⟨p, 1, none⟩ (.slice Z.A2 a.st.length Z.c2)).setCell ⟨p, 2, none⟩ (.int .i64 a.ow)).setCell ⟨p, 3, none⟩ (.int .i64 a.cap)).setCell ⟨p, 4, none⟩ (.slice Z.A3 a.dl.length Z.c3)).setCell ⟨p, 5, none⟩ (.int .i64 a.dir.vn)).setCell ⟨p, 6, none⟩ (.slice Z.D.A a.dir.l.length Z.D.c)).setCell ⟨p, 7, none⟩ (.slice Z.D.A2 a.dir.F.length Z.D.c2)).setCell ⟨p, 8, none⟩ (.int .i64 a.ep)).setCell ⟨p, 9, none⟩ (.int .i64 a.ck)).setCell ⟨p, 10, none⟩ (.int .i64 a.ni)) from Wb14.of H0.out hb hnw har)
  have H2 := Lib.hid (H0.out.below hb)
  clear hnw har hb H0 HCL HWE
  obtain ⟨y0, y1, y2, y3, y4, y5, y6, y7, y8, y9, y10⟩ := H2.out.pb.k
  have yl := H2.out.pb.lt
  obtain ⟨f0, f1, f2, f3, f4, f5, f6, f7, f8, f9, f10⟩ := H2.out.pb.free
  go_upto_region 6 with (fail)
  clear y0 y1 y2 y3 y4 y5 y6 y7 y8 y9 y10 yl f0 f1 f2 f3 f4 f5 f6 f7 f8 f9 f10 H2
  generalize ((((((((((w3.setCell ⟨p, 0, none⟩ (.slice Z.A a.sl.length Z.c)).setCell ⟨p, 1, none⟩ (.slice Z.A2 a.st.length Z.c2)).setCell ⟨p, 2, none⟩ (.int .i64 a.ow)).setCell ⟨p, 3, none⟩ (.int .i64 a.cap)).setCell ⟨p, 4, none⟩ (.slice Z.A3 a.dl.length Z.c3)).setCell ⟨p, 5, none⟩ (.int .i64 a.dir.vn)).setCell ⟨p, 6, none⟩ (.slice Z.D.A a.dir.l.length Z.D.c)).setCell ⟨p, 7, none⟩ (.slice Z.D.A2 a.dir.F.length Z.D.c2)).setCell ⟨p, 8, none⟩ (.int .i64 a.ep)).setCell ⟨p, 9, none⟩ (.int .i64 a.ck)).setCell ⟨p, 10, none⟩ (.int .i64 a.ni) = w4 at *
  have HX := Lib.hid (HC.out.ck (a.ck + n))
  rw [← HBB.out] at HX
  clear HBB
  have y9 := HC.out.pb.k.2.2.2.2.2.2.2.2.2.1
  have yl := HC.out.pb.lt
  have f9 := HC.out.pb.fr 9
  go_upto_region 7 with (fail)
  clear y9 yl f9 HC
  generalize w4.setCell ⟨p, 9, none⟩ (.int .i64 (a.ck + n)) = w6 at *
  have HF := Lib.hid (ae_out (y := r) (show w.heap.size ≤ r by have := HX.out.ne; omega) HX.out.bel HX.out.nw (Nat.le_refl _) HX.out.ar 0)
  obtain ⟨y0, y1, y2, y3, y4, y5, y6, y7, y8, y9, y10⟩ := HX.out.pb.k
  have yl := HX.out.pb.lt
  obtain ⟨r0, r1, r2, r3, r4, r5, r6, r7, r8, r9, r10⟩ := HX.out.rb.k
  have rl := HX.out.rb.lt
  obtain ⟨f0, f1, f2, f3, f4, f5, f6, f7, f8, f9, f10⟩ := HX.out.rb.free
  have hpr : ¬ p = r := by have := HX.out.ne; omega
  have hrp : ¬ r = p := fun e => hpr e.symm
  clear HX hw hle
  go_wp2
  exact bodyPost_ret (v := .tuple #[av B Z, .int .i64 0]) (by simp only [results, Try.results13]; go_simp <;> rfl) rfl HF.out
end Go.Proofs.Ytijpflljopckiaa
