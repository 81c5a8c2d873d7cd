/- What is proved here: shardqueueref04.Detach by a contract; shardqueueref04.Absorb by a contract; a message among the arguments opened to its numbers and its body, and shut again. -/
import Derived.Test.YtiklkagkmcapnaaJ23
import Derived.Test.YtiklkagkmcapnaaJ13
import Derived.Test.YtiklkagkmcapnaaJ19
import Derived.Test.YtiklkagkmcapnaaJ22
import Derived.Test.YtiklkagkmcapnaaJ01
import Derived.Lib.SmallJoins
import Derived.ChangeSame
namespace Go.Proofs.Ytiklkagkmcapnaa
open Go.RowKit
set_option linter.unusedVariables false

theorem dt3_of {W : World} {p n c : Nat} {A : Option Addr} {hd sz : Int} (h : RB W p A n c hd sz) : W.cell? ⟨p, 0, none⟩ = some (.slice A n c) ∧ W.cell? ⟨p, 1, none⟩ = some (.int .i64 hd) ∧ W.cell? ⟨p, 2, none⟩ = some (.int .i64 sz) := ⟨h.c0, h.c1, h.c2⟩

attribute [local go_sem ↓] Go.wp_at_zero Go.wp_at_succ
set_option maxHeartbeats 8000000 in
set_option maxRecDepth 20000 in
theorem rdetach_any (A : Option Addr) (n c : Nat) (cs : List Msg) (hd sz k : Int) (w : World) (hv : Ls w w.heap.size (.slice A n c) cs) :
    Calls Try.prog 39 #[.agg #[.slice A n c, .int .i64 hd, .int .i64 sz], .int .i64 k] w (RLP w (dtC cs hd sz k) (ifE (dtE cs hd sz k) hd) (ifE (dtE cs hd sz k) (sz - k)) (dtL cs hd sz k) (dtE cs hd sz k)) := by
  obtain ⟨rfl, _, _⟩ := hv.len
  have HV := Lib.hid hv
  have HP := Lib.hid (fun w1 (h : Ls w1 w1.heap.size (.slice A cs.length c) cs) => rvalid_any A cs.length c cs hd sz w1 h)
  clear hv
  by_cases h0 : rgV cs hd sz = 0
  · by_cases hk0 : k < 0 ∨ sz < k
    · have hw : ¬ (wi k 0 sz = true) := fun h => by have := wi_of h; omega
      have hE : dtE cs hd sz k = 1 := by unfold dtE; rw [if_neg (by simpa using h0), if_neg hw]
      have HC := Lib.hid (show dtC cs hd sz k = [] from if_neg (by rw [hE]; decide))
      have HL := Lib.hid (show dtL cs hd sz k = [] from if_neg (by rw [hE]; decide))
      have HE1 := Lib.hid (show ifE 1 hd = 0 from if_neg (by decide))
      have HE2 := Lib.hid (show ifE 1 (sz - k) = 0 from if_neg (by decide))
      rw [h0] at HP
      rw [hE]
      clear h0 hw hE
      generalize dtC cs hd sz k = ds at *
      generalize dtL cs hd sz k = P at *
      by_cases hkn : k < 0
      all_goals
        have hkp : ¬ (k < 0) → sz < k := fun h => hk0.resolve_left h
        try replace hkp := hkp hkn
        clear hk0
        go_enter Try.func39, Try.ntmps39
        go_wp2_with fail
        have HS := Lib.hid (DtAt.start w A cs.length c hd sz 24)
        obtain ⟨p, hp⟩ : ∃ p, p = w.heap.size := ⟨_, rfl⟩
        obtain ⟨r, hr⟩ : ∃ r, r = w.heap.size + 1 := ⟨_, rfl⟩
        rw [← hr, ← hp] at HS ⊢
        clear hp hr
        refine (HP.out _ (HV.out.up HS.out.bel)).mono ?_
        rintro e w1 ⟨rfl, hb⟩
        have HS1 := Lib.hid (HS.out.below hb)
        obtain ⟨r0, r1, r2, r3, r4, r5, hpl⟩ := HS1.out.rb.facts
        obtain ⟨t0, t1, t2, t3, t4, t5, hrl⟩ := HS1.out.rs.facts
        have HB := Lib.hid (HS1.out.end1 (.slice none 0 0) (.int .i64 0) (.int .i64 0))
        clear hb HS
        go_wp2
        exact bodyPost_ret (v := .tuple #[.agg #[.slice none 0 0, .int .i64 0, .int .i64 0], .slice none 0 0, .int .i64 1]) (by simp only [results, Try.results39]; go_simp <;> rfl) rfl ⟨none, 0, none, 0, by rw [HC.out, HL.out, HE1.out, HE2.out]; rfl, nw_none, nw_none, by rw [HC.out]; exact Ls.nil, by rw [HL.out]; exact Ls.nil, HB.out⟩
    · have hk1 : 0 ≤ k := by omega
      have hk2 : k ≤ sz := by omega
      have hE : dtE cs hd sz k = 0 := by unfold dtE; rw [if_neg (by simpa using h0), if_pos (wi_true hk1 hk2)]
      obtain ⟨hn, hz, _, _⟩ := rgV_zero h0
      obtain ⟨⟨n1, n2⟩, ⟨k1, k2⟩, ⟨s1, s2⟩⟩ := nm_of hn
      obtain ⟨hd, rfl⟩ := Int.eq_ofNat_of_zero_le k1
      obtain ⟨sz, rfl⟩ := Int.eq_ofNat_of_zero_le s1
      obtain ⟨k, rfl⟩ := Int.eq_ofNat_of_zero_le hk1
      have hks : k ≤ sz := by omega
      have hsk : ((sz : Int) - (k : Int)).toNat = sz - k := by omega
      have HC := Lib.hid (show dtC cs hd sz k = fil cs.length hd ((ord cs hd sz).take (sz - k)) by unfold dtC; rw [if_pos hE, hsk]; simp only [Int.toNat_natCast])
      have HL := Lib.hid (show dtL cs hd sz k = (ord cs hd sz).drop (sz - k) by unfold dtL; rw [if_pos hE, hsk]; simp only [Int.toNat_natCast])
      have HE1 := Lib.hid (show ifE 0 (hd : Int) = hd from if_pos rfl)
      have HE2 := Lib.hid (show ifE 0 ((sz : Int) - (k : Int)) = (sz : Int) - (k : Int) from if_pos rfl)
      have HO := Lib.hid (fun w1 (h : Ls w1 w1.heap.size (.slice A cs.length c) cs) => rorder_any A cs.length c cs hd sz w1 h hn)
      have HOL := Lib.hid (ord_len cs hd sz)
      have htl : ((ord cs hd sz).take (sz - k)).length = sz - k := by rw [List.length_take, ord_len]; omega
      have HPL := Lib.hid (show ((ord cs hd sz).drop (sz - k)).length = sz - (sz - k) by rw [List.length_drop, ord_len])
      have HWI := Lib.hid (fun A' n' c' w1 (h : Ls w1 w1.heap.size (.slice A' n' c') ((ord cs hd sz).take (sz - k))) => with_any A cs.length c hd sz hd A' n' c' ((ord cs hd sz).take (sz - k)) w1 (by omega) (by omega) (by rw [htl]; omega) h)
      rw [← HC.out, show (((ord cs hd sz).take (sz - k)).length : Int) = ((sz - k : Nat) : Int) by rw [htl]] at HWI
      have HFL := Lib.hid (show (dtC cs hd sz k).length = cs.length by rw [HC.out, fil_len])
      rw [h0] at HP
      rw [hE]
      obtain ⟨x, hx⟩ : ∃ x, x = sz - k := ⟨_, rfl⟩
      rw [← hx] at HL HPL HWI
      have hxi : (sz : Int) - (k : Int) = (x : Int) := by omega
      have hxw : IntKind.i64.wrap ((sz : Int) - (k : Int)) = (x : Int) := by rw [hxi]; exact IntWalk.i64_in _ (by omega)
      have hx12 : (x : Int) ≤ 12 := by omega
      have hk12 : (k : Int) ≤ 12 := by omega
      have HXS := Lib.hid (show x + k = sz by omega)
      have hs12 : (sz : Int) ≤ 12 := by omega
      have hxs : (x : Int) ≤ (sz : Int) := by omega
      rw [hxi] at HE2 ⊢
      have hk0' : ¬ ((k : Int) < 0) := by omega
      have hks' : ¬ ((sz : Int) < (k : Int)) := by omega
      clear h0 hn hz hE hsk n1 n2 k1 k2 s1 s2 hx hxi hk0 hk1 hk2 htl HC
      generalize dtC cs hd sz k = ds at *
      generalize dtL cs hd sz k = P at *
      generalize ord cs hd sz = l at *
      go_enter Try.func39, Try.ntmps39
      go_wp2_with fail
      have HS := Lib.hid (DtAt.start w A cs.length c hd sz 24)
      obtain ⟨p, hp⟩ : ∃ p, p = w.heap.size := ⟨_, rfl⟩
      obtain ⟨r, hr⟩ : ∃ r, r = w.heap.size + 1 := ⟨_, rfl⟩
      rw [← hr, ← hp] at HS ⊢
      clear hp hr
      refine (HP.out _ (HV.out.up HS.out.bel)).mono ?_
      rintro e w1 ⟨rfl, hb⟩
      have HS1 := Lib.hid (HS.out.below hb)
      obtain ⟨r0, r1, r2, r3, r4, r5, hpl⟩ := HS1.out.rb.facts
      clear hb HS
      go_wp2_with fail
      refine (HO.out _ (HV.out.up HS1.out.bel)).mono ?_
      rintro e w3 ⟨v, rfl, hnv, hl, hb⟩
      obtain ⟨A3, c3, rfl, hc3, _⟩ := hl.form
      have HS3 := Lib.hid (HS1.out.below hb)
      rw [HOL.out] at hl hnv hc3 ⊢
      have hcut := run_lupto A3 sz c3 .i64 x (by have := HXS.out; omega)
      have HL4 := Lib.hid (hl.upto x (by have := HXS.out; omega))
      obtain ⟨A5, hA5, hcut2⟩ := run_lcut A3 sz c3 .i64 x (by have := HXS.out; omega)
      have hl5 := hl.cut x (by have := HXS.out; omega)
      rw [← hA5] at hl5
      have HL5 := Lib.hid hl5
      have HN5 := Lib.hid (show Nw w1.heap.size A5 by rw [hA5]; exact nw_cut (nwv_of hnv) _ _ _)
      have HR1 := Lib.hid (And.intro HS1.out.rs.lt HS1.out.bel.size)
      have hcut' : ∀ W, (Instr.slice 22 (.slice A3 sz c3) none (some (.int .i64 (x : Int))) none).run Try.prog W = .ok (.slice A3 x c3) W := hcut
      have hcut2' : ∀ W, (Instr.slice 22 (.slice A3 sz c3) (some (.int .i64 (x : Int))) none none).run Try.prog W = .ok (.slice A5 (sz - x) (c3 - x)) W := hcut2
      clear hb hl hnv hA5 hl5 hcut hcut2 r0 r1 r2 r3 r4 r5 hpl hc3 HS1
      obtain ⟨r0, r1, r2, r3, r4, r5, hpl⟩ := HS3.out.rb.facts
      have HSA := Lib.hid (dt3_of HS3.out.rb.drew)
      have HRP := Lib.hid (show r ≠ p by have := HS3.out.old; omega)
      go_wp2
      go_region_held3 (fun W => W.cell? ⟨p, 0, none⟩ = some (.slice A cs.length c) ∧ W.cell? ⟨p, 1, none⟩ = some (.int .i64 hd) ∧ W.cell? ⟨p, 2, none⟩ = some (.int .i64 sz))
        (first | with_reducible exact HSA.out | with_reducible exact HSB.out | with_reducible exact HSC.out)
        (first
        | (go_at_call 62; (with_reducible refine (HWI.out _ _ _ _ (HL4.out.drew)).mono ?_); rintro e w6 ⟨A6, c6, rfl, hnw, hl6, hb⟩; have HB6 := Lib.hid (drew_below hb); have HS6 := Lib.hid (HS3.out.below HB6.out); have HNW := Lib.hid hnw; have HL6 := Lib.hid hl6; have HSB := Lib.hid (dt3_of HS6.out.rb); have HSC := Lib.hid (dt3_of (HS6.out.rb.set3 HRP.out (.slice A6 ds.length c6) (.int .i64 hd) (.int .i64 x))); obtain ⟨t0, t1, t2, t3, t4, t5, hrl⟩ := HS6.out.rs.facts; clear hnw hl6 hb))
      all_goals
        have HLL := Lib.hid ((HL6.out.off3 HNW.out HS3.out.rs.lt (.slice A6 ds.length c6) (.int .i64 hd) (.int .i64 x)).more (show w6.heap.size ≤ (((w6.setCell ⟨r, 0, none⟩ (.slice A6 ds.length c6)).setCell ⟨r, 1, none⟩ (.int .i64 hd)).setCell ⟨r, 2, none⟩ (.int .i64 x)).heap.size by simp))
        have HLP := Lib.hid (((HL5.out.up HB6.out).off3 HN5.out HR1.out.1 (.slice A6 ds.length c6) (.int .i64 hd) (.int .i64 x)).more (show w6.heap.size ≤ (((w6.setCell ⟨r, 0, none⟩ (.slice A6 ds.length c6)).setCell ⟨r, 1, none⟩ (.int .i64 hd)).setCell ⟨r, 2, none⟩ (.int .i64 x)).heap.size by simp))
        have HB := Lib.hid (HS6.out.end1 (.slice A6 ds.length c6) (.int .i64 hd) (.int .i64 x))
        have HN6 := Lib.hid (nw_low HNW.out (show w.heap.size ≤ w3.drew.heap.size from HS3.out.bel.size))
        have HN7 := Lib.hid (nw_low HN5.out HR1.out.2)
        clear HSA HSB HSC
        go_wp2
        exact bodyPost_ret (v := .tuple #[.agg #[(.slice A6 ds.length c6), (.int .i64 hd), (.int .i64 x)], .slice A5 (sz - x) (c3 - x), .int .i64 0]) (by simp only [results, Try.results39]; go_simp <;> rfl) rfl ⟨A6, c6, A5, c3 - x, by rw [HL.out, HPL.out, HE1.out, HE2.out], HN6.out, HN7.out, HLL.out, by rw [HL.out, HPL.out]; exact HLP.out, HB.out⟩
  · have hE : dtE cs hd sz k = rgV cs hd sz := if_pos h0
    have HC := Lib.hid (show dtC cs hd sz k = [] from if_neg (by rw [hE]; exact h0))
    have HL := Lib.hid (show dtL cs hd sz k = [] from if_neg (by rw [hE]; exact h0))
    have HE1 := Lib.hid (show ifE (rgV cs hd sz) hd = 0 from if_neg h0)
    have HE2 := Lib.hid (show ifE (rgV cs hd sz) (sz - k) = 0 from if_neg h0)
    have hne : (rgV cs hd sz != 0) = true := bne_iff_ne.2 h0
    rw [hE]
    clear hE
    generalize rgV cs hd sz = x at *
    generalize dtC cs hd sz k = ds at *
    generalize dtL cs hd sz k = P at *
    clear h0
    go_enter Try.func39, Try.ntmps39
    go_wp2_with fail
    have HS := Lib.hid (DtAt.start w A cs.length c hd sz 24)
    obtain ⟨p, hp⟩ : ∃ p, p = w.heap.size := ⟨_, rfl⟩
    obtain ⟨r, hr⟩ : ∃ r, r = w.heap.size + 1 := ⟨_, rfl⟩
    rw [← hr, ← hp] at HS ⊢
    clear hp hr
    refine (HP.out _ (HV.out.up HS.out.bel)).mono ?_
    rintro e w1 ⟨rfl, hb⟩
    have HS1 := Lib.hid (HS.out.below hb)
    obtain ⟨r0, r1, r2, r3, r4, r5, hpl⟩ := HS1.out.rb.facts
    obtain ⟨t0, t1, t2, t3, t4, t5, hrl⟩ := HS1.out.rs.facts
    have HB := Lib.hid (HS1.out.end1 (.slice none 0 0) (.int .i64 0) (.int .i64 0))
    clear hb HS
    go_wp2
    exact bodyPost_ret (v := .tuple #[.agg #[.slice none 0 0, .int .i64 0, .int .i64 0], .slice none 0 0, .int .i64 x]) (by simp only [results, Try.results39]; go_simp <;> rfl) rfl ⟨none, 0, none, 0, by rw [HC.out, HL.out, HE1.out, HE2.out]; rfl, nw_none, nw_none, by rw [HC.out]; exact Ls.nil, by rw [HL.out]; exact Ls.nil, HB.out⟩
end Go.Proofs.Ytiklkagkmcapnaa
namespace Go.Proofs.Ytiklkagkmcapnaa
open Go.RowKit
set_option linter.unusedVariables false

/-- A list whose cells are new or those of the argument, which lie below B. -/
def LsX (B lo : Nat) (A0 A : Option Addr) (n c : Nat) (cs : List Msg) (W : World) : Prop := (Nw lo A ∧ Ls W W.heap.size (.slice A n c) cs) ∨ (A = A0 ∧ Ls W B (.slice A n c) cs)
theorem LsX.ls {B : Nat} {W : World} {lo n c : Nat} {A0 A : Option Addr} {cs : List Msg} (h : LsX B lo A0 A n c cs W) (hs : B ≤ W.heap.size) : Ls W W.heap.size (.slice A n c) cs := by
  rcases h with ⟨_, h⟩ | ⟨_, h⟩
  · exact h
  · exact h.more hs
theorem LsX.below {B : Nat} {W W' : World} {lo n c : Nat} {A0 A : Option Addr} {cs : List Msg} (h : LsX B lo A0 A n c cs W) (hs : B ≤ W.heap.size) (hb : Below W.heap.size W W') : LsX B lo A0 A n c cs W' := by
  rcases h with ⟨k, h⟩ | ⟨k, h⟩
  · exact .inl ⟨k, h.up hb⟩
  · exact .inr ⟨k, h.below (hb.mono hs)⟩
theorem LsX.low {B : Nat} {W : World} {lo lo' n c : Nat} {A0 A : Option Addr} {cs : List Msg} (h : LsX B lo A0 A n c cs W) (hl : lo' ≤ lo) : LsX B lo' A0 A n c cs W := h.imp_left fun ⟨k, g⟩ => ⟨nw_low k hl, g⟩
theorem LsX.set3 {B : Nat} {W : World} {lo n c q : Nat} {A0 A : Option Addr} {cs : List Msg} (h : LsX B lo A0 A n c cs W) (h1 : B ≤ q) (h2 : q < lo) (x y z : Value) : LsX B lo A0 A n c cs (((W.setCell ⟨q, 0, none⟩ x).setCell ⟨q, 1, none⟩ y).setCell ⟨q, 2, none⟩ z) := by
  rcases h with ⟨k, h⟩ | ⟨k, h⟩
  · exact .inl ⟨k, (h.off3 k h2 x y z).more (by simp)⟩
  · exact .inr ⟨k, h.set3 h1 x y z⟩
/-- The ring in its block, with its cells. -/
structure RaAt (B : Nat) (w : World) (p r : Nat) (A0 A : Option Addr) (n c : Nat) (hd sz : Int) (cs : List Msg) (W : World) : Prop where
  dt : DtAt w p r A n c hd sz W
  ls : LsX B (r + 1) A0 A n c cs W
  len : cs.length = n
theorem RaAt.below {B : Nat} {w W W' : World} {p r n c : Nat} {A0 A : Option Addr} {hd sz : Int} {cs : List Msg} (h : RaAt B w p r A0 A n c hd sz cs W) (hB : B ≤ w.heap.size) (hb : Below W.heap.size W W') : RaAt B w p r A0 A n c hd sz cs W' := ⟨h.dt.below hb, h.ls.below (Nat.le_trans hB h.dt.bel.size) hb, h.len⟩
/-- A ring in a new block, behind a call. -/
def RcN (wr : World) (A4 : Option Addr) (n c4 : Nat) (hd z : Int) (l : List Msg) (W : World) (x : Nat) : Prop :=
  Below wr.heap.size wr W ∧ RB W x A4 n c4 hd z ∧ Ls W W.heap.size (.slice A4 n c4) l ∧ wr.heap.size ≤ x ∧ Nw wr.heap.size A4
section
variable {wr w4 : World} {A4 : Option Addr} {k c4 lo x : Nat} {hd z : Int} {l : List Msg}
theorem rc1 (hb : Below wr.heap.size wr w4) (hl : Ls w4 w4.heap.size (.slice A4 k c4) l) (hnw : Nw lo A4) (hlo : wr.heap.size ≤ lo) (t : TypeId) :
    RcN wr A4 k c4 hd z l (w4.alloc (.cells #[.slice A4 k c4, .int .i64 hd, .int .i64 z] t)) w4.heap.size :=
  ⟨bal hb _, RB.fresh w4 A4 k c4 hd z t, (hl.alloc (Nat.le_refl _) _).more (by simp), hb.size, nw_low hnw hlo⟩
theorem rc2 (hb : Below wr.heap.size wr w4) (hl : Ls w4 w4.heap.size (.slice A4 k c4) l) (hnw : Nw lo A4) (hlo : wr.heap.size ≤ lo) (hx : x < lo) (hr : wr.heap.size ≤ x) (hrb : RB w4 x none 0 0 0 0) :
    RcN wr A4 k c4 hd z l (((w4.setCell ⟨x, 0, none⟩ (.slice A4 k c4)).setCell ⟨x, 1, none⟩ (.int .i64 hd)).setCell ⟨x, 2, none⟩ (.int .i64 z)) x :=
  ⟨bst (bst (bst hb (p := ⟨x, 0, none⟩) hr _) (p := ⟨x, 1, none⟩) hr _) (p := ⟨x, 2, none⟩) hr _, hrb.all A4 k c4 hd z, (hl.off3 hnw hx _ _ _).more (by simp), hr, nw_low hnw hlo⟩
end
/-- A result that is a ring, perhaps with the cells of the argument, and an error. -/
def RQX (B : Nat) (w : World) (A0 : Option Addr) (cs : List Msg) (hd sz x : Int) (e : Ending) (w' : World) : Prop := ∃ A c, e = .returned (.tuple #[.agg #[.slice A cs.length c, .int .i64 hd, .int .i64 sz], .int .i64 x]) ∧ LsX B w.heap.size A0 A cs.length c cs w' ∧ Below w.heap.size w w'
/-- A result of a push, seen from an earlier world. -/
def RPQ (w0 w : World) (cs : List Msg) (hd sz x : Int) (e : Ending) (w' : World) : Prop := ∃ A c, e = .returned (.tuple #[.agg #[.slice A cs.length c, .int .i64 hd, .int .i64 sz], .int .i64 x]) ∧ Nw w.heap.size A ∧ Ls w' w'.heap.size (.slice A cs.length c) cs ∧ Below w.heap.size w w' ∧ Below w0.heap.size w0 w'
theorem RPQ.of {w0 w : World} {cs : List Msg} {hd sz x : Int} {e : Ending} {w' : World} (h0 : Below w0.heap.size w0 w) (h : RP w cs hd sz x e w') : RPQ w0 w cs hd sz x e w' := by
  obtain ⟨A, c, e, hn, hl, hb⟩ := h
  exact ⟨A, c, e, hn, hl, hb, btr h0 hb⟩

attribute [local go_sem ↓] Go.wp_at_zero Go.wp_at_succ
set_option maxHeartbeats 8000000 in
set_option maxRecDepth 20000 in
theorem rabsorb_any (A : Option Addr) (n c : Nat) (cs : List Msg) (hd sz : Int) (A2 : Option Addr) (n2 c2 : Nat) (l : List Msg) (w : World) (B : Nat) (hB : B ≤ w.heap.size) (hvB : Ls w B (.slice A n c) cs) (hv2 : Ls w w.heap.size (.slice A2 n2 c2) l) :
    Calls Try.prog 40 #[.agg #[.slice A n c, .int .i64 hd, .int .i64 sz], .slice A2 n2 c2] w (RQX B w A (aoC cs hd sz l) (ifE (aoE cs hd sz l) hd) (ifE (aoE cs hd sz l) (sz + l.length)) (aoE cs hd sz l)) := by
  have hv := hvB.more hB
  obtain ⟨rfl, _, _⟩ := hv.len
  obtain ⟨rfl, hm1, hm2⟩ := hv2.len
  have HVB := Lib.hid hvB
  have HBW := Lib.hid hB
  have hlm : (l.length : Int) ≤ 9223372036854775807 := by unfold maxLen at hm2; omega
  have HV := Lib.hid hv
  have HV2 := Lib.hid hv2
  have HG := Lib.hid (fun w1 (h : Ls w1 w1.heap.size (.slice A cs.length c) cs) => rvalid_any A cs.length c cs hd sz w1 h)
  clear hv hvB hB hv2 hm1 hm2
  by_cases h0 : rgV cs hd sz = 0
  · obtain ⟨hn, _, _, _⟩ := rgV_zero h0
    obtain ⟨⟨n1, n2⟩, ⟨k1, k2⟩, ⟨s1, s2⟩⟩ := nm_of hn
    have hn12 : (cs.length : Int) ≤ 12 := by omega
    by_cases hf : (cs.length : Int) - sz < (l.length : Int)
    · have hE : aoE cs hd sz l = 3 := by unfold aoE; rw [if_neg (by simpa using h0), if_pos hf]
      have HC := Lib.hid (show aoC cs hd sz l = [] from if_neg (by rw [hE]; decide))
      have HE1 := Lib.hid (show ifE 3 hd = 0 from if_neg (by decide))
      have HE2 := Lib.hid (show ifE 3 (sz + l.length) = 0 from if_neg (by decide))
      rw [h0] at HG
      rw [hE]
      clear h0 hn hE
      generalize aoC cs hd sz l = ds at *
      go_enter Try.func40, Try.ntmps40
      go_wp2_with fail
      have HS := Lib.hid (DtAt.start w A cs.length c hd sz 24)
      obtain ⟨p, hp⟩ : ∃ p, p = w.heap.size := ⟨_, rfl⟩
      obtain ⟨r, hr⟩ : ∃ r, r = w.heap.size + 1 := ⟨_, rfl⟩
      rw [← hr, ← hp] at HS ⊢
      clear hp hr
      refine (HG.out _ (HV.out.up HS.out.bel)).mono ?_
      rintro e w1 ⟨rfl, hb⟩
      have HS1 := Lib.hid (HS.out.below hb)
      obtain ⟨r0, r1, r2, r3, r4, r5, hpl⟩ := HS1.out.rb.facts
      obtain ⟨t0, t1, t2, t3, t4, t5, hrl⟩ := HS1.out.rs.facts
      have HB := Lib.hid (HS1.out.end1 (.slice none 0 0) (.int .i64 0) (.int .i64 0))
      clear hb HS
      go_wp2
      exact bodyPost_ret (v := .tuple #[.agg #[.slice none 0 0, .int .i64 0, .int .i64 0], .int .i64 3]) (by simp only [results, Try.results40]; go_simp <;> rfl) rfl ⟨none, 0, by rw [HC.out, HE1.out, HE2.out]; rfl, .inl ⟨nw_none, by rw [HC.out]; exact Ls.nil⟩, HB.out⟩
    · have hE : aoE cs hd sz l = abE cs hd sz l := by unfold aoE; rw [if_neg (by simpa using h0), if_neg hf]
      have HC0 := Lib.hid (fun (h : abE cs hd sz l = 0) => (show aoC cs hd sz l = abS cs hd sz l from if_pos (by rw [hE]; exact h)))
      have HC1 := Lib.hid (fun (h : abE cs hd sz l ≠ 0) => (show aoC cs hd sz l = [] from if_neg (by rw [hE]; exact h)))
      have HPB := Lib.hid (fun (A' : Option Addr) (c' : Nat) (ds : List Msg) (z : Int) (X : Msg) w1 (h : Ls w1 w1.heap.size (.slice A' cs.length c') ds) => rpback_any A' cs.length c' ds hd z X w1 h)
      rw [h0] at HG
      rw [hE]
      obtain ⟨EE, hEE⟩ : ∃ EE, EE = abE cs hd sz l := ⟨_, rfl⟩
      rw [← hEE]
      have HEE := Lib.hid hEE
      clear h0 hn hE hEE
      go_enter Try.func40, Try.ntmps40
      go_wp2_with fail
      have HS := Lib.hid (DtAt.start w A cs.length c hd sz 24)
      obtain ⟨p, hp⟩ : ∃ p, p = w.heap.size := ⟨_, rfl⟩
      obtain ⟨r, hr⟩ : ∃ r, r = w.heap.size + 1 := ⟨_, rfl⟩
      rw [← hr, ← hp] at HS ⊢
      clear hp hr
      refine (HG.out _ (HV.out.up HS.out.bel)).mono ?_
      rintro e w1 ⟨rfl, hb⟩
      have HS1 := Lib.hid (HS.out.below hb)
      obtain ⟨r0, r1, r2, r3, r4, r5, hpl⟩ := HS1.out.rb.facts
      clear hb HS
      have HA3 := Lib.hid (RaAt.mk HS1.out (.inr ⟨rfl, HVB.out.below (HS1.out.bel.mono HBW.out)⟩ : LsX B (r + 1) A A cs.length c cs w1) rfl)
      go_wp2
      clear r0 r1 r2 r3 r4 r5 hpl HS1
      go_loopw [7] (fun i wr => ∃ (j : Nat) (A' : Option Addr) (c' : Nat) (ds : List Msg), j ≤ l.length ∧ i = .int .i64 j ∧ RaAt B w p r A A' cs.length c' hd (sz + j) ds wr ∧ (abE cs hd sz l = abE ds hd (sz + j) (l.drop j) ∧ abS cs hd sz l = abS ds hd (sz + j) (l.drop j))) (fun i _ => l.length - (intOf i).toNat)
      case atStart => exact ⟨0, _, _, cs, Nat.zero_le _, rfl, by simpa using HA3.out, by simp⟩
      case round =>
        obtain ⟨j, A', c', ds, hjl, rfl, ha, hst⟩ := hrel
        have HA := Lib.hid ha
        have HST := Lib.hid hst
        clear ha hst
        by_cases hlt : j < l.length
        · have HL2 := Lib.hid (HV2.out.up HA.out.dt.bel)
          obtain ⟨b, o, rfl, hbb, hc7⟩ := HL2.out.at_ hlt
          have HNX := Lib.hid (show l.drop j = l[j] :: l.drop (j + 1) from List.drop_eq_getElem_cons hlt)
          generalize l[j] = X at *
          have HST2 := Lib.hid (show abE cs hd sz l = abE ds hd (sz + j) (X :: l.drop (j + 1)) ∧ abS cs hd sz l = abS ds hd (sz + j) (X :: l.drop (j + 1)) by rw [← HNX.out]; exact HST.out)
          clear HST HNX
          have HC7 := Lib.hid hc7
          have HBB := Lib.hid hbb
          have HLX := Lib.hid (HA.out.ls.ls (Nat.le_trans HBW.out HA.out.dt.bel.size))
          have HPQ := Lib.hid (fun W (h : Below wr.heap.size wr W) => (HPB.out A' c' ds (sz + j) X W (HLX.out.up h)).mono fun e w' g => RPQ.of h g)
          have HSK := Lib.hid (show ∀ W, Below wr.heap.size wr W → W.cell? ⟨p, 0, none⟩ = some (.slice A' cs.length c') ∧ W.cell? ⟨p, 1, none⟩ = some (.int .i64 hd) ∧ W.cell? ⟨p, 2, none⟩ = some (.int .i64 (sz + j)) ∧ W.cell? ⟨b, o + j * 7, none⟩ = some (.int .i64 X.id) ∧ W.cell? ⟨b, o + j * 7 + 1, none⟩ = some (.int .i64 X.rt) ∧ W.cell? ⟨b, o + j * 7 + 2, none⟩ = some (.int .i64 X.ep) ∧ W.cell? ⟨b, o + j * 7 + 3, none⟩ = some (.int .i64 X.ct) ∧ W.cell? ⟨b, o + j * 7 + 4, none⟩ = some (.int .i64 X.gn) ∧ W.cell? ⟨b, o + j * 7 + 5, none⟩ = some (.int .i64 X.st) ∧ W.cell? ⟨b, o + j * 7 + 6, none⟩ = some (.string X.bd) from fun W h => by
            have hr := HA.out.dt.rb.below h HA.out.dt.rb.lt
            have hc := C7.below HC7.out h HBB.out
            exact ⟨hr.c0, hr.c1, hr.c2, hc⟩)
          have HB0 := Lib.hid (Below.refl wr.heap.size wr)
          have hj0 : (0 : Int) ≤ (j : Int) := by omega
          have hjl : (j : Int) < (l.length : Int) := by omega
          clear hc7 hbb
          go_wp2
          go_cut [8, 9] (fun s8 s9 wx => ∃ x A4 c4, s8 = .pointer (some ⟨x, 0, none⟩) ∧ s9 = .int .i64 (puE ds hd (sz + j) X) ∧ RcN wr A4 (pbC ds hd (sz + j) X).length c4 (ifE (puE ds hd (sz + j) X) hd) (ifE (puE ds hd (sz + j) X) (sz + j + 1)) (pbC ds hd (sz + j) X) wx x)
          case first =>
            go_region_held3 (fun W => W.cell? ⟨p, 0, none⟩ = some (.slice A' cs.length c') ∧ W.cell? ⟨p, 1, none⟩ = some (.int .i64 hd) ∧ W.cell? ⟨p, 2, none⟩ = some (.int .i64 (sz + j)) ∧ W.cell? ⟨b, o + j * 7, none⟩ = some (.int .i64 X.id) ∧ W.cell? ⟨b, o + j * 7 + 1, none⟩ = some (.int .i64 X.rt) ∧ W.cell? ⟨b, o + j * 7 + 2, none⟩ = some (.int .i64 X.ep) ∧ W.cell? ⟨b, o + j * 7 + 3, none⟩ = some (.int .i64 X.ct) ∧ W.cell? ⟨b, o + j * 7 + 4, none⟩ = some (.int .i64 X.gn) ∧ W.cell? ⟨b, o + j * 7 + 5, none⟩ = some (.int .i64 X.st) ∧ W.cell? ⟨b, o + j * 7 + 6, none⟩ = some (.string X.bd))
              ((refine HSK.out _ ?_; repeat' (first | with_reducible exact HB0.out | with_reducible exact HB4.out | with_reducible refine bal ?_ _ | with_reducible refine bdr ?_ | with_reducible refine bst ?_ ?_ _ | exact Nat.le_refl _ | (simp; done) | (simp; omega))))
              (first
              | (go_at_call 34; (with_reducible refine (HPQ.out _ ?hbel).mono ?_); (case hbel => (repeat' (first | with_reducible exact HB0.out | with_reducible refine bal ?_ _ | with_reducible refine bdr ?_))); rintro e w4 ⟨A4, c4, rfl, hnw, hl, hb, hb0⟩; have HB4 := Lib.hid hb0; have HNW := Lib.hid hnw; have HL4 := Lib.hid hl; have hq4 := hb0.size; have HX7 := Lib.hid ((RB.zero1 wr 24).below hb (by simp)); obtain ⟨t0, t1, t2, t3, t4, t5, hrl⟩ := HX7.out.facts; clear hnw hl hb hb0)
              | (go_at_call 34; (with_reducible refine (HPQ.out _ ?hbel).mono ?_); (case hbel => (repeat' (first | with_reducible exact HB0.out | with_reducible refine bal ?_ _ | with_reducible refine bdr ?_))); rintro e w4 ⟨A4, c4, rfl, hnw, hl, hb, hb0⟩; have HB4 := Lib.hid hb0; have HNW := Lib.hid hnw; have HL4 := Lib.hid hl; have hq4 := hb0.size; have HX0 := Lib.hid (show Below wr.drew.heap.size wr.drew w4 from hb); clear hnw hl hb hb0))
            all_goals
              go_wp2_with fail
              go_meet
              refine ⟨_, A4, c4, rfl, rfl, ?_⟩
              first
              | with_reducible exact rc1 HB4.out HL4.out HNW.out (by simp) _
              | with_reducible exact rc2 HB4.out HL4.out HNW.out (by simp) (by simp) (Nat.le_refl _) HX7.out
          case rest =>
            obtain ⟨x, A5, c5', rfl, rfl, hrc⟩ := hcut
            obtain ⟨hb, hrb, hl5, hxw, hnw⟩ := hrc
            have HA5 := Lib.hid (HA.out.below HBW.out hb)
            have HXB := Lib.hid hrb
            have HL5 := Lib.hid hl5
            have HN5 := Lib.hid (show Nw (r + 1) A5 from nw_low hnw HA.out.dt.rs.lt)
            have HXR := Lib.hid (show r < x from Nat.lt_of_lt_of_le HA.out.dt.rs.lt hxw)
            clear hb hrb hl5 hxw hnw
            obtain ⟨r0, r1, r2, r3, r4, r5, hpl⟩ := HA5.out.dt.rb.facts
            obtain ⟨x0, x1, x2, x3, x4, x5, hxl⟩ := HXB.out.facts
            have hpx : p ≠ x := by have := HA5.out.dt.old; have := HXR.out; omega
            have hxp : x ≠ p := fun e => hpx e.symm
            by_cases hp0 : puE ds hd (sz + j) X = 0
            · have HLEN := Lib.hid (show (pbC ds hd (sz + j) X).length = cs.length by rw [pbC_len hp0]; exact HA.out.len)
              have HST3 := Lib.hid (ab_next HST2.out hp0)
              rw [hp0] at x1 x2
              rw [show ifE 0 hd = hd from rfl] at x1
              rw [show ifE 0 (sz + (j : Int) + 1) = sz + (j : Int) + 1 from rfl] at x2
              rw [hp0]
              clear hp0
              generalize pbC ds hd (sz + j) X = es at *
              rw [HLEN.out] at x0 HL5
              have HDT := Lib.hid (show DtAt w p r A5 cs.length c5' hd (sz + (j : Int) + 1) (((wc.setCell ⟨p, 0, none⟩ (.slice A5 cs.length c5')).setCell ⟨p, 1, none⟩ (.int .i64 hd)).setCell ⟨p, 2, none⟩ (.int .i64 (sz + (j : Int) + 1))) from ⟨HA5.out.dt.rb.all A5 cs.length c5' hd (sz + (j : Int) + 1), HA5.out.dt.rs.set3' (show p ≠ r by have := HA5.out.dt.old; omega) _ _ _, ((HA5.out.dt.bel.setCell (p := ⟨p, 0, none⟩) HA5.out.dt.old.1 _).setCell (p := ⟨p, 1, none⟩) HA5.out.dt.old.1 _).setCell (p := ⟨p, 2, none⟩) HA5.out.dt.old.1 _, HA5.out.dt.old⟩)
              have HLS := Lib.hid (show LsX B (r + 1) A A5 cs.length c5' es (((wc.setCell ⟨p, 0, none⟩ (.slice A5 cs.length c5')).setCell ⟨p, 1, none⟩ (.int .i64 hd)).setCell ⟨p, 2, none⟩ (.int .i64 (sz + (j : Int) + 1))) from .inl ⟨HN5.out, (HL5.out.off3 HN5.out (show p < r + 1 by have := HA5.out.dt.old; omega) _ _ _).more (by simp)⟩)
              go_wp2
              go_roundw
              case rel => exact ⟨j + 1, A5, c5', es, by omega, by go_num, ⟨by rw [show sz + ((j + 1 : Nat) : Int) = sz + (j : Int) + 1 by omega]; exact HDT.out, HLS.out, HLEN.out⟩, by rw [show sz + ((j + 1 : Nat) : Int) = sz + (j : Int) + 1 by omega]; exact HST3.out⟩
              case measure => simp [intOf]; omega
            · have hE : abE cs hd sz l = puE ds hd (sz + j) X := HST2.out.1.trans (abE_hit hp0)
              have HC := Lib.hid (HC1.out (by rw [hE]; exact hp0))
              have HE1 := Lib.hid (show ifE (puE ds hd (sz + j) X) hd = 0 from if_neg hp0)
              have HE2 := Lib.hid (show ifE (puE ds hd (sz + j) X) (sz + l.length) = 0 from if_neg hp0)
              have hne : (puE ds hd (sz + j) X != 0) = true := bne_iff_ne.2 hp0
              have HX := Lib.hid (HEE.out.trans hE)
              clear hE hp0 HST2 HEE x0 x1 x2 x3 x4 x5 hxl
              generalize puE ds hd (sz + j) X = y at *
              obtain ⟨t0, t1, t2, t3, t4, t5, hrl⟩ := HA5.out.dt.rs.facts
              have HB := Lib.hid (HA5.out.dt.end1 (.slice none 0 0) (.int .i64 0) (.int .i64 0))
              go_wp2
              exact bodyPost_ret (v := .tuple #[.agg #[.slice none 0 0, .int .i64 0, .int .i64 0], .int .i64 y]) (by simp only [results, Try.results40]; go_simp <;> rfl) rfl ⟨none, 0, by rw [HX.out, HC.out, HE1.out, HE2.out]; rfl, .inl ⟨nw_none, by rw [HC.out]; exact Ls.nil⟩, HB.out⟩
        · obtain rfl : j = l.length := by omega
          have HST2 := Lib.hid (ab_last (cs := cs) (ds := ds) (hd := hd) (sz := sz) (z := sz + l.length) (l := l) (by have := HST.out; rw [List.drop_length] at this; exact this))
          have HC := Lib.hid ((HC0.out HST2.out.1).trans HST2.out.2)
          have HX := Lib.hid (HEE.out.trans HST2.out.1)
          have HE1 := Lib.hid (show ifE 0 hd = hd from if_pos rfl)
          have HE2 := Lib.hid (show ifE 0 (sz + (l.length : Int)) = sz + (l.length : Int) from if_pos rfl)
          obtain ⟨r0, r1, r2, r3, r4, r5, hpl⟩ := HA.out.dt.rb.facts
          obtain ⟨t0, t1, t2, t3, t4, t5, hrl⟩ := HA.out.dt.rs.facts
          have hpr : p ≠ r := by have := HA.out.dt.old; omega
          have hrp : r ≠ p := fun e => hpr e.symm
          have HB := Lib.hid (HA.out.dt.end1 (.slice A' cs.length c') (.int .i64 hd) (.int .i64 (sz + l.length)))
          have HLL := Lib.hid ((HA.out.ls.set3 (q := r) (show B ≤ r by have := HA.out.dt.old; have := HBW.out; omega) (Nat.lt_succ_self r) (.slice A' cs.length c') (.int .i64 hd) (.int .i64 (sz + l.length))).low (show w.heap.size ≤ r + 1 by have := HA.out.dt.old; omega))
          have HLN := Lib.hid HA.out.len
          go_wp2
          exact bodyPost_ret (v := .tuple #[.agg #[.slice A' cs.length c', .int .i64 hd, .int .i64 (sz + l.length)], .int .i64 0]) (by simp only [results, Try.results40]; go_simp <;> rfl) rfl ⟨A', c', by rw [HX.out, HC.out, HE1.out, HE2.out, HLN.out], by rw [HC.out, HLN.out]; exact HLL.out, HB.out⟩
  · have hE : aoE cs hd sz l = rgV cs hd sz := if_pos h0
    have HC := Lib.hid (show aoC cs hd sz l = [] from if_neg (by rw [hE]; exact h0))
    have HE1 := Lib.hid (show ifE (rgV cs hd sz) hd = 0 from if_neg h0)
    have HE2 := Lib.hid (show ifE (rgV cs hd sz) (sz + l.length) = 0 from if_neg h0)
    have hne : (rgV cs hd sz != 0) = true := bne_iff_ne.2 h0
    rw [hE]
    clear hE
    generalize rgV cs hd sz = x at *
    generalize aoC cs hd sz l = ds at *
    clear h0
    go_enter Try.func40, Try.ntmps40
    go_wp2_with fail
    have HS := Lib.hid (DtAt.start w A cs.length c hd sz 24)
    obtain ⟨p, hp⟩ : ∃ p, p = w.heap.size := ⟨_, rfl⟩
    obtain ⟨r, hr⟩ : ∃ r, r = w.heap.size + 1 := ⟨_, rfl⟩
    rw [← hr, ← hp] at HS ⊢
    clear hp hr
    refine (HG.out _ (HV.out.up HS.out.bel)).mono ?_
    rintro e w1 ⟨rfl, hb⟩
    have HS1 := Lib.hid (HS.out.below hb)
    obtain ⟨t0, t1, t2, t3, t4, t5, hrl⟩ := HS1.out.rs.facts
    have HB := Lib.hid (HS1.out.end1 (.slice none 0 0) (.int .i64 0) (.int .i64 0))
    clear hb HS
    go_wp2
    exact bodyPost_ret (v := .tuple #[.agg #[.slice none 0 0, .int .i64 0, .int .i64 0], .int .i64 x]) (by simp only [results, Try.results40]; go_simp <;> rfl) rfl ⟨none, 0, by rw [HC.out, HE1.out, HE2.out]; rfl, .inl ⟨nw_none, by rw [HC.out]; exact Ls.nil⟩, HB.out⟩
end Go.Proofs.Ytiklkagkmcapnaa
namespace Go.Proofs.Ytiklkagkmcapnaa
open Go.Joins Go.ChangeShapes Go.WideShapes Go.RowKit Go.Deep
set_option linter.unusedVariables false

section
variable {H : Type} {enc : TypeId × Value → H} {P : Program} {w : World} {base : Nat} {spare : Nat → Bool} {held : Bool}
theorem open_agg7 {r : Reach} {b0 : Nat} {t : TypeId} {f0 f1 f2 f3 f4 f5 f6 : Field} {v : Value} {d : DataW H} {p : List MemPlace} (hs : P.underlying t = some (.struct #[f0, f1, f2, f3, f4, f5, f6])) (hone : oneCellFields P #[f0, f1, f2, f3, f4, f5, f6] = true) (hC : P.cellsOf t = 7)
    (hv : Value.okWide P w r b0 t v) (h : DataW.Trod enc P w base spare held t v d p) :
    ∃ (v0 v1 v2 v3 v4 v5 v6 : Value) (y0 y1 y2 y3 y4 y5 y6 : DataW H × List MemPlace) (n : Nat), v = .agg #[v0, v1, v2, v3, v4, v5, v6] ∧ d = .agg [y0.1, y1.1, y2.1, y3.1, y4.1, y5.1, y6.1] ∧ p = y0.2 ++ (y1.2 ++ (y2.2 ++ (y3.2 ++ (y4.2 ++ (y5.2 ++ (y6.2)))))) ∧
      DataW.trod enc P w base spare held n f0.type [v0] = some y0 ∧ DataW.trod enc P w base spare held n f1.type [v1] = some y1 ∧ DataW.trod enc P w base spare held n f2.type [v2] = some y2 ∧ DataW.trod enc P w base spare held n f3.type [v3] = some y3 ∧ DataW.trod enc P w base spare held n f4.type [v4] = some y4 ∧ DataW.trod enc P w base spare held n f5.type [v5] = some y5 ∧ DataW.trod enc P w base spare held n f6.type [v6] = some y6 := by
  obtain ⟨cs, rfl, hsz⟩ := okWide_struct hs hv
  obtain ⟨l⟩ := cs
  match l, hsz.trans hC with
  | [c0, c1, c2, c3, c4, c5, c6], _ =>
    obtain ⟨fuel, hf⟩ := h
    obtain ⟨xs, n, _, hx, _, hlen, hg⟩ := DataW.trod_struct hs hf
    obtain ⟨o0, k0⟩ := hone_of hone 0 f0 rfl
    obtain ⟨o1, k1⟩ := hone_of hone 1 f1 rfl
    obtain ⟨o2, k2⟩ := hone_of hone 2 f2 rfl
    obtain ⟨o3, k3⟩ := hone_of hone 3 f3 rfl
    obtain ⟨o4, k4⟩ := hone_of hone 4 f4 rfl
    obtain ⟨o5, k5⟩ := hone_of hone 5 f5 rfl
    obtain ⟨o6, k6⟩ := hone_of hone 6 f6 rfl
    match xs, hlen with
    | [y0, y1, y2, y3, y4, y5, y6], _ =>
      simp only [Prod.mk.injEq] at hx
      exact ⟨c0, c1, c2, c3, c4, c5, c6, y0, y1, y2, y3, y4, y5, y6, n, rfl, by simpa using hx.1, by simpa using hx.2, by simpa [Value.cells, o0, k0] using hg 0 f0 rfl, by simpa [Value.cells, o1, k1] using hg 1 f1 rfl, by simpa [Value.cells, o2, k2] using hg 2 f2 rfl, by simpa [Value.cells, o3, k3] using hg 3 f3 rfl, by simpa [Value.cells, o4, k4] using hg 4 f4 rfl, by simpa [Value.cells, o5, k5] using hg 5 f5 rfl, by simpa [Value.cells, o6, k6] using hg 6 f6 rfl⟩

theorem shut_agg7 {t : TypeId} {f0 f1 f2 f3 f4 f5 f6 : Field} {v0 v1 v2 v3 v4 v5 v6 : Value} {y0 y1 y2 y3 y4 y5 y6 : DataW H × List MemPlace} (hs : P.underlying t = some (.struct #[f0, f1, f2, f3, f4, f5, f6])) (hone : oneCellFields P #[f0, f1, f2, f3, f4, f5, f6] = true) (hC : P.cellsOf t = 7)
    (t0 : ∃ n, DataW.trod enc P w base spare held n f0.type [v0] = some y0) (t1 : ∃ n, DataW.trod enc P w base spare held n f1.type [v1] = some y1) (t2 : ∃ n, DataW.trod enc P w base spare held n f2.type [v2] = some y2) (t3 : ∃ n, DataW.trod enc P w base spare held n f3.type [v3] = some y3) (t4 : ∃ n, DataW.trod enc P w base spare held n f4.type [v4] = some y4) (t5 : ∃ n, DataW.trod enc P w base spare held n f5.type [v5] = some y5) (t6 : ∃ n, DataW.trod enc P w base spare held n f6.type [v6] = some y6) :
    DataW.Trod enc P w base spare held t (.agg #[v0, v1, v2, v3, v4, v5, v6]) (.agg [y0.1, y1.1, y2.1, y3.1, y4.1, y5.1, y6.1]) (y0.2 ++ (y1.2 ++ (y2.2 ++ (y3.2 ++ (y4.2 ++ (y5.2 ++ (y6.2))))))) := by
  obtain ⟨n0, t0⟩ := t0
  obtain ⟨n1, t1⟩ := t1
  obtain ⟨n2, t2⟩ := t2
  obtain ⟨n3, t3⟩ := t3
  obtain ⟨n4, t4⟩ := t4
  obtain ⟨n5, t5⟩ := t5
  obtain ⟨n6, t6⟩ := t6
  obtain ⟨o0, k0⟩ := hone_of hone 0 f0 rfl
  obtain ⟨o1, k1⟩ := hone_of hone 1 f1 rfl
  obtain ⟨o2, k2⟩ := hone_of hone 2 f2 rfl
  obtain ⟨o3, k3⟩ := hone_of hone 3 f3 rfl
  obtain ⟨o4, k4⟩ := hone_of hone 4 f4 rfl
  obtain ⟨o5, k5⟩ := hone_of hone 5 f5 rfl
  obtain ⟨o6, k6⟩ := hone_of hone 6 f6 rfl
  have s0 : DataW.trod enc P w base spare held (n0 + n1 + n2 + n3 + n4 + n5 + n6) f0.type ((([v0, v1, v2, v3, v4, v5, v6] : List Value).drop f0.offset).take (P.cellsOf f0.type)) = some y0 := by simpa [o0, k0] using DataW.trod_le (show n0 ≤ n0 + n1 + n2 + n3 + n4 + n5 + n6 by omega) t0
  have s1 : DataW.trod enc P w base spare held (n0 + n1 + n2 + n3 + n4 + n5 + n6) f1.type ((([v0, v1, v2, v3, v4, v5, v6] : List Value).drop f1.offset).take (P.cellsOf f1.type)) = some y1 := by simpa [o1, k1] using DataW.trod_le (show n1 ≤ n0 + n1 + n2 + n3 + n4 + n5 + n6 by omega) t1
  have s2 : DataW.trod enc P w base spare held (n0 + n1 + n2 + n3 + n4 + n5 + n6) f2.type ((([v0, v1, v2, v3, v4, v5, v6] : List Value).drop f2.offset).take (P.cellsOf f2.type)) = some y2 := by simpa [o2, k2] using DataW.trod_le (show n2 ≤ n0 + n1 + n2 + n3 + n4 + n5 + n6 by omega) t2
  have s3 : DataW.trod enc P w base spare held (n0 + n1 + n2 + n3 + n4 + n5 + n6) f3.type ((([v0, v1, v2, v3, v4, v5, v6] : List Value).drop f3.offset).take (P.cellsOf f3.type)) = some y3 := by simpa [o3, k3] using DataW.trod_le (show n3 ≤ n0 + n1 + n2 + n3 + n4 + n5 + n6 by omega) t3
  have s4 : DataW.trod enc P w base spare held (n0 + n1 + n2 + n3 + n4 + n5 + n6) f4.type ((([v0, v1, v2, v3, v4, v5, v6] : List Value).drop f4.offset).take (P.cellsOf f4.type)) = some y4 := by simpa [o4, k4] using DataW.trod_le (show n4 ≤ n0 + n1 + n2 + n3 + n4 + n5 + n6 by omega) t4
  have s5 : DataW.trod enc P w base spare held (n0 + n1 + n2 + n3 + n4 + n5 + n6) f5.type ((([v0, v1, v2, v3, v4, v5, v6] : List Value).drop f5.offset).take (P.cellsOf f5.type)) = some y5 := by simpa [o5, k5] using DataW.trod_le (show n5 ≤ n0 + n1 + n2 + n3 + n4 + n5 + n6 by omega) t5
  have s6 : DataW.trod enc P w base spare held (n0 + n1 + n2 + n3 + n4 + n5 + n6) f6.type ((([v0, v1, v2, v3, v4, v5, v6] : List Value).drop f6.offset).take (P.cellsOf f6.type)) = some y6 := by simpa [o6, k6] using DataW.trod_le (show n6 ≤ n0 + n1 + n2 + n3 + n4 + n5 + n6 by omega) t6
  have := trod_struct_mk (enc := enc) (w := w) (base := base) (spare := spare) (held := held) (n := n0 + n1 + n2 + n3 + n4 + n5 + n6) (cs := [v0, v1, v2, v3, v4, v5, v6]) (xs := [y0, y1, y2, y3, y4, y5, y6]) hs (by simp [hC]) (by simp only [List.mapM_cons, List.mapM_nil, s0, s1, s2, s3, s4, s5, s6]; rfl)
  exact ⟨_, by simpa [Value.cells] using this⟩
end

/-- The message as data. -/
def Msg.d {H : Type} (M : Msg) : DataW H := .agg [.lit (.int .i64 M.id), .lit (.int .i64 M.rt), .lit (.int .i64 M.ep), .lit (.int .i64 M.ct), .lit (.int .i64 M.gn), .lit (.int .i64 M.st), .lit (.string M.bd.data.toList)]
/-- The numbers are numbers of 64 bits, the body is no longer than a string can be. -/
def Msg.wf (M : Msg) : Prop := (Lit.int .i64 M.id).wf = true ∧ (Lit.int .i64 M.rt).wf = true ∧ (Lit.int .i64 M.ep).wf = true ∧ (Lit.int .i64 M.ct).wf = true ∧ (Lit.int .i64 M.gn).wf = true ∧ (Lit.int .i64 M.st).wf = true ∧ M.bd.size ≤ maxLen

theorem msg_cells : Try.prog.cellsOf 26 = 7 := by kernel_rfl

section
variable {H : Type} {enc : TypeId × Value → H} {w : World} {base : Nat} {spare : Nat → Bool} {held : Bool}
theorem open_msg {r : Reach} {b0 : Nat} {v : Value} {d : DataW H} {p : List MemPlace} (hv : Value.okWide Try.prog w r b0 26 v) (h : DataW.Trod enc Try.prog w base spare held 26 v d p) :
    ∃ M : Msg, v = M.v ∧ d = M.d ∧ p = [] ∧ M.wf := by
  obtain ⟨c0, c1, c2, c3, c4, c5, c6, y0, y1, y2, y3, y4, y5, y6, n, rfl, rfl, rfl, hy0, hy1, hy2, hy3, hy4, hy5, hy6⟩ := open_agg7 Try.underlying26 (by kernel_rfl) msg_cells hv h
  obtain ⟨a0, e0, rfl, w0⟩ := DataW.trod_int Try.underlying3 hy0
  obtain ⟨a1, e1, rfl, w1⟩ := DataW.trod_int Try.underlying3 hy1
  obtain ⟨a2, e2, rfl, w2⟩ := DataW.trod_int Try.underlying3 hy2
  obtain ⟨a3, e3, rfl, w3⟩ := DataW.trod_int Try.underlying3 hy3
  obtain ⟨a4, e4, rfl, w4⟩ := DataW.trod_int Try.underlying3 hy4
  obtain ⟨a5, e5, rfl, w5⟩ := DataW.trod_int Try.underlying3 hy5
  obtain ⟨a6, e6, rfl, w6⟩ := DataW.trod_string Try.underlying9 hy6
  simp at e0 e1 e2 e3 e4 e5 e6
  subst e0 e1 e2 e3 e4 e5 e6
  exact ⟨⟨a0, a1, a2, a3, a4, a5, a6⟩, rfl, rfl, rfl, w0, w1, w2, w3, w4, w5, w6⟩
theorem shut_msg (M : Msg) (h : M.wf) : DataW.Trod enc Try.prog w base spare held 26 M.v M.d [] := by
  obtain ⟨w0, w1, w2, w3, w4, w5, w6⟩ := h
  exact shut_agg7 (y0 := (.lit (.int .i64 M.id), [])) (y1 := (.lit (.int .i64 M.rt), [])) (y2 := (.lit (.int .i64 M.ep), [])) (y3 := (.lit (.int .i64 M.ct), [])) (y4 := (.lit (.int .i64 M.gn), [])) (y5 := (.lit (.int .i64 M.st), [])) (y6 := (.lit (.string M.bd.data.toList), [])) Try.underlying26 (by kernel_rfl) msg_cells
    ⟨1, by simp [DataW.trod, Try.underlying3, w0]⟩ ⟨1, by simp [DataW.trod, Try.underlying3, w1]⟩ ⟨1, by simp [DataW.trod, Try.underlying3, w2]⟩ ⟨1, by simp [DataW.trod, Try.underlying3, w3]⟩ ⟨1, by simp [DataW.trod, Try.underlying3, w4]⟩ ⟨1, by simp [DataW.trod, Try.underlying3, w5]⟩ ⟨1, by simp [DataW.trod, Try.underlying9, w6]⟩
end
end Go.Proofs.Ytiklkagkmcapnaa
