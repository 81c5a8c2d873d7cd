/- What is proved here: (plain) an append of a slice that is read, as a step of a region that draws its order; slices.Grow, slices.Concat of messages by contracts; dead.Put by one contract. -/
import Derived.Test.YtbeafcjbldnkhaaJ01
import Derived.Deep.AppendLies
import Derived.Test.YtbeafcjbldnkhaaJ03
import Derived.Test.YtbeafcjbldnkhaaJ02
import Derived.WalkSpells
import Derived.Lib.AppendZerosOnto
import Derived.Shelf.Spec.SlicesGrow
import Derived.Deep.RegionHeld3
import Derived.Test.YtbeafcjbldnkhaaJ06
namespace Go.Proofs.Ytbeafcjbldnkhaa
open Go.RowKit

/-- The step of an append of a list that reads, in a region that draws its order. -/
theorem step_append_rd {P : Program} (w : World) {ops : Array Oper} {o : Oper} {a : Act} {K : Act → World → Prop} {Q : Exit → Act → World → Prop} {E : Prop} (hgd : o.guard = none) (s x : Operand) (t : TypeId)
    (ho : o.op = .call { callee := .builtin .append, args := #[s, x], argTypes := #[t, t] })
    (base : Nat) (e : TypeId) (i : TypeInfo) (z : Value) (size bytes : Nat) (ht : P.underlying t = some (.slice e)) (hi : P.info? e = some i) (hz : i.zero = some z)
    (hsize : i.size = size) (hby : i.bytes = bytes) (hzs : z.cells.size = size) (hsz : 0 < size)
    (v : Value) (n : Nat) (xs : List Value) (hs : a.eval s = v) (hown : w.ownsRow base e size v n xs)
    (B : Nat) (A : Option Addr) (m c : Nat) (news : List Value) (hx : a.eval x = .slice A m c) (hr : Rd w B size A m news) (h1 : ∀ u ∈ news, u.oneCell' = true)
    (h63 : n + m ≤ maxLen) (hbytes : (n + m) * bytes ≤ 140737488355328) (hbase : base ≤ w.heap.size)
    (h : ∀ v' w', w'.ownsRow base e size v' (n + m) (xs ++ news) → w.grownBy w' v.ownBlock → (v'.ownBlock = v.ownBlock ∨ v'.ownBlock = some w.heap.size) → K (a.put o.dst v') w') :
    if Region.wanted o (yielded ops a.tmps) = true then Oper.wp P o a w K Q else E := by
  have hw : Region.wanted o (yielded ops a.tmps) = true := by simp [Region.wanted, hgd]
  rw [if_pos hw]
  exact wp_append_rd w s x t ho base e i z size bytes ht hi hz hsize hby hzs hsz v n xs hs hown B A m c news hx hr h1 h63 hbytes hbase h
end Go.Proofs.Ytbeafcjbldnkhaa
namespace Go.Proofs.Ytbeafcjbldnkhaa
open Go.RowKit
set_option linter.unusedVariables false

theorem info_m8 : (Try.prog.info? 37).map (fun i => (i.zero, i.size, i.bytes)) = some (some (Msg.v zM), 7, 64) := by kernel_rfl
/-- slices.Grow of nil by 0: nil. -/
theorem mgrow_none (w : World) : Calls Try.prog 49 #[.slice none 0 0, .int .i64 0] w fun e w' => e = .returned (.slice none 0 0) ∧ w = w' := by
  go_enter Try.func49, Try.ntmps49
  go_wp2
  go_ret
  exact ⟨rfl, rfl⟩

set_option maxHeartbeats 1000000 in
/-- slices.Grow of nil by n > 0: an empty row of its own. -/
theorem mgrow_some (n : Nat) (w : World) (h0 : 0 < n) (hn : n ≤ 1000000) : Calls Try.prog 49 #[.slice none 0 0, .int .i64 n] w fun e w' =>
    ∃ v, e = .returned v ∧ w'.ownsRow w.heap.size 37 7 v 0 [] ∧ Below w.heap.size w w' := by
  obtain ⟨i0, hi0, hzz⟩ := Option.map_eq_some_iff.1 info_m8
  simp only [Prod.mk.injEq] at hzz
  obtain ⟨hz0, hz1, hz2⟩ := hzz
  have h1 : ¬ ((n : Int) < 0) := by omega
  have h4 : (n : Int) > 0 := by omega
  have hold : (Builtin.firstCells i0.size 0 (.slice none 0 0)).run Try.prog w.drew = .ok #[] w.drew := run_firstCells_none w.drew i0.size 0 0 0
  have hrz : ∀ ty, (Builtin.append_ #[22, 3] ty #[.slice none 0 0, .int .i64 (n : Int)]).run Try.prog w =
      .ok (.slice (some ⟨w.heap.size, 0, none⟩) n (grownCap w n 0 37)) (w.drew.alloc (.cells (#[] ++ Builtin.zeroCells (Msg.v zM).cells n ++ Builtin.zeroCells (Msg.v zM).cells (grownCap w n 0 37 - n)) 37)) := fun ty => by
    have h := Lib.run_append_grow_zeros (P := Try.prog) w 22 3 ty 37 i0 (Msg.v zM) .i64 .i64 Try.underlying22 Try.underlying3 hi0 hz0 none 0 0 [] hold n (by omega) (by omega) (by omega) (by omega)
      (by rw [hz2]; omega)
      (by rw [Nat.zero_add]; exact growslice_fits (by omega) (by rw [hz2]; omega))
    simpa only [Nat.zero_add] using h
  have hGn : n ≤ grownCap w n 0 37 := grownCap_ge w _ _ _
  have hGm : grownCap w n 0 37 ≤ maxLen := grownCap_le_maxLen w n 0 37 (by unfold maxLen; omega)
  obtain ⟨G, hG⟩ : ∃ G, G = grownCap w n 0 37 := ⟨_, rfl⟩
  rw [← hG] at hrz hGn hGm
  have hG63 : G ≤ 9223372036854775807 := by unfold maxLen at hGm; omega
  have HM := Lib.hid hGm
  clear hold hG hGm
  go_enter Try.func49, Try.ntmps49
  go_wp2_with (at_builtin; refine Lib.wpList_append_run _ rfl _ _ _ _ rfl _ _ rfl rfl _ _ (hrz _) ?_)
  go_ret
  refine ⟨_, rfl, ?_, ?_⟩
  · exact World.ownsRow_made (w := w.drew) _ G (Nat.le_refl _) HM.out (by simp [Builtin.zeroCells]; omega)
  · exact (Below.refl _ _).drew.alloc (Nat.le_refl _) _

theorem mgrow_any (n : Nat) (w : World) (hn : n ≤ 1000000) : Calls Try.prog 49 #[.slice none 0 0, .int .i64 n] w fun e w' =>
    ∃ v, e = .returned v ∧ w'.ownsRow w.heap.size 37 7 v 0 [] ∧ Below w.heap.size w w' := by
  rcases Nat.eq_zero_or_pos n with rfl | h
  · exact (mgrow_none w).mono fun _ _ ⟨he, hw⟩ => ⟨_, he, by subst hw; exact World.ownsRow_nil _ _ _ _, by subst hw; exact Below.refl _ _⟩
  · exact mgrow_some n w h hn

/-- The bytes of a list of slices. -/
def mtot : List (Value × List Msg) → List Msg
  | [] => []
  | p :: r => p.2 ++ mtot r

theorem mtot_take (ps : List (Value × List Msg)) (k : Nat) (h : k < ps.length) : mtot (ps.take (k + 1)) = mtot (ps.take k) ++ ps[k].2 := by
  induction ps generalizing k with
  | nil => simp at h
  | cons p r ih =>
    cases k with
    | zero => simp [mtot]
    | succ k => simp only [List.take_succ_cons, mtot, List.getElem_cons_succ, List.append_assoc]; rw [ih k (by simpa using h)]

theorem mtot_le (ps : List (Value × List Msg)) (k : Nat) : (mtot (ps.take k)).length ≤ (mtot ps).length := by
  induction ps generalizing k with
  | nil => simp [mtot]
  | cons p r ih =>
    cases k with
    | zero => simp [mtot]
    | succ k => simp only [List.take_succ_cons, mtot, List.length_append]; have := ih k; omega

set_option maxRecDepth 20000 in
set_option maxHeartbeats 2000000 in
theorem mconcat_any (vb vo c : Nat) (ps : List (Value × List Msg)) (w : World) (hb : vb < w.heap.size) (hc : ∀ k (h : k < ps.length), w.cell? ⟨vb, vo + k, none⟩ = some ps[k].1)
    (hps : ∀ k (h : k < ps.length), Ls w w.heap.size ps[k].1 ps[k].2) (hn : ps.length ≤ 1024) (ht : (mtot ps).length ≤ 1000000) :
    Calls Try.prog 37 #[.slice (some ⟨vb, vo, none⟩) ps.length c] w fun e w' =>
      ∃ v, e = .returned v ∧ w'.ownsRow w.heap.size 37 7 v (mtot ps).length (lcs (mtot ps)) ∧ Below w.heap.size w w' := by
  obtain ⟨i0, hi0, hzz⟩ := Option.map_eq_some_iff.1 info_m8
  simp only [Prod.mk.injEq] at hzz
  obtain ⟨hz0, hz1, hz2⟩ := hzz
  obtain ⟨L, hL⟩ : ∃ L, L = ps.length := ⟨_, rfl⟩
  have HL := Lib.hid hL
  rw [← hL]
  have hL' : L ≤ 1024 := by omega
  have HC := Lib.hid hc
  have HP := Lib.hid hps
  clear hL hc hps
  go_enter Try.func37, Try.ntmps37
  go_wp2
  go_loop [3, 5, 11] (fun s _ i => ∃ k : Nat, k ≤ L ∧ i = .int .i64 k ∧ s = .int .i64 (mtot (ps.take k)).length) (fun _ _ i => L - (intOf i).toNat)
  case atStart => exact ⟨0, Nat.zero_le _, rfl, rfl⟩
  case round =>
    obtain ⟨k, hk, rfl, rfl⟩ := hrel
    have hle := mtot_le ps k
    by_cases hlt : k < L
    · have hkp : k < ps.length := by have := HL.out; omega
      have hcell := HC.out k hkp
      have HT := Lib.hid (congrArg List.length (mtot_take ps k hkp))
      have hle1 := mtot_le ps (k + 1)
      obtain ⟨A, c1, hA, _, _, hR⟩ := HP.out k hkp
      rw [hA] at hcell
      have HA := Lib.hid hA
      have HR := Lib.hid hR
      have hlen : (ps[k].2).length ≤ 1000000 := by have := HT.out; simp at this; omega
      clear hA hR
      go_wp2
      go_round
      case rel => exact ⟨k + 1, by omega, by go_num, by rw [HT.out]; simp⟩
      case measure => simp [intOf]; omega
    · obtain rfl : k = L := by omega
      have HE := Lib.hid (show ps.take k = ps by rw [HL.out]; simp)
      have hge : ((mtot (ps.take k)).length : Int) ≤ 1000000 := by omega
      go_wp2_with fail
      refine (mgrow_any (mtot (ps.take k)).length w (by omega)).mono ?_
      rintro e w1 ⟨v1, rfl, hown1, hb1⟩
      have Hown1 := Lib.hid hown1
      have Hb1 := Lib.hid hb1
      clear hown1 hb1
      go_wp2
      clear hle hge
      have hk' : k ≤ 1024 := hL'
      go_loopw [6, 8, 27] (fun s _ i wr => ∃ j : Nat, j ≤ k ∧ i = .int .i64 j ∧ wr.ownsRow w.heap.size 37 7 s (mtot (ps.take j)).length (lcs (mtot (ps.take j))) ∧ Below w.heap.size w wr) (fun _ _ i _ => k - (intOf i).toNat)
      case atStart => exact ⟨0, Nat.zero_le _, rfl, Hown1.out, Hb1.out⟩
      case round =>
        obtain ⟨j, hj, rfl, hown, hbel⟩ := hrel
        have hle := mtot_le ps j
        by_cases hlt : j < k
        · have hkp : j < ps.length := by have := HL.out; omega
          have hcell := HC.out j hkp
          have HT := Lib.hid (mtot_take ps j hkp)
          have hle1 := mtot_le ps (j + 1)
          obtain ⟨A, c1, hA, _, _, hR⟩ := HP.out j hkp
          rw [hA] at hcell
          have hlen : (mtot (ps.take j)).length + (ps[j].2).length ≤ 1000000 := by have := congrArg List.length HT.out; simp at this; omega
          rw [← hbel.cell (p := ⟨vb, vo + j, none⟩) hb] at hcell
          have HA := Lib.hid hA
          have HR := Lib.hid (hR.below hbel)
          have HO := Lib.hid hown
          have HB := Lib.hid hbel
          have hsz := hbel.size
          clear hA hR hown hbel
          go_wp2_with (at_builtin; refine wpList_append_rd _ rfl _ _ 22 rfl w.heap.size 37 i0 _ 7 64 Try.underlying22 hi0 hz0 hz1 hz2 rfl (by omega) _ _ _ rfl HO.out w.heap.size A _ _ _ rfl HR.out (lcs_one _) (by unfold maxLen; omega) (by omega) hsz ?_; intro v2 w2 hown2 hg2 _)
          have hown3 : w2.ownsRow w.heap.size 37 7 v2 (mtot (ps.take (j + 1))).length (lcs (mtot (ps.take (j + 1)))) := by
            rw [HT.out, lcs_app, List.length_append]; exact hown2
          have hb3 : Below w.heap.size w w2 := HB.out.grown hg2 hsz (fun g hg => (World.ownsRow.lt HO.out g hg).1)
          have H3 := Lib.hid hown3
          have HB3 := Lib.hid hb3
          clear hown2 hown3 hg2 hb3
          go_wp2
          go_roundw
          case rel => exact ⟨j + 1, by omega, by go_num, H3.out, HB3.out⟩
          case measure => simp [intOf]; omega
        · obtain rfl : j = k := by omega
          have HO := Lib.hid hown
          have HB := Lib.hid hbel
          clear hown hbel
          go_wp2
          go_ret
          exact ⟨_, rfl, by have := HO.out; rwa [HE.out] at this, HB.out⟩


/-- Two slices in an array of the call's own. -/
structure Mc2 (W : World) (g : Nat) (v0 v1 : Value) (l0 l1 : List Msg) : Prop where
  c0 : W.cell? ⟨g, 0, none⟩ = some v0
  c1 : W.cell? ⟨g, 1, none⟩ = some v1
  lt : g < W.heap.size
  e0 : Ls W W.heap.size v0 l0
  e1 : Ls W W.heap.size v1 l1
theorem Mc2.start {w : World} {v0 v1 : Value} {l0 l1 : List Msg} (t : TypeId) (h0 : Ls w w.heap.size v0 l0) (h1 : Ls w w.heap.size v1 l1) : Mc2 (w.alloc (.cells #[v0, v1] t)) w.heap.size v0 v1 l0 l1 := by
  have hb := (Below.refl w.heap.size w).alloc (Nat.le_refl _) (.cells #[v0, v1] t)
  refine ⟨?_, ?_, by simp, (h0.below hb).more hb.size, (h1.below hb).more hb.size⟩
  · rw [World.cell?_alloc_new]; rfl
  · rw [World.cell?_alloc_new]; rfl
theorem Mc2.concat {W : World} {g : Nat} {v0 v1 : Value} {l0 l1 : List Msg} (h : Mc2 W g v0 v1 l0 l1) (c : Nat) (ht : l0.length + l1.length ≤ 1000000) :
    Calls Try.prog 37 #[.slice (some ⟨g, 0, none⟩) 2 c] W fun e w' => ∃ v, e = .returned v ∧ w'.ownsRow W.heap.size 37 7 v (l0 ++ l1).length (lcs (l0 ++ l1)) ∧ Below W.heap.size W w' := by
  refine (mconcat_any g 0 c [(v0, l0), (v1, l1)] W h.lt ?_ ?_ (by simp) (by simp [mtot]; omega)).mono ?_
  · intro k hk
    rw [Nat.zero_add]
    match k, hk with
    | 0, _ => exact h.c0
    | 1, _ => exact h.c1
  · intro k hk
    match k, hk with
    | 0, _ => exact h.e0
    | 1, _ => exact h.e1
  · rintro e w' ⟨v, he, ho, hb⟩
    have ht : mtot [(v0, l0), (v1, l1)] = l0 ++ l1 := by simp [mtot]
    rw [ht] at ho
    exact ⟨v, he, ho, hb⟩
end Go.Proofs.Ytbeafcjbldnkhaa
namespace Go.Proofs.Ytbeafcjbldnkhaa
open Go.RowKit
set_option linter.unusedVariables false

/-- What Put gives. -/
noncomputable def pu8C (cap : Int) (l x : List Msg) : Int := if pu8 cap l x = 0 then cap else 0
noncomputable def pu8L (cap : Int) (l x : List Msg) : List Msg := if pu8 cap l x = 0 then l ++ x else []
/-- The boxes of a store and of a result. -/
structure Tw8 (w : World) (p r : Nat) (cap : Int) (A : Option Addr) (c : Nat) (l : List Msg) (W : World) : Prop where
  db : DB W p cap A l.length c
  rs : DB W r 0 none 0 0
  ls : Ls W w.heap.size (.slice A l.length c) l
  bel : Below w.heap.size w W
  old : w.heap.size ≤ p ∧ p < r
section
variable {w W W' : World} {p r c : Nat} {cap : Int} {A : Option Addr} {l : List Msg}
theorem Tw8.below (h : Tw8 w p r cap A c l W) (hb : Below W.heap.size W W') : Tw8 w p r cap A c l W' :=
  ⟨h.db.up hb, h.rs.up hb, h.ls.below (hb.mono h.bel.size), h.bel.trans (hb.mono h.bel.size), h.old⟩
theorem Tw8.alloc (h : Tw8 w p r cap A c l W) (o : Obj) : Tw8 w p r cap A c l (W.alloc o) := h.below ((Below.refl _ _).alloc (Nat.le_refl _) o)
theorem Tw8.drew (h : Tw8 w p r cap A c l W) : Tw8 w p r cap A c l W.drew := ⟨h.db.drew, h.rs.drew, h.ls.drew, h.bel.drew, h.old⟩
theorem Tw8.here (h : Tw8 w p r cap A c l W) : Ls W W.heap.size (.slice A l.length c) l := h.ls.more h.bel.size
theorem Tw8.start (t u : TypeId) (cap : Int) (hv : Ls w w.heap.size (.slice A l.length c) l) : Tw8 w w.heap.size (w.heap.size + 1) cap A c l ((w.alloc (.cells #[.int .i64 cap, .slice A l.length c] t)).alloc (.cells #[.int .i64 0, .slice none 0 0] u)) := by
  have h2 := DB.fresh (w.alloc (.cells #[.int .i64 cap, .slice A l.length c] t)) 0 none 0 0 u
  have e : (w.alloc (.cells #[.int .i64 cap, .slice A l.length c] t)).heap.size = w.heap.size + 1 := by simp
  rw [e] at h2
  exact ⟨(DB.fresh w cap A l.length c t).alloc _, h2, (hv.alloc (Nat.le_refl _) _).alloc (by simp) _, ((Below.refl _ _).alloc (Nat.le_refl _) _).alloc (by simp) _, Nat.le_refl _, by omega⟩
/-- A result is stored: the zero store. -/
theorem Tw8.zero (h : Tw8 w p r cap A c l W) : Below w.heap.size w ((W.setCell ⟨r, 0, none⟩ (.int .i64 0)).setCell ⟨r, 1, none⟩ (.slice none 0 0)) :=
  (h.bel.setCell (p := ⟨r, 0, none⟩) (show w.heap.size ≤ r by have := h.old; omega) _).setCell (p := ⟨r, 1, none⟩) (show w.heap.size ≤ r by have := h.old; omega) _
theorem Tw8.out (h : Tw8 w p r cap A c l W) (e : Int) : D8 w 0 [] e (.returned (.tuple #[.agg #[.int .i64 0, .slice none 0 0], .int .i64 e])) ((W.setCell ⟨r, 0, none⟩ (.int .i64 0)).setCell ⟨r, 1, none⟩ (.slice none 0 0)) :=
  ⟨none, 0, rfl, nw_none, Ls.nil, h.zero⟩
end
/-- A new list lies behind all. -/
theorem nw_own {W : World} {base lo n m c size : Nat} {e : TypeId} {A : Option Addr} {xs : List Value} (h : W.ownsRow base e size (.slice A m c) n xs) (hl : lo ≤ base) : Nw lo A := nwv_of (nwv_own h hl)
/-- Put's state behind the joining of the lists. -/
structure Pu8 (w : World) (p r : Nat) (cap : Int) (A : Option Addr) (c : Nat) (l : List Msg) (W : World) : Prop where
  db : DB W p cap A l.length c
  rs : DB W r 0 none 0 0
  ls : Ls W W.heap.size (.slice A l.length c) l
  nw : Nw (r + 1) A
  bel : Below w.heap.size w W
  old : w.heap.size ≤ p ∧ p < r
section
variable {w W W' : World} {p r c : Nat} {cap : Int} {A : Option Addr} {l : List Msg}
theorem Pu8.below (h : Pu8 w p r cap A c l W) (hb : Below W.heap.size W W') : Pu8 w p r cap A c l W' :=
  ⟨h.db.up hb, h.rs.up hb, (h.ls.below hb).more hb.size, h.nw, h.bel.trans (hb.mono h.bel.size), h.old⟩
theorem Pu8.zero (h : Pu8 w p r cap A c l W) : Below w.heap.size w ((W.setCell ⟨r, 0, none⟩ (.int .i64 0)).setCell ⟨r, 1, none⟩ (.slice none 0 0)) :=
  (h.bel.setCell (p := ⟨r, 0, none⟩) (show w.heap.size ≤ r by have := h.old; omega) _).setCell (p := ⟨r, 1, none⟩) (show w.heap.size ≤ r by have := h.old; omega) _
theorem Pu8.outZ (h : Pu8 w p r cap A c l W) (e : Int) : D8 w 0 [] e (.returned (.tuple #[.agg #[.int .i64 0, .slice none 0 0], .int .i64 e])) ((W.setCell ⟨r, 0, none⟩ (.int .i64 0)).setCell ⟨r, 1, none⟩ (.slice none 0 0)) :=
  ⟨none, 0, rfl, nw_none, Ls.nil, h.zero⟩
theorem Pu8.out (h : Pu8 w p r cap A c l W) : D8 w cap l 0 (.returned (.tuple #[.agg #[.int .i64 cap, .slice A l.length c], .int .i64 0])) ((W.setCell ⟨r, 0, none⟩ (.int .i64 cap)).setCell ⟨r, 1, none⟩ (.slice A l.length c)) := by
  have ho : Ob r l.length A := ob_nw h.nw (Nat.lt_succ_self r)
  refine ⟨A, c, rfl, nw_low h.nw (by have := h.old; omega), ?_, (h.bel.setCell (p := ⟨r, 0, none⟩) (show w.heap.size ≤ r by have := h.old; omega) _).setCell (p := ⟨r, 1, none⟩) (show w.heap.size ≤ r by have := h.old; omega) _⟩
  have := (h.ls.offo (p := ⟨r, 0, none⟩) ho (.int .i64 cap)).offo (p := ⟨r, 1, none⟩) ho (.slice A l.length c)
  simpa using this
theorem Tw8.join (h : Tw8 w p r cap A c l W) {W1 : World} {A1 : Option Addr} {c1 : Nat} {L : List Msg} (hb : Below W.heap.size W W1) (ho : W1.ownsRow W.heap.size 37 7 (.slice A1 L.length c1) L.length (lcs L)) :
    Pu8 w p r cap A1 c1 L (W1.setCell ⟨p, 1, none⟩ (.slice A1 L.length c1)) := by
  have h1 := h.below hb
  have hr := h.rs.lt
  have hnw : Nw (r + 1) A1 := nw_own ho (by omega)
  refine ⟨h1.db.setL _ _ _, h1.rs.other (a := ⟨p, 1, none⟩) (show p ≠ r by have := h.old; omega) _, ?_, hnw, h1.bel.setCell (p := ⟨p, 1, none⟩) h.old.1 _, h.old⟩
  have := (Ls.of_own ho).offo (p := ⟨p, 1, none⟩) (ob_nw hnw (show p < r + 1 by have := h.old; omega)) (.slice A1 L.length c1)
  simpa using this
end
set_option maxHeartbeats 4000000 in
set_option maxRecDepth 20000 in
theorem put8_any (cap : Int) (A : Option Addr) (n c : Nat) (l : List Msg) (Ax : Option Addr) (nx cx : Nat) (x : List Msg) (w : World) (hv : Ls w w.heap.size (.slice A n c) l) (hx : Ls w w.heap.size (.slice Ax nx cx) x) :
    Calls Try.prog 19 #[.agg #[.int .i64 cap, .slice A n c], .slice Ax nx cx] w (D8 w (pu8C cap l x) (pu8L cap l x) (pu8 cap l x)) := by
  obtain ⟨rfl, hm1, hm2⟩ := hv.len
  obtain ⟨rfl, hx1, hx2⟩ := hx.len
  have hL : l.length ≤ 9223372036854775807 := by unfold maxLen at hm2; omega
  have hLx : x.length ≤ 9223372036854775807 := by unfold maxLen at hx2; omega
  have H0 := Lib.hid (Tw8.start 24 24 cap hv)
  have HX := Lib.hid hx
  have HV := Lib.hid (fun p r W (h : Tw8 w p r cap A c l W) => va8_any cap A l.length c l W h.here)
  have HP := Lib.hid (fun p r A c L W (h : Pu8 w p r cap A c L W) => va8_any cap A L.length c L W h.ls)
  clear hv hm1 hm2 hx hx1 hx2
  by_cases h0 : va8 cap l = 0
  · have hk := ok8_iff.1 h0
    obtain ⟨k1, k2, k3, _, _⟩ := hk
    rw [h0] at HV
    by_cases h1 : cap - (l.length : Int) < (x.length : Int)
    · have HQ := Lib.hid (pu8_full h0 h1)
      have HQ2 := Lib.hid (show pu8C cap l x = 0 ∧ pu8L cap l x = [] from ⟨if_neg (by rw [HQ.out]; decide), if_neg (by rw [HQ.out]; decide)⟩)
      rw [HQ.out, HQ2.out.1, HQ2.out.2]
      have hwr : wrap64 (cap - (l.length : Int)) = cap - (l.length : Int) := IntWalk.wrap64_in _ (by omega)
      clear h0 HQ HQ2 hwr
      go_enter Try.func19, Try.ntmps19
      obtain ⟨b0, b1, bl⟩ := H0.out.db.facts
      go_wp2_with fail
      clear b0 b1 bl
      refine (HV.out _ _ _ H0.out).mono ?_
      rintro e w1 ⟨rfl, hb⟩
      have H1 := Lib.hid (H0.out.below hb)
      clear hb
      obtain ⟨b0, b1, bl⟩ := H1.out.db.facts
      obtain ⟨r0, r1, rl, f0, f1⟩ := H1.out.rs.all
      go_wp2
      exact bodyPost_ret (v := .tuple #[.agg #[.int .i64 0, .slice none 0 0], .int .i64 3]) (by simp only [results, Try.results19]; go_simp <;> rfl) rfl (H1.out.out _)
    · obtain ⟨C, hC⟩ : ∃ C, C = pu8C cap l x := ⟨_, rfl⟩
      obtain ⟨L, hL⟩ : ∃ L, L = pu8L cap l x := ⟨_, rfl⟩
      obtain ⟨E, hE⟩ : ∃ E, E = pu8 cap l x := ⟨_, rfl⟩
      have hES : E = so8 (l ++ x) := by rw [hE, pu8_so h0 h1]
      have HZ := Lib.hid (show E = 0 → C = cap ∧ L = l ++ x from fun h => by rw [hC, hL]; exact ⟨if_pos (by rw [← hE]; exact h), if_pos (by rw [← hE]; exact h)⟩)
      have HN := Lib.hid (show E ≠ 0 → C = 0 ∧ L = [] from fun h => by rw [hC, hL]; exact ⟨if_neg (by rw [← hE]; exact h), if_neg (by rw [← hE]; exact h)⟩)
      have HA := Lib.hid (show va8 cap (l ++ x) = E by rw [hES]; exact va8_all h0 h1)
      rw [← hC, ← hL, ← hE]
      have HL2 := Lib.hid (show l.length + x.length ≤ 1000000 by omega)
      have HMC := Lib.hid (fun W g (h : Mc2 W g (.slice A l.length c) (.slice Ax x.length cx) l x) => h.concat 2 HL2.out)
      obtain ⟨Y, hY⟩ : ∃ Y, Y = l ++ x := ⟨_, rfl⟩
      rw [← hY] at HZ HA HMC hES
      clear hY
      have hwr : wrap64 (cap - (l.length : Int)) = cap - (l.length : Int) := IntWalk.wrap64_in _ (by omega)
      clear h0 hC hL hE hES hwr
      go_enter Try.func19, Try.ntmps19
      obtain ⟨b0, b1, bl⟩ := H0.out.db.facts
      go_wp2_with fail
      clear b0 b1 bl
      obtain ⟨p, hp⟩ : ∃ p, p = w.heap.size := ⟨_, rfl⟩
      obtain ⟨r, hr⟩ : ∃ r, r = w.heap.size + 1 := ⟨_, rfl⟩
      rw [← hr, ← hp] at H0
      rw [← hr, ← hp]
      clear hp hr
      refine (HV.out _ _ _ H0.out).mono ?_
      rintro e w1 ⟨rfl, hb⟩
      have H1 := Lib.hid (H0.out.below hb)
      clear hb H0
      have HX1 := Lib.hid ((HX.out.below H1.out.bel).more H1.out.bel.size)
      have HM := Lib.hid (Mc2.start 22 H1.out.here HX1.out)
      have H2 := Lib.hid (H1.out.alloc (.cells #[.slice A l.length c, .slice Ax x.length cx] 22))
      obtain ⟨b0, b1, bl⟩ := H1.out.db.facts
      go_wp2_with fail
      clear b0 b1 bl
      refine (HMC.out _ _ HM.out).mono ?_
      rintro e w2 ⟨v2, rfl, ho, hb⟩
      obtain ⟨A2, c2, rfl⟩ := own_form ho
      have H3 := Lib.hid (H2.out.below hb)
      have HP2 := Lib.hid (H2.out.join hb ho)
      clear ho hb
      obtain ⟨b0, b1, bl, f0, f1⟩ := H3.out.db.all
      go_wp2_with fail
      clear b0 b1 bl f0 f1 H1 H2 HM
      refine (HP.out _ _ _ _ _ _ HP2.out).mono ?_
      rw [HA.out]
      rintro e w4 ⟨rfl, hb⟩
      have H4 := Lib.hid (HP2.out.below hb)
      clear hb HP2 H3
      obtain ⟨r0, r1, rl, f0, f1⟩ := H4.out.rs.all
      obtain ⟨b0, b1, bl⟩ := H4.out.db.facts
      have HPR := Lib.hid (show ¬ p = r ∧ ¬ r = p by have := H4.out.old; omega)
      by_cases h0 : E = 0
      · obtain ⟨rfl, rfl⟩ := HZ.out h0
        subst h0
        have hpr := HPR.out.1
        have hrp := HPR.out.2
        go_wp2
        exact bodyPost_ret (v := .tuple #[.agg #[.int .i64 C, .slice A2 L.length c2], .int .i64 0]) (by simp only [results, Try.results19]; go_simp <;> rfl) rfl H4.out.out
      · obtain ⟨rfl, rfl⟩ := HN.out h0
        have hne : (E != 0) = true := by simpa using h0
        clear h0
        go_wp2
        exact bodyPost_ret (v := .tuple #[.agg #[.int .i64 0, .slice none 0 0], .int .i64 E]) (by simp only [results, Try.results19]; go_simp <;> rfl) rfl (H4.out.outZ E)
  · have HQ := Lib.hid (pu8_va (x := x) h0)
    have HQ2 := Lib.hid (show pu8C cap l x = 0 ∧ pu8L cap l x = [] from ⟨if_neg (by rw [HQ.out]; exact h0), if_neg (by rw [HQ.out]; exact h0)⟩)
    rw [HQ.out, HQ2.out.1, HQ2.out.2]
    have hne : (va8 cap l != 0) = true := by simpa using h0
    clear h0 HQ HQ2
    generalize va8 cap l = v at *
    go_enter Try.func19, Try.ntmps19
    obtain ⟨b0, b1, bl⟩ := H0.out.db.facts
    go_wp2_with fail
    clear b0 b1 bl
    refine (HV.out _ _ _ H0.out).mono ?_
    rintro e w1 ⟨rfl, hb⟩
    have H1 := Lib.hid (H0.out.below hb)
    clear hb
    obtain ⟨r0, r1, rl, f0, f1⟩ := H1.out.rs.all
    go_wp2
    exact bodyPost_ret (v := .tuple #[.agg #[.int .i64 0, .slice none 0 0], .int .i64 v]) (by simp only [results, Try.results19]; go_simp <;> rfl) rfl (H1.out.out _)
end Go.Proofs.Ytbeafcjbldnkhaa
