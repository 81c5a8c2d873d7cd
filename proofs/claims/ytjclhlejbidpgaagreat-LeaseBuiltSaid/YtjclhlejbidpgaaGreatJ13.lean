/- What is proved here: (plain) an append of a slice that is read, as a step of a region that draws its order; slices.Clone, slices.Grow, slices.Concat of leases, lease.without by contracts; Rlb. -/
import Derived.Test.YtjclhlejbidpgaaGreatJ02
import Derived.Deep.AppendLies
import Derived.Test.YtjclhlejbidpgaaGreatJ12
import Derived.WalkSpells
import Derived.Lib.AppendZerosOnto
import Derived.Shelf.Spec.SlicesGrow
import Derived.Deep.RegionHeld3
import Derived.Test.YtjclhlejbidpgaaGreatJ09
namespace Go.Proofs.YtjclhlejbidpgaaGreat
open Go.RowKit

/-- The step of an append of a list that reads, in a region that draws its order. -/
theorem step_append_rd {P : Program} (w : World) {ops : Array Oper} {o : Oper} {a : Act} {K : Act → World → Prop} {Q : Exit → Act → World → Prop} {E : Prop} (hgd : o.guard = none) (s x : Operand) (t : TypeId)
    (ho : o.op = .call { callee := .builtin .append, args := #[s, x], argTypes := #[t, t] })
    (base : Nat) (e : TypeId) (i : TypeInfo) (z : Value) (size bytes : Nat) (ht : P.underlying t = some (.slice e)) (hi : P.info? e = some i) (hz : i.zero = some z)
    (hsize : i.size = size) (hby : i.bytes = bytes) (hzs : z.cells.size = size) (hsz : 0 < size)
    (v : Value) (n : Nat) (xs : List Value) (hs : a.eval s = v) (hown : w.ownsRow base e size v n xs)
    (B : Nat) (A : Option Addr) (m c : Nat) (news : List Value) (hx : a.eval x = .slice A m c) (hr : Rd w B size A m news) (h1 : ∀ u ∈ news, u.oneCell' = true)
    (h63 : n + m ≤ maxLen) (hbytes : (n + m) * bytes ≤ 140737488355328) (hbase : base ≤ w.heap.size)
    (h : ∀ v' w', w'.ownsRow base e size v' (n + m) (xs ++ news) → w.grownBy w' v.ownBlock → (v'.ownBlock = v.ownBlock ∨ v'.ownBlock = some w.heap.size) → K (a.put o.dst v') w') :
    if Region.wanted o (yielded ops a.tmps) = true then Oper.wp P o a w K Q else E := by
  have hw : Region.wanted o (yielded ops a.tmps) = true := by simp [Region.wanted, hgd]
  rw [if_pos hw]
  exact wp_append_rd w s x t ho base e i z size bytes ht hi hz hsize hby hzs hsz v n xs hs hown B A m c news hx hr h1 h63 hbytes hbase h
end Go.Proofs.YtjclhlejbidpgaaGreat
namespace Go.Proofs.YtjclhlejbidpgaaGreat
open Go.RowKit
set_option linter.unusedVariables false

theorem info_lease : (Tryz.prog.info? 39).map (fun i => (i.zero, i.size, i.bytes)) = some (some (Le.v zL), 8, 72) := by kernel_rfl
/-- A copy, that the call owns. -/
def EClP (w : World) (l : List Le) (e : Ending) (w' : World) : Prop := ∃ v, e = .returned v ∧ w'.ownsRow w.heap.size 39 8 v l.length (ecs l) ∧ Below w.heap.size w w'
theorem eclone_end {w w1 : World} {l : List Le} {v1 : Value} {o : Obj} (hown : w1.ownsRow w.heap.size 39 8 v1 (0 + l.length) ([] ++ ecs l)) (hg : (w.alloc o).grownBy w1 (Value.ownBlock (.slice (some ⟨w.heap.size, 0, none⟩) 0 0))) : EClP w l (.returned v1) w1 := by
  rw [Nat.zero_add, List.nil_append] at hown
  exact ⟨v1, rfl, hown, (((Below.refl _ _).alloc (Nat.le_refl _) o)).grown hg (by simp) (fun k hk => by simp [Value.ownBlock] at hk; omega)⟩

set_option maxHeartbeats 2000000 in
theorem eclone_any (A : Option Addr) (n c : Nat) (l : List Le) (w : World) (hv : El w w.heap.size (.slice A n c) l) (h2 : n ≤ 1000) :
    Calls Tryz.prog 49 #[.slice A n c] w (EClP w l) := by
  obtain ⟨rfl, hm1, hm2⟩ := hv.len
  obtain ⟨i0, hi0, hz0⟩ := Option.map_eq_some_iff.1 info_lease
  simp only [Prod.mk.injEq] at hz0
  have HI := Lib.hid hi0
  have HZ := Lib.hid hz0
  have HV := Lib.hid hv
  have heq : ∀ W, (binOp .eql 22 (.slice A l.length c) (.slice none 0 0)).run Tryz.prog W = .ok (.bool A.isNone) W := fun W => Lib.run_eql_slice_nil W _ _ _ _ _ _ _ Tryz.underlying22
  have HRD := Lib.hid hv.rd
  clear hv hi0 hz0
  cases A with
  | none =>
    have hl : l = [] := by
      cases l with
      | nil => rfl
      | cons d l => obtain ⟨b, o, e, _⟩ := HRD.out.2 (by simp); cases e
    subst hl
    have HP := Lib.hid (show EClP w [] (.returned (.slice none 0 0)) w from ⟨_, rfl, World.ownsRow_nil w _ _ _, Below.refl _ _⟩)
    simp only [List.length_nil, Option.isNone_none] at heq ⊢
    go_enter Tryz.func49, Tryz.ntmps49
    go_wp2
    go_ret
    exact HP.out
  | some a =>
    simp only [Option.isNone_some] at heq
    go_enter Tryz.func49, Tryz.ntmps49
    go_wp2_with (at_builtin; refine wpList_append_rd _ rfl (.tmp 5) (.tmp 6) 22 rfl w.heap.size 39 i0 _ 8 72 Tryz.underlying22 HI.out HZ.out.1 HZ.out.2.1 HZ.out.2.2 rfl (by omega) (.slice (some ⟨w.heap.size, 0, none⟩) 0 0) 0 [] rfl (World.ownsRow_made w #[] 0 (Nat.le_refl _) (Nat.zero_le _) rfl) w.heap.size (some a) l.length c (ecs l) rfl (HV.out.alloc (Nat.le_refl _) _).rd (ecs_one l) (by unfold maxLen; omega) (by omega) (by simp) ?_; intro v1 w1 hown1 hg1 hat1)
    have HP := Lib.hid (eclone_end hown1 hg1)
    clear hown1 hg1 hat1
    go_wp2
    go_ret
    exact HP.out

/-- slices.Grow of nil by 0: nil. -/
theorem egrow_none (w : World) : Calls Tryz.prog 100 #[.slice none 0 0, .int .i64 0] w fun e w' => e = .returned (.slice none 0 0) ∧ w = w' := by
  go_enter Tryz.func100, Tryz.ntmps100
  go_wp2
  go_ret
  exact ⟨rfl, rfl⟩

set_option maxHeartbeats 1000000 in
/-- slices.Grow of nil by n > 0: an empty row of its own. -/
theorem egrow_some (n : Nat) (w : World) (h0 : 0 < n) (hn : n ≤ 1000000) : Calls Tryz.prog 100 #[.slice none 0 0, .int .i64 n] w fun e w' =>
    ∃ v, e = .returned v ∧ w'.ownsRow w.heap.size 39 8 v 0 [] ∧ Below w.heap.size w w' := by
  obtain ⟨i0, hi0, hzz⟩ := Option.map_eq_some_iff.1 info_lease
  simp only [Prod.mk.injEq] at hzz
  obtain ⟨hz0, hz1, hz2⟩ := hzz
  have h1 : ¬ ((n : Int) < 0) := by omega
  have h4 : (n : Int) > 0 := by omega
  have hold : (Builtin.firstCells i0.size 0 (.slice none 0 0)).run Tryz.prog w.drew = .ok #[] w.drew := run_firstCells_none w.drew i0.size 0 0 0
  have hrz : ∀ ty, (Builtin.append_ #[22, 3] ty #[.slice none 0 0, .int .i64 (n : Int)]).run Tryz.prog w =
      .ok (.slice (some ⟨w.heap.size, 0, none⟩) n (grownCap w n 0 39)) (w.drew.alloc (.cells (#[] ++ Builtin.zeroCells (Le.v zL).cells n ++ Builtin.zeroCells (Le.v zL).cells (grownCap w n 0 39 - n)) 39)) := fun ty => by
    have h := Lib.run_append_grow_zeros (P := Tryz.prog) w 22 3 ty 39 i0 (Le.v zL) .i64 .i64 Tryz.underlying22 Tryz.underlying3 hi0 hz0 none 0 0 [] hold n (by omega) (by omega) (by omega) (by omega)
      (by rw [hz2]; omega)
      (by rw [Nat.zero_add]; exact growslice_fits (by omega) (by rw [hz2]; omega))
    simpa only [Nat.zero_add] using h
  have hGn : n ≤ grownCap w n 0 39 := grownCap_ge w _ _ _
  have hGm : grownCap w n 0 39 ≤ maxLen := grownCap_le_maxLen w n 0 39 (by unfold maxLen; omega)
  obtain ⟨G, hG⟩ : ∃ G, G = grownCap w n 0 39 := ⟨_, rfl⟩
  rw [← hG] at hrz hGn hGm
  have hG63 : G ≤ 9223372036854775807 := by unfold maxLen at hGm; omega
  have HM := Lib.hid hGm
  clear hold hG hGm
  go_enter Tryz.func100, Tryz.ntmps100
  go_wp2_with (at_builtin; refine Lib.wpList_append_run _ rfl _ _ _ _ rfl _ _ rfl rfl _ _ (hrz _) ?_)
  go_ret
  refine ⟨_, rfl, ?_, ?_⟩
  · exact World.ownsRow_made (w := w.drew) _ G (Nat.le_refl _) HM.out (by simp [Builtin.zeroCells]; omega)
  · exact (Below.refl _ _).drew.alloc (Nat.le_refl _) _

theorem egrow_any (n : Nat) (w : World) (hn : n ≤ 1000000) : Calls Tryz.prog 100 #[.slice none 0 0, .int .i64 n] w fun e w' =>
    ∃ v, e = .returned v ∧ w'.ownsRow w.heap.size 39 8 v 0 [] ∧ Below w.heap.size w w' := by
  rcases Nat.eq_zero_or_pos n with rfl | h
  · exact (egrow_none w).mono fun _ _ ⟨he, hw⟩ => ⟨_, he, by subst hw; exact World.ownsRow_nil _ _ _ _, by subst hw; exact Below.refl _ _⟩
  · exact egrow_some n w h hn

/-- The bytes of a list of slices. -/
def etot : List (Value × List Le) → List Le
  | [] => []
  | p :: r => p.2 ++ etot r

theorem etot_take (ps : List (Value × List Le)) (k : Nat) (h : k < ps.length) : etot (ps.take (k + 1)) = etot (ps.take k) ++ ps[k].2 := by
  induction ps generalizing k with
  | nil => simp at h
  | cons p r ih =>
    cases k with
    | zero => simp [etot]
    | succ k => simp only [List.take_succ_cons, etot, List.getElem_cons_succ, List.append_assoc]; rw [ih k (by simpa using h)]

theorem etot_le (ps : List (Value × List Le)) (k : Nat) : (etot (ps.take k)).length ≤ (etot ps).length := by
  induction ps generalizing k with
  | nil => simp [etot]
  | cons p r ih =>
    cases k with
    | zero => simp [etot]
    | succ k => simp only [List.take_succ_cons, etot, List.length_append]; have := ih k; omega

set_option maxRecDepth 20000 in
set_option maxHeartbeats 2000000 in
theorem econcat_any (vb vo c : Nat) (ps : List (Value × List Le)) (w : World) (hb : vb < w.heap.size) (hc : ∀ k (h : k < ps.length), w.cell? ⟨vb, vo + k, none⟩ = some ps[k].1)
    (hps : ∀ k (h : k < ps.length), El w w.heap.size ps[k].1 ps[k].2) (hn : ps.length ≤ 1024) (ht : (etot ps).length ≤ 1000000) :
    Calls Tryz.prog 83 #[.slice (some ⟨vb, vo, none⟩) ps.length c] w fun e w' =>
      ∃ v, e = .returned v ∧ w'.ownsRow w.heap.size 39 8 v (etot ps).length (ecs (etot ps)) ∧ Below w.heap.size w w' := by
  obtain ⟨i0, hi0, hzz⟩ := Option.map_eq_some_iff.1 info_lease
  simp only [Prod.mk.injEq] at hzz
  obtain ⟨hz0, hz1, hz2⟩ := hzz
  obtain ⟨L, hL⟩ : ∃ L, L = ps.length := ⟨_, rfl⟩
  have HL := Lib.hid hL
  rw [← hL]
  have hL' : L ≤ 1024 := by omega
  have HC := Lib.hid hc
  have HP := Lib.hid hps
  clear hL hc hps
  go_enter Tryz.func83, Tryz.ntmps83
  go_wp2
  go_loop [3, 5, 11] (fun s _ i => ∃ k : Nat, k ≤ L ∧ i = .int .i64 k ∧ s = .int .i64 (etot (ps.take k)).length) (fun _ _ i => L - (intOf i).toNat)
  case atStart => exact ⟨0, Nat.zero_le _, rfl, rfl⟩
  case round =>
    obtain ⟨k, hk, rfl, rfl⟩ := hrel
    have hle := etot_le ps k
    by_cases hlt : k < L
    · have hkp : k < ps.length := by have := HL.out; omega
      have hcell := HC.out k hkp
      have HT := Lib.hid (congrArg List.length (etot_take ps k hkp))
      have hle1 := etot_le ps (k + 1)
      obtain ⟨A, c1, hA, _, _, hR⟩ := HP.out k hkp
      rw [hA] at hcell
      have HA := Lib.hid hA
      have HR := Lib.hid hR
      have hlen : (ps[k].2).length ≤ 1000000 := by have := HT.out; simp at this; omega
      clear hA hR
      go_wp2
      go_round
      case rel => exact ⟨k + 1, by omega, by go_num, by rw [HT.out]; simp⟩
      case measure => simp [intOf]; omega
    · obtain rfl : k = L := by omega
      have HE := Lib.hid (show ps.take k = ps by rw [HL.out]; simp)
      have hge : ((etot (ps.take k)).length : Int) ≤ 1000000 := by omega
      go_wp2_with fail
      refine (egrow_any (etot (ps.take k)).length w (by omega)).mono ?_
      rintro e w1 ⟨v1, rfl, hown1, hb1⟩
      have Hown1 := Lib.hid hown1
      have Hb1 := Lib.hid hb1
      clear hown1 hb1
      go_wp2
      clear hle hge
      have hk' : k ≤ 1024 := hL'
      go_loopw [6, 8, 27] (fun s _ i wr => ∃ j : Nat, j ≤ k ∧ i = .int .i64 j ∧ wr.ownsRow w.heap.size 39 8 s (etot (ps.take j)).length (ecs (etot (ps.take j))) ∧ Below w.heap.size w wr) (fun _ _ i _ => k - (intOf i).toNat)
      case atStart => exact ⟨0, Nat.zero_le _, rfl, Hown1.out, Hb1.out⟩
      case round =>
        obtain ⟨j, hj, rfl, hown, hbel⟩ := hrel
        have hle := etot_le ps j
        by_cases hlt : j < k
        · have hkp : j < ps.length := by have := HL.out; omega
          have hcell := HC.out j hkp
          have HT := Lib.hid (etot_take ps j hkp)
          have hle1 := etot_le ps (j + 1)
          obtain ⟨A, c1, hA, _, _, hR⟩ := HP.out j hkp
          rw [hA] at hcell
          have hlen : (etot (ps.take j)).length + (ps[j].2).length ≤ 1000000 := by have := congrArg List.length HT.out; simp at this; omega
          rw [← hbel.cell (p := ⟨vb, vo + j, none⟩) hb] at hcell
          have HA := Lib.hid hA
          have HR := Lib.hid (hR.below hbel)
          have HO := Lib.hid hown
          have HB := Lib.hid hbel
          have hsz := hbel.size
          clear hA hR hown hbel
          go_wp2_with (at_builtin; refine wpList_append_rd _ rfl _ _ 22 rfl w.heap.size 39 i0 _ 8 72 Tryz.underlying22 hi0 hz0 hz1 hz2 rfl (by omega) _ _ _ rfl HO.out w.heap.size A _ _ _ rfl HR.out (ecs_one _) (by unfold maxLen; omega) (by omega) hsz ?_; intro v2 w2 hown2 hg2 _)
          have hown3 : w2.ownsRow w.heap.size 39 8 v2 (etot (ps.take (j + 1))).length (ecs (etot (ps.take (j + 1)))) := by
            rw [HT.out, ecs_app, List.length_append]; exact hown2
          have hb3 : Below w.heap.size w w2 := HB.out.grown hg2 hsz (fun g hg => (World.ownsRow.lt HO.out g hg).1)
          have H3 := Lib.hid hown3
          have HB3 := Lib.hid hb3
          clear hown2 hown3 hg2 hb3
          go_wp2
          go_roundw
          case rel => exact ⟨j + 1, by omega, by go_num, H3.out, HB3.out⟩
          case measure => simp [intOf]; omega
        · obtain rfl : j = k := by omega
          have HO := Lib.hid hown
          have HB := Lib.hid hbel
          clear hown hbel
          go_wp2
          go_ret
          exact ⟨_, rfl, by have := HO.out; rwa [HE.out] at this, HB.out⟩


/-- Two slices in an array of the call's own. -/
structure Cc2 (W : World) (g : Nat) (v0 v1 : Value) (l0 l1 : List Le) : Prop where
  c0 : W.cell? ⟨g, 0, none⟩ = some v0
  c1 : W.cell? ⟨g, 1, none⟩ = some v1
  lt : g < W.heap.size
  e0 : El W W.heap.size v0 l0
  e1 : El W W.heap.size v1 l1
theorem Cc2.start {w : World} {v0 v1 : Value} {l0 l1 : List Le} (t : TypeId) (h0 : El w w.heap.size v0 l0) (h1 : El w w.heap.size v1 l1) : Cc2 (w.alloc (.cells #[v0, v1] t)) w.heap.size v0 v1 l0 l1 := by
  have hb := (Below.refl w.heap.size w).alloc (Nat.le_refl _) (.cells #[v0, v1] t)
  refine ⟨?_, ?_, by simp, (h0.below hb).more hb.size, (h1.below hb).more hb.size⟩
  · rw [World.cell?_alloc_new]; rfl
  · rw [World.cell?_alloc_new]; rfl
theorem Cc2.concat {W : World} {g : Nat} {v0 v1 : Value} {l0 l1 : List Le} (h : Cc2 W g v0 v1 l0 l1) (c : Nat) (ht : l0.length + l1.length ≤ 1000000) :
    Calls Tryz.prog 83 #[.slice (some ⟨g, 0, none⟩) 2 c] W fun e w' => ∃ v, e = .returned v ∧ w'.ownsRow W.heap.size 39 8 v (l0 ++ l1).length (ecs (l0 ++ l1)) ∧ Below W.heap.size W w' := by
  refine (econcat_any g 0 c [(v0, l0), (v1, l1)] W h.lt ?_ ?_ (by simp) (by simp [etot]; omega)).mono ?_
  · intro k hk
    rw [Nat.zero_add]
    match k, hk with
    | 0, _ => exact h.c0
    | 1, _ => exact h.c1
  · intro k hk
    match k, hk with
    | 0, _ => exact h.e0
    | 1, _ => exact h.e1
  · rintro e w' ⟨v, he, ho, hb⟩
    have ht : etot [(v0, l0), (v1, l1)] = l0 ++ l1 := by simp [etot]
    rw [ht] at ho
    exact ⟨v, he, ho, hb⟩

theorem eraseIdx_td (l : List Le) (i : Nat) : l.take i ++ l.drop (i + 1) = l.eraseIdx i := (List.eraseIdx_eq_take_drop_succ l i).symm
/-- Nothing is asked of the world. -/
def TruW (_ : World) : Prop := True
/-- A list that the call owns. -/
def EOw (w : World) (l : List Le) (e : Ending) (w' : World) : Prop := ∃ v, e = .returned v ∧ w'.ownsRow w.heap.size 39 8 v l.length (ecs l) ∧ Below w.heap.size w w'
set_option maxHeartbeats 4000000 in
set_option maxRecDepth 20000 in
theorem ewithout_any (A : Option Addr) (n c i : Nat) (l : List Le) (w : World) (hv : El w w.heap.size (.slice A n c) l) (hi : i < n) (h2 : n ≤ 1000) :
    Calls Tryz.prog 54 #[.slice A n c, .int .i64 i] w (EOw w (l.eraseIdx i)) := by
  obtain ⟨hn, hm1, hm2⟩ := hv.len
  have hwr : IntKind.i64.wrap ((i : Int) + 1) = (i : Int) + 1 := IntWalk.i64_in _ (by omega)
  have hcut := run_eupto A n c .i64 i (by omega)
  obtain ⟨A', hA', hcut0⟩ := run_ecut A n c .i64 (i + 1) (by omega)
  have hcut2 : ∀ W, (Instr.slice 22 (.slice A n c) (some (.int .i64 ((i : Int) + 1))) none none).run Tryz.prog W = .ok (.slice A' (n - (i + 1)) (c - (i + 1))) W := fun W => by
    have := hcut0 W
    rwa [show ((i + 1 : Nat) : Int) = (i : Int) + 1 by omega] at this
  have h1 := hv.upto i (by omega)
  have h3 := hv.cut (i + 1) (by omega)
  rw [← hA'] at h3
  have H1 := Lib.hid (show Cc2 ((w.alloc (.cells #[.slice A i c, .slice A' (n - (i + 1)) (c - (i + 1))] 22)).drew) w.heap.size _ _ _ _ from Cc2.start (w := w.drew) 22 (show El w.drew w.drew.heap.size _ _ from h1) (show El w.drew w.drew.heap.size _ _ from h3))
  have HE := Lib.hid (eraseIdx_td l i)
  have HLE := Lib.hid (show (l.take i).length + (l.drop (i + 1)).length ≤ 1000000 by simp; omega)
  have HB := Lib.hid ((Below.refl w.heap.size w).alloc (Nat.le_refl _) (.cells #[.slice A i c, .slice A' (n - (i + 1)) (c - (i + 1))] 22))
  have HC := Lib.hid (fun W g (h : Cc2 W g (.slice A i c) (.slice A' (n - (i + 1)) (c - (i + 1))) (l.take i) (l.drop (i + 1))) => h.concat 2 HLE.out)
  have hic : (i : Int) ≤ (c : Int) := by omega
  have hin : (i : Int) + 1 ≤ (n : Int) := by omega
  have hi0 : (0 : Int) ≤ (i : Int) + 1 := by omega
  clear hv hn h1 h3 hA' hcut0
  go_enter Tryz.func54, Tryz.ntmps54
  go_wp2
  go_region_held3 (fun W => TruW W) (exact trivial)
    (first | (go_at_call 83; (with_reducible refine (HC.out _ _ H1.out).mono ?_); rintro e w1 ⟨v1, rfl, ho1, hb1⟩; have HO1 := Lib.hid ho1; have HB1 := Lib.hid hb1; clear ho1 hb1))
  all_goals
    go_wp2
    go_ret
    exact ⟨_, rfl, by have := HO1.out; rw [HE.out] at this; exact own_low this (by simp), HB.out.drew.trans (HB1.out.mono (by simp))⟩
end Go.Proofs.YtjclhlejbidpgaaGreat
/- Plain: a box of a lease that may be written; Find's answers. -/
namespace Go.Proofs.YtjclhlejbidpgaaGreat
open Go.RowKit
set_option linter.unusedVariables false

/-- A box of a lease that may be written. -/
abbrev RL (W : World) (r : Nat) (X : Le) : Prop := W.cell? ⟨r, 0, none⟩ = some (.int .i64 X.m.id) ∧ W.cell? ⟨r, 1, none⟩ = some (.int .i64 X.m.rt) ∧ W.cell? ⟨r, 2, none⟩ = some (.int .i64 X.m.ep) ∧ W.cell? ⟨r, 3, none⟩ = some (.int .i64 X.m.ct) ∧ W.cell? ⟨r, 4, none⟩ = some (.int .i64 X.m.gn) ∧ W.cell? ⟨r, 5, none⟩ = some (.int .i64 X.m.st) ∧ W.cell? ⟨r, 6, none⟩ = some (.string X.m.bd) ∧ W.cell? ⟨r, 7, none⟩ = some (.int .i64 X.dl) ∧ W.frozen? ⟨r, 0, none⟩ = false ∧ W.frozen? ⟨r, 1, none⟩ = false ∧ W.frozen? ⟨r, 2, none⟩ = false ∧ W.frozen? ⟨r, 3, none⟩ = false ∧ W.frozen? ⟨r, 4, none⟩ = false ∧ W.frozen? ⟨r, 5, none⟩ = false ∧ W.frozen? ⟨r, 6, none⟩ = false ∧ W.frozen? ⟨r, 7, none⟩ = false ∧ r < W.heap.size
theorem RL.below {B : Nat} {W W' : World} {r : Nat} {X : Le} (h : RL W r X) (hb : Below B W W') (hr : r < B) : RL W' r X :=
  ⟨(hb.cell (p := ⟨r, 0, none⟩) hr).trans h.1, (hb.cell (p := ⟨r, 1, none⟩) hr).trans h.2.1, (hb.cell (p := ⟨r, 2, none⟩) hr).trans h.2.2.1, (hb.cell (p := ⟨r, 3, none⟩) hr).trans h.2.2.2.1, (hb.cell (p := ⟨r, 4, none⟩) hr).trans h.2.2.2.2.1, (hb.cell (p := ⟨r, 5, none⟩) hr).trans h.2.2.2.2.2.1, (hb.cell (p := ⟨r, 6, none⟩) hr).trans h.2.2.2.2.2.2.1, (hb.cell (p := ⟨r, 7, none⟩) hr).trans h.2.2.2.2.2.2.2.1, (hb.frozen (p := ⟨r, 0, none⟩) hr).trans h.2.2.2.2.2.2.2.2.1, (hb.frozen (p := ⟨r, 1, none⟩) hr).trans h.2.2.2.2.2.2.2.2.2.1, (hb.frozen (p := ⟨r, 2, none⟩) hr).trans h.2.2.2.2.2.2.2.2.2.2.1, (hb.frozen (p := ⟨r, 3, none⟩) hr).trans h.2.2.2.2.2.2.2.2.2.2.2.1, (hb.frozen (p := ⟨r, 4, none⟩) hr).trans h.2.2.2.2.2.2.2.2.2.2.2.2.1, (hb.frozen (p := ⟨r, 5, none⟩) hr).trans h.2.2.2.2.2.2.2.2.2.2.2.2.2.1, (hb.frozen (p := ⟨r, 6, none⟩) hr).trans h.2.2.2.2.2.2.2.2.2.2.2.2.2.2.1, (hb.frozen (p := ⟨r, 7, none⟩) hr).trans h.2.2.2.2.2.2.2.2.2.2.2.2.2.2.2.1, Nat.lt_of_lt_of_le h.2.2.2.2.2.2.2.2.2.2.2.2.2.2.2.2 hb.size⟩
theorem RL.lt {W : World} {r : Nat} {X : Le} (h : RL W r X) : r < W.heap.size := h.2.2.2.2.2.2.2.2.2.2.2.2.2.2.2.2
theorem RL.start (w : World) (X : Le) (t : TypeId) : RL (w.alloc (.cells #[.int .i64 X.m.id, .int .i64 X.m.rt, .int .i64 X.m.ep, .int .i64 X.m.ct, .int .i64 X.m.gn, .int .i64 X.m.st, .string X.m.bd, .int .i64 X.dl] t)) w.heap.size X :=
  ⟨by simp [go_sem], by simp [go_sem], by simp [go_sem], by simp [go_sem], by simp [go_sem], by simp [go_sem], by simp [go_sem], by simp [go_sem], by simp [go_sem], by simp [go_sem], by simp [go_sem], by simp [go_sem], by simp [go_sem], by simp [go_sem], by simp [go_sem], by simp [go_sem], by simp⟩
theorem fn_no {l : List Le} {h : List Du} {id : Int} (hn : ¬ (tbV l h = 0 ∧ 0 ≤ kFi Le.id l id)) : fnO l h id = false ∧ fnX l h id = zL := by
  have e : fnO l h id = false := decide_eq_false hn
  exact ⟨e, by unfold fnX; rw [if_neg (by rw [e]; decide)]⟩
theorem fn_yes {l : List Le} {h : List Du} {id : Int} {k : Nat} (h0 : tbV l h = 0) (hk : k < l.length) (e : kFi Le.id l id = k) : fnO l h id = true ∧ fnX l h id = l[k] := by
  have e1 : fnO l h id = true := decide_eq_true ⟨h0, by omega⟩
  exact ⟨e1, by unfold fnX; rw [if_pos e1, e, Int.toNat_natCast, lg_get hk]⟩

end Go.Proofs.YtjclhlejbidpgaaGreat
