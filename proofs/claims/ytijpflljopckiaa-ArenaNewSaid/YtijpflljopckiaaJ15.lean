/- What is proved here: (plain) a change of a valid directory gives a valid one; math/bits.Mul of one and a small number; slices.Repeat of one number; (plain) moves that keep 'nothing below B is turned', for the keep argument of a drawn region; what a loop holds that builds a new directory in a box. -/
import Derived.Test.YtijpflljopckiaaJ01
import Derived.Test.YtijpflljopckiaaRows
import Derived.Test.YtijpflljopckiaaJ02
import Derived.WalkKit
import Derived.Outline
import Derived.IntWalk
import Derived.Test.YtijpflljopckiaaJ14
import Derived.OwnWalk
namespace Go.Proofs.Ytijpflljopckiaa
set_option linter.unusedVariables false

/-- Spans from n on, up to before m. -/
def chN : Int → List Sp → Int → Prop
  | n, [], m => n = m
  | n, x :: l, m => x.lo = n ∧ x.lo ≤ x.hi ∧ x.hi ≤ 65535 ∧ chN (x.hi + 1) l m
theorem ch_app (n : Int) (a b : List Sp) (m : Int) : chN n (a ++ b) m ↔ ∃ k, chN n a k ∧ chN k b m := by
  induction a generalizing n with
  | nil => simp [chN]
  | cons x a ih =>
    simp only [List.cons_append, chN, ih]
    constructor
    · rintro ⟨h1, h2, h3, k, h4, h5⟩
      exact ⟨k, ⟨h1, h2, h3, h4⟩, h5⟩
    · rintro ⟨k, ⟨h1, h2, h3, h4⟩, h5⟩
      exact ⟨h1, h2, h3, k, h4, h5⟩
/-- A valid list of spans. -/
structure OkL (n : Nat) (l : List Sp) : Prop where
  ch : chN 0 l 65536
  ms : ∀ x ∈ l, slotP n x.sh
  nd : (l.map (·.sh)).Nodup
/-- A split. -/
theorem OkL.split {n : Nat} {A B : List Sp} {x : Sp} {md t9 : Int} (h : OkL n (A ++ x :: B)) (h1 : x.lo ≤ md ∧ md < x.hi) (h2 : slotP n t9) (h3 : ∀ y ∈ A ++ x :: B, y.sh ≠ t9) : OkL n (A ++ ⟨x.lo, md, x.sh⟩ :: ⟨md + 1, x.hi, t9⟩ :: B) := by
  obtain ⟨k, c1, c2, c3, c4, c5⟩ := (ch_app _ _ _ _).1 h.ch
  refine ⟨(ch_app _ _ _ _).2 ⟨k, c1, c2, h1.1, by show md ≤ 65535; omega, rfl, by show md + 1 ≤ x.hi; omega, c4, c5⟩, fun y hy => ?_, ?_⟩
  · rw [List.mem_append, List.mem_cons, List.mem_cons] at hy
    rcases hy with hy | rfl | rfl | hy
    · exact h.ms y (by simp [hy])
    · exact h.ms x (by simp)
    · exact h2
    · exact h.ms y (by simp [hy])
  · have e : (A ++ (⟨x.lo, md, x.sh⟩ : Sp) :: ⟨md + 1, x.hi, t9⟩ :: B).map (·.sh) = (A.map (·.sh) ++ [x.sh]) ++ t9 :: B.map (·.sh) := by simp
    rw [e]
    refine (List.perm_middle.nodup_iff).2 (List.nodup_cons.2 ⟨fun hm => ?_, ?_⟩)
    · have hm' : t9 ∈ (A ++ x :: B).map (·.sh) := by simpa using hm
      obtain ⟨y, hy, he⟩ := List.mem_map.1 hm'
      exact h3 y hy he
    · have := h.nd
      simpa using this
/-- A merge. -/
theorem OkL.merge {n : Nat} {A B : List Sp} {x y : Sp} {t9 : Int} (h : OkL n (A ++ x :: y :: B)) (h1 : t9 = x.sh ∨ t9 = y.sh) : OkL n (A ++ ⟨x.lo, y.hi, t9⟩ :: B) := by
  obtain ⟨k, c1, c2, c3, c4, c5, c6, c7, c8⟩ := (ch_app _ _ _ _).1 h.ch
  refine ⟨(ch_app _ _ _ _).2 ⟨k, c1, c2, by show x.lo ≤ y.hi; omega, c7, c8⟩, fun z hz => ?_, ?_⟩
  · rw [List.mem_append, List.mem_cons] at hz
    rcases hz with hz | rfl | hz
    · exact h.ms z (by simp [hz])
    · rcases h1 with rfl | rfl
      · exact h.ms x (by simp)
      · exact h.ms y (by simp)
    · exact h.ms z (by simp [hz])
  · have hn := h.nd
    have e : (A ++ (⟨x.lo, y.hi, t9⟩ : Sp) :: B).map (·.sh) = A.map (·.sh) ++ t9 :: B.map (·.sh) := by simp
    have e2 : (A ++ x :: y :: B).map (·.sh) = A.map (·.sh) ++ x.sh :: y.sh :: B.map (·.sh) := by simp
    rw [e]
    rw [e2] at hn
    rcases h1 with rfl | rfl
    · exact List.Pairwise.sublist (List.Sublist.append_left (List.Sublist.cons_cons _ (List.sublist_cons_self _ _)) _) hn
    · exact List.Pairwise.sublist (List.Sublist.append_left (List.sublist_cons_self _ _) _) hn
end Go.Proofs.Ytijpflljopckiaa
namespace Go.Proofs.Ytijpflljopckiaa
open Go.RowKit
set_option linter.unusedVariables false

def MuP (n : Nat) (w : World) (e : Ending) (w' : World) : Prop := e = .returned (.tuple #[.int .u64 0, .int .u64 (n : Int)]) ∧ w = w'
set_option maxHeartbeats 8000000 in
set_option maxRecDepth 200000 in
theorem mul64_one (n : Nat) (hn : n ≤ 6) (w : World) : Calls Try.prog 109 #[.int .u64 1, .int .u64 (n : Int)] w (MuP n w) := by
  have hc : n = 0 ∨ n = 1 ∨ n = 2 ∨ n = 3 ∨ n = 4 ∨ n = 5 ∨ n = 6 := by omega
  clear hn
  rcases hc with rfl | rfl | rfl | rfl | rfl | rfl | rfl
  all_goals
    go_enter Try.func109, Try.ntmps109
    go_wp2
    go_ret2
    exact ⟨rfl, rfl⟩
theorem mul_one (n : Nat) (hn : n ≤ 6) (w : World) : Calls Try.prog 92 #[.int .u64 1, .int .u64 (n : Int)] w (MuP n w) := by
  have HL := Lib.hid (mul64_one n hn)
  have h0 : (0 : Int) ≤ n := by omega
  have h1 : (n : Int) ≤ 6 := by omega
  clear hn
  go_enter Try.func92, Try.ntmps92
  go_wp2_with fail
  refine (HL.out _).mono ?_
  rintro e w1 ⟨rfl, rfl⟩
  go_wp2
  go_ret2
  exact ⟨rfl, rfl⟩
end Go.Proofs.Ytijpflljopckiaa
namespace Go.Proofs.Ytijpflljopckiaa
open Go.RowKit
set_option linter.unusedVariables false

def RpTru (_ : World) : Prop := True
theorem run_make_ints (n : Nat) (h : n ≤ 1000000) (w : World) : (Instr.makeSlice 22 (.int .i64 n) (.int .i64 n)).run Try.prog w = .ok (.slice (some ⟨w.heap.size, 0, none⟩) n n) (w.alloc (.cells (madeCells #[.int .i64 0] (n * 1)) 3)) := by
  obtain ⟨i0, hi0, hz0⟩ := Option.map_eq_some_iff.1 info_ni
  simp only [Prod.mk.injEq] at hz0
  have hr := run_make (P := Try.prog) w 22 3 i0 (.int .i64 0) Try.underlying22 hi0 hz0.1 .i64 .i64 n n (by omega) (Int.le_refl _) (by rw [hz0.2.2]; omega) (by omega)
  simp only [Int.toNat_natCast] at hr
  rw [hz0.2.1] at hr
  exact hr
/-- The loop's row: k numbers are laid. -/
structure RpAt (w : World) (g n k : Nat) (W : World) : Prop where
  k0 : 1 ≤ k
  kn : k ≤ n
  row : ∃ cur, Rw W g 3 cur ∧ cur.length = n ∧ cur.take k = ics (List.replicate k (-1))
  bel : Below g w W
  gw : g = w.heap.size
theorem ics_rep_add (a b : Nat) : ics (List.replicate a (-1)) ++ ics (List.replicate b (-1)) = ics (List.replicate (a + b) (-1)) := by
  rw [← ics_app, List.replicate_append_replicate]
theorem rp_start {w W0 : World} {g n : Nat} {cur : List Value} (h1 : 1 ≤ n) (hg : g = w.heap.size) (hr : Rw W0 g 3 cur) (hl : cur.length = n) (hb : Below g w W0) : RpAt w g n 1 (W0.setRow g (splice cur 0 (ics [-1])).toArray) := by
  refine ⟨Nat.le_refl _, h1, ⟨_, Rw.set hr 0 _, by rw [splice_len _ _ _ (by rw [hl]; exact h1), hl], ?_⟩, hb.grown (grown_setRow W0 g _) (by rw [hg]; exact hb.size) (fun k e => by injection e with e; subst e; exact Nat.le_refl _), hg⟩
  unfold splice; rfl
theorem rp_fin {w W : World} {g n : Nat} (h : RpAt w g n n W) (hm : n ≤ maxLen) : NIClP w (List.replicate n (-1)) (.returned (.slice (some ⟨g, 0, none⟩) n n)) W := by
  obtain ⟨cur, hr, hl, ht⟩ := h.row
  have hb := h.bel
  have hg := h.gw
  subst hg
  refine ⟨_, rfl, ?_, hb⟩
  rw [List.length_replicate]
  exact Rw.own hr (Nat.le_refl _) (Nat.le_refl _) hm (by rw [hl, Nat.mul_one]) (by rw [Nat.mul_one]; exact ht)
theorem rp_step {w W : World} {g n k m : Nat} (h : RpAt w g n k W) (hm : Nat.min k (n - k) = m) : (∀ ty, (Builtin.copy_ #[22, 22] ty #[.slice (some ⟨g, k, none⟩) (n - k) (n - k), .slice (some ⟨g, 0, none⟩) k n]).run Try.prog W.drew = .ok (goInt m) (W.drew.setRow g (splice (h.row.choose) k (ics (List.replicate m (-1)))).toArray)) ∧ (k < n → RpAt w g n (k + m) (W.drew.setRow g (splice (h.row.choose) k (ics (List.replicate m (-1)))).toArray)) := by
  obtain ⟨hr, hl, ht⟩ := h.row.choose_spec
  generalize h.row.choose = cur at *
  have hk0 := h.k0
  have hkn := h.kn
  have hmm : m ≤ k ∧ m ≤ n - k := ⟨hm ▸ Nat.min_le_left _ _, hm ▸ Nat.min_le_right _ _⟩
  have hlm : (ics (List.replicate m (-1))).length = m := by rw [ics_len]; simp
  constructor
  · intro ty
    rw [← hm]
    rw [← hm] at hlm hmm
    exact run_copy_sized W.drew 22 22 ty 3 1 g k (n - k) (n - k) ⟨g, 0, none⟩ k n cur 3 _ Try.underlying22 (by obtain ⟨i0, hi0, hz0⟩ := Option.map_eq_some_iff.1 info_ni; simp only [Prod.mk.injEq] at hz0; rw [hi0]; simp [hz0.2.1]) hr (by rw [hlm, Nat.mul_one]) (fun j v hj => by
      rw [add_mk, Nat.zero_add]
      have hjm : j < Nat.min k (n - k) := by have := (List.getElem?_eq_some_iff.1 hj).1; rw [hlm] at this; exact this
      refine Rw.cell hr ?_
      have h1 : cur[j]? = (cur.take k)[j]? := by rw [List.getElem?_take_of_lt (by omega)]
      rw [h1, ht, ← hj]
      have hjk : j < k := by have := hmm.1; omega
      simp [ics, List.getElem?_replicate, hjk]
      exact hjm) (by rw [hlm, hl]; omega) (ics_one _)
  · intro hkn'
    refine ⟨by omega, by omega, ⟨_, Rw.set (show Rw W.drew g 3 cur from hr) k _, by rw [splice_len _ _ _ (by rw [hlm, hl]; omega), hl], ?_⟩, h.bel.drew.grown (grown_setRow W.drew g _) (by rw [h.gw]; exact h.bel.size) (fun k e => by injection e with e; subst e; exact Nat.le_refl _), h.gw⟩
    rw [← ics_rep_add, ← ht]
    unfold splice
    rw [← List.append_assoc]
    exact List.take_left' (by rw [List.length_append, hlm, List.length_take, hl, Nat.min_eq_left hkn])

set_option maxHeartbeats 4000000 in
set_option maxRecDepth 20000 in
theorem repeat_one (xb n : Nat) (w : World) (h1 : 1 ≤ n) (h6 : n ≤ 6) (hx : w.cell? ⟨xb, 0, none⟩ = some (.int .i64 (-1))) (hl : xb < w.heap.size) :
    Calls Try.prog 65 #[.slice (some ⟨xb, 0, none⟩) 1 1, .int .i64 (n : Int)] w (NIClP w (List.replicate n (-1))) := by
  have HM := Lib.hid (mul_one n h6)
  have h0 : ((n : Int) < 0) = False := by simp
  have hc1 : IntKind.u64.wrap (n : Int) = n := by rw [IntKind.wrap_u64]; omega
  have hc2 : IntKind.i64.wrap (n : Int) = n := IntWalk.i64_in _ (by omega)
  have hn2 : ¬ ((9223372036854775807 : Int) < n) := by omega
  obtain ⟨g, hg⟩ : ∃ g, g = w.heap.size := ⟨_, rfl⟩
  have hmk := run_make_ints n (by omega) w
  rw [← hg] at hmk
  obtain ⟨W0, hW0⟩ : ∃ W0, W0 = w.alloc (.cells (madeCells #[.int .i64 0] (n * 1)) 3) := ⟨_, rfl⟩
  have hR0 : Rw W0 g 3 (madeCells #[.int .i64 0] (n * 1)).toList := by rw [hW0, hg]; exact Rw.fresh w _ _
  have hL0 : (madeCells #[.int .i64 0] (n * 1)).toList.length = n := by simp [size_madeCells]
  have hB0 : Below g w W0 := by rw [hW0, hg]; exact (Below.refl _ _).alloc (Nat.le_refl _) _
  rw [← hW0] at hmk
  generalize (madeCells #[.int .i64 0] (n * 1)).toList = cur0 at *
  have hcp : ∀ ty, (Builtin.copy_ #[22, 22] ty #[.slice (some ⟨g, 0, none⟩) n n, .slice (some ⟨xb, 0, none⟩) 1 1]).run Try.prog W0 = .ok (goInt (Nat.min 1 n)) (W0.setRow g (splice cur0 0 (ics [-1])).toArray) := fun ty =>
    run_copy_sized W0 22 22 ty 3 1 g 0 n n ⟨xb, 0, none⟩ 1 1 cur0 3 (ics [-1]) Try.underlying22 (by obtain ⟨i0, hi0, hz0⟩ := Option.map_eq_some_iff.1 info_ni; simp only [Prod.mk.injEq] at hz0; rw [hi0]; simp [hz0.2.1]) hR0 (by rw [show Nat.min 1 n = 1 from Nat.min_eq_left h1]; rfl) (fun j v hj => by
      rw [add_mk, Nat.zero_add]
      cases j with
      | zero => exact (hB0.cell (p := ⟨xb, 0, none⟩) (by rw [hg]; exact hl)).trans (by rw [hx]; exact hj)
      | succ j => simp [ics] at hj) (by rw [hL0]; exact h1) (ics_one _)
  rw [show Nat.min 1 n = 1 from Nat.min_eq_left h1] at hcp
  have HS := Lib.hid (rp_start h1 hg hR0 hL0 hB0)
  generalize W0.setRow g (splice cur0 0 (ics [-1])).toArray = W1 at *
  clear hR0 hL0 hB0 hW0 hx hl
  have HG := Lib.hid hg
  clear hg
  go_enter Try.func65, Try.ntmps65
  go_wp2_with fail
  refine (HM.out _).mono ?_
  rintro e w1 ⟨rfl, rfl⟩
  go_wp2_with fail
  go_loopw [8] (fun kv wr => ∃ k : Nat, kv = .int .i64 k ∧ Hid (RpAt w g n k wr)) (fun kv _ => n - (intOf kv).toNat)
  case atStart => exact ⟨1, rfl, HS⟩
  case round =>
    obtain ⟨k, rfl, HR⟩ := hrel
    by_cases hkn : k < n
    · obtain ⟨m, hm⟩ : ∃ m, Nat.min k (n - k) = m := ⟨_, rfl⟩
      obtain ⟨hcp2, hnx⟩ := rp_step HR.out hm
      have HN := Lib.hid (hnx hkn)
      have HMM := Lib.hid (show 1 ≤ m ∧ k + m ≤ n by have := HR.out.k0; rw [← hm]; show 1 ≤ min k (n - k) ∧ k + min k (n - k) ≤ n; omega)
      have hsum : IntKind.i64.wrap ((k : Int) + (m : Int)) = ((k + m : Nat) : Int) := by rw [IntWalk.i64_in _ (by have := HMM.out; omega)]; omega
      have hsum2 : wrap64 ((k : Int) + (m : Int)) = ((k + m : Nat) : Int) := by rw [IntWalk.wrap64_in _ (by have := HMM.out; omega)]; omega
      generalize wr.drew.setRow g _ = W2 at *
      have hlt : (k : Int) < (n : Int) := by omega
      have hle : k ≤ n := by omega
      have hnk : ¬ n = k := by omega
      clear hnx hm hcp hmk
      go_wp2
      go_region_held3 (fun W => RpTru W) (exact trivial) (first | (fail))
      go_wp2
      go_roundw
      case rel => exact ⟨k + m, by rw [Int.natCast_add], HN⟩
      case measure => have := HMM.out; simp [intOf]; omega
    · have hke : k = n := by have := HR.out.kn; omega
      subst hke
      have HF := Lib.hid (rp_fin HR.out (by unfold maxLen; omega))
      clear hkn
      have hlt : ¬ ((k : Int) < (k : Int)) := by omega
      go_wp2
      go_ret
      exact HF.out
end Go.Proofs.Ytijpflljopckiaa
namespace Go.Proofs.Ytijpflljopckiaa
open Go.RowKit
theorem dal {B : Nat} {a W : World} {o : Obj} (h : Below B a W) (h1 : B ≤ W.heap.size) : Below B a (W.alloc o) := h.alloc h1 o
theorem dst {B : Nat} {a W : World} {x : Addr} {v : Value} (h : Below B a W) (h1 : B ≤ x.block) : Below B a (W.setCell x v) := h.setCell h1 v
theorem ddr {B : Nat} {a W : World} (h : Below B a W) : Below B a W.drew := h.drew
end Go.Proofs.Ytijpflljopckiaa
namespace Go.Proofs.Ytijpflljopckiaa
open Go.RowKit
set_option linter.unusedVariables false

/-- The first k spans of n. -/
def nwL (n k : Nat) : List Sp := (List.range k).map fun (i : Nat) => ⟨(i : Int) * 65536 / n, ((i : Int) + 1) * 65536 / n - 1, i⟩
theorem nwL_succ (n k : Nat) : nwL n (k + 1) = nwL n k ++ [⟨(k : Int) * 65536 / n, ((k : Int) + 1) * 65536 / n - 1, k⟩] := by simp [nwL, List.range_succ]
theorem nwL_len (n k : Nat) : (nwL n k).length = k := by simp [nwL]
def nwE10 (s l : Int) : Int := if 1 ≤ s ∧ s ≤ 6 ∧ 1 ≤ l ∧ l ≤ s then 0 else 1
def nwD (s l : Int) : Dd := if nwE10 s l = 0 then ⟨1, nwL l.toNat l.toNat, List.replicate s.toNat (-1)⟩ else zD10

/-- A result box, and a box of a directory whose lists the call owns. -/
structure NA (w : World) (r y : Nat) (d : Dd) (X : Dx) (W : World) : Prop where
  rb : Db10 W r zD10 zDx
  xb : Db10 W y d X
  ol : W.ownsRow (r + 1) 115 3 (.slice X.A d.l.length X.c) d.l.length (scs d.l)
  of : W.ownsRow (r + 1) 3 1 (.slice X.A2 d.F.length X.c2) d.F.length (ics d.F)
  d1 : ∀ k, (Value.slice X.A d.l.length X.c).ownBlock = some k → (Value.slice X.A2 d.F.length X.c2).ownBlock ≠ some k
  d2 : ∀ k, (Value.slice X.A d.l.length X.c).ownBlock = some k → k ≠ y
  d3 : ∀ k, (Value.slice X.A2 d.F.length X.c2).ownBlock = some k → k ≠ y
  ne : r = w.heap.size ∧ r < y
  bel : Below w.heap.size w W
theorem Db10.grownO {W W' : World} {p : Nat} {d : Dd} {X : Dx} {ob : Option Nat} (h : Db10 W p d X) (hg : W.grownBy W' ob) (hne : ob ≠ some p) : Db10 W' p d X :=
  h.keep (fun o => hg.cell_far ⟨p, o, none⟩ h.lt (fun e => hne e.symm)) (fun o => hg.frozen_far ⟨p, o, none⟩ h.lt (fun e => hne e.symm)) hg.size
theorem own_farO {W W' : World} {base size n : Nat} {ob : Option Nat} {t : TypeId} {v : Value} {xs : List Value} (h : W.ownsRow base t size v n xs) (hg : W.grownBy W' ob) (hne : ∀ k, v.ownBlock = some k → ob ≠ some k) : W'.ownsRow base t size v n xs :=
  ⟨h.1, h.2.imp_right fun ⟨k, cap, cur, hv, hk, hh, rr⟩ => ⟨k, cap, cur, hv, hk, (hg.block k (Array.getElem?_eq_some_iff.1 hh).1 (by
    have := hne k (by rw [hv]; rfl)
    exact fun e => this e.symm)).trans hh, rr⟩⟩
section
variable {w W W' : World} {r y : Nat} {d : Dd} {X : Dx}
theorem NA.below (h : NA w r y d X W) (hb : Below W.heap.size W W') : NA w r y d X W' :=
  ⟨h.rb.up hb, h.xb.up hb, own_up10 h.ol hb, own_up10 h.of hb, h.d1, h.d2, h.d3, h.ne, h.bel.trans (hb.mono h.bel.size)⟩
theorem NA.drew (h : NA w r y d X W) : NA w r y d X W.drew := h.below (Below.refl _ _).drew
theorem NA.alloc (h : NA w r y d X W) (o : Obj) : NA w r y d X (W.alloc o) := h.below ((Below.refl _ _).alloc (Nat.le_refl _) o)
theorem NA.start {F : List Int} {A2 : Option Addr} {c2 : Nat} (hr : r = w.heap.size) (hb : Below w.heap.size w W) (hd : Db10 W r zD10 zDx) (hf : W.ownsRow (r + 1) 3 1 (.slice A2 F.length c2) F.length (ics F)) (t : TypeId) :
    NA w r W.heap.size ⟨1, [], F⟩ ⟨none, 0, A2, c2⟩ (W.alloc (.cells #[.int .i64 1, .slice none 0 0, .slice A2 F.length c2] t)) := by
  have hlt := hd.lt
  have hs := hb.size
  have hk : ∀ k, (Value.slice A2 F.length c2).ownBlock = some k → k ≠ W.heap.size := fun k e => by have := (hf.lt k e).2; omega
  exact ⟨hd.alloc _, Db10.start W ⟨1, [], F⟩ ⟨none, 0, A2, c2⟩ t, World.ownsRow_nil _ _ _ _, own_up10 hf ((Below.refl _ _).alloc (Nat.le_refl _) _), fun k e => by simp [Value.ownBlock] at e, fun k e => by simp [Value.ownBlock] at e, hk, ⟨hr, hlt⟩, hb.alloc hs _⟩
theorem NA.nw (h : NA w r y d X W) : X.nw w.heap.size := by
  have := h.ne
  exact ⟨nwv_of (nwv_own h.ol (by omega)), nwv_of (nwv_own h.of (by omega))⟩
theorem NA.dr (h : NA w r y d X W) : DR W W.heap.size d X := ⟨Pl.of_own h.ol, Fl.of_own h.of⟩
/-- A span is appended. -/
theorem NA.app (h : NA w r y d X W) {S : Sp} {g cap : Nat} (ho : W'.ownsRow (r + 1) 115 3 (.slice (some ⟨g, 0, none⟩) (d.l.length + 1) cap) (d.l.length + 1) (scs d.l ++ S.l)) (hg : W.grownBy W' (Value.slice X.A d.l.length X.c).ownBlock) (hat : (Value.slice X.A d.l.length X.c).ownBlock = some g ∨ g = W.heap.size) :
    (W'.cell? ⟨y, 1, none⟩ = some (.slice X.A d.l.length X.c) ∧ W'.frozen? ⟨y, 1, none⟩ = false ∧ y < W'.heap.size) ∧ NA w r y ⟨d.vn, d.l ++ [S], d.F⟩ ⟨some ⟨g, 0, none⟩, cap, X.A2, X.c2⟩ (W'.setCell ⟨y, 1, none⟩ (.slice (some ⟨g, 0, none⟩) (d.l.length + 1) cap)) := by
  have hn := h.ne
  have hrl := h.rb.lt
  have hor : (Value.slice X.A d.l.length X.c).ownBlock ≠ some r := fun e => by have := (h.ol.lt r e).1; omega
  have hoy : (Value.slice X.A d.l.length X.c).ownBlock ≠ some y := fun e => h.d2 y e rfl
  have hx := h.xb.grownO hg hoy
  have hr := h.rb.grownO hg hor
  have hf := own_farO h.of hg fun k hk e => h.d1 k e hk
  have hgy : g ≠ y := by
    rcases hat with e | e
    · exact h.d2 g e
    · have := h.xb.lt; omega
  have hb : Below w.heap.size w W' := h.bel.grown hg h.bel.size fun k hk => by have := (h.ol.lt k hk).1; omega
  refine ⟨⟨hx.c1, hx.fr 1, hx.lt⟩, hr.other (a := ⟨y, 1, none⟩) (by show y ≠ r; omega) _, ⟨?_, ?_, ?_, fun o => ?_, ?_⟩, ?_, own_oth hf (fun k hk => h.d3 k hk) _, fun k hk e => ?_, fun k hk => ?_, h.d3, h.ne, hb.setCell (p := ⟨y, 1, none⟩) (show w.heap.size ≤ y by omega) _⟩
  · simpa [go_sem] using hx.c0
  · simp [go_sem, hx.c1]
  · simpa [go_sem] using hx.c2
  · simpa [go_sem] using hx.fr o
  · simpa using hx.lt
  · have k := own_oth ho (a := ⟨y, 1, none⟩) (fun k hk => by simp [Value.ownBlock] at hk; subst hk; exact hgy) (.slice (some ⟨g, 0, none⟩) (d.l.length + 1) cap)
    have e1 : scs (d.l ++ [S]) = scs d.l ++ S.l := by simp [scs]
    show World.ownsRow _ _ _ _ (.slice (some ⟨g, 0, none⟩) (d.l ++ [S]).length cap) (d.l ++ [S]).length (scs (d.l ++ [S]))
    rw [e1, List.length_append, List.length_singleton]
    exact k
  · simp [Value.ownBlock] at hk
    subst hk
    rcases hat with e2 | e2
    · exact h.d1 _ e2 e
    · have := (h.of.lt _ e).2; omega
  · simp [Value.ownBlock] at hk
    subst hk
    exact hgy
theorem NA.out (h : NA w r y d X W) : DE w.heap.size w d 0 (.returned (.tuple #[dv d X, .int .i64 0])) (((W.setCell ⟨r, 0, none⟩ (.int .i64 d.vn)).setCell ⟨r, 1, none⟩ (.slice X.A d.l.length X.c)).setCell ⟨r, 2, none⟩ (.slice X.A2 d.F.length X.c2)) := by
  have hp := h.ne
  have hl : Pl W r.succ (.slice X.A d.l.length X.c) d.l ∨ True := .inr trivial
  have n1 : X.nw (r + 1) := ⟨nwv_of (nwv_own h.ol (Nat.le_refl _)), nwv_of (nwv_own h.of (Nat.le_refl _))⟩
  have f : ∀ o, DOff d X (⟨r, o, none⟩ : Addr).block := fun o => n1.off (Nat.lt_succ_self r)
  exact ⟨X, rfl, h.nw, (((h.dr.offp (q := ⟨r, 0, none⟩) (f 0) _).offp (q := ⟨r, 1, none⟩) (f 1) _).offp (q := ⟨r, 2, none⟩) (f 2) _).more (by simp), ((h.bel.setCell (p := ⟨r, 0, none⟩) (show w.heap.size ≤ r by omega) _).setCell (p := ⟨r, 1, none⟩) (show w.heap.size ≤ r by omega) _).setCell (p := ⟨r, 2, none⟩) (show w.heap.size ≤ r by omega) _⟩
end
/-- The answer 'no'. -/
theorem new_out0 {w W : World} {r : Nat} (hr : r = w.heap.size) (hb : Below w.heap.size w W) (x : Int) : DE w.heap.size w zD10 x (.returned (.tuple #[.agg #[.int .i64 0, .slice none 0 0, .slice none 0 0], .int .i64 x])) (((W.setCell ⟨r, 0, none⟩ (.int .i64 0)).setCell ⟨r, 1, none⟩ (.slice none 0 0)).setCell ⟨r, 2, none⟩ (.slice none 0 0)) :=
  ⟨zDx, rfl, zDx_nw _, DR.zero, ((hb.setCell (p := ⟨r, 0, none⟩) (show w.heap.size ≤ r by omega) _).setCell (p := ⟨r, 1, none⟩) (show w.heap.size ≤ r by omega) _).setCell (p := ⟨r, 2, none⟩) (show w.heap.size ≤ r by omega) _⟩
end Go.Proofs.Ytijpflljopckiaa
