/- What is proved here: math/bits.Mul of one and a small number; slices.Repeat of one number; (plain) moves that keep 'nothing below B is turned', for the keep argument of a drawn region; what a loop holds that builds a new directory in a box; directory.slotTest, Validate's closure, slices.ContainsFunc over it, hasSameShard, isForwardValid by contracts. -/
import Derived.Test.YtijpflljopckiaaRows
import Derived.Test.YtijpflljopckiaaJ02
import Derived.WalkKit
import Derived.Outline
import Derived.IntWalk
import Derived.Test.YtijpflljopckiaaJ13
import Derived.Test.YtijpflljopckiaaJ14
import Derived.OwnWalk
namespace Go.Proofs.Ytijpflljopckiaa
open Go.RowKit
set_option linter.unusedVariables false

def MuP (n : Nat) (w : World) (e : Ending) (w' : World) : Prop := e = .returned (.tuple #[.int .u64 0, .int .u64 (n : Int)]) ∧ w = w'
set_option maxHeartbeats 8000000 in
set_option maxRecDepth 200000 in
theorem mul64_one (n : Nat) (hn : n ≤ 6) (w : World) : Calls Try.prog 109 #[.int .u64 1, .int .u64 (n : Int)] w (MuP n w) := by
  have hc : n = 0 ∨ n = 1 ∨ n = 2 ∨ n = 3 ∨ n = 4 ∨ n = 5 ∨ n = 6 := by omega
  clear hn
  rcases hc with rfl | rfl | rfl | rfl | rfl | rfl | rfl
  all_goals
    go_enter Try.func109, Try.ntmps109
    go_wp2
    go_ret2
    exact ⟨rfl, rfl⟩
theorem mul_one (n : Nat) (hn : n ≤ 6) (w : World) : Calls Try.prog 92 #[.int .u64 1, .int .u64 (n : Int)] w (MuP n w) := by
  have HL := Lib.hid (mul64_one n hn)
  have h0 : (0 : Int) ≤ n := by omega
  have h1 : (n : Int) ≤ 6 := by omega
  clear hn
  go_enter Try.func92, Try.ntmps92
  go_wp2_with fail
  refine (HL.out _).mono ?_
  rintro e w1 ⟨rfl, rfl⟩
  go_wp2
  go_ret2
  exact ⟨rfl, rfl⟩
end Go.Proofs.Ytijpflljopckiaa
namespace Go.Proofs.Ytijpflljopckiaa
open Go.RowKit
set_option linter.unusedVariables false

def RpTru (_ : World) : Prop := True
theorem run_make_ints (n : Nat) (h : n ≤ 1000000) (w : World) : (Instr.makeSlice 22 (.int .i64 n) (.int .i64 n)).run Try.prog w = .ok (.slice (some ⟨w.heap.size, 0, none⟩) n n) (w.alloc (.cells (madeCells #[.int .i64 0] (n * 1)) 3)) := by
  obtain ⟨i0, hi0, hz0⟩ := Option.map_eq_some_iff.1 info_ni
  simp only [Prod.mk.injEq] at hz0
  have hr := run_make (P := Try.prog) w 22 3 i0 (.int .i64 0) Try.underlying22 hi0 hz0.1 .i64 .i64 n n (by omega) (Int.le_refl _) (by rw [hz0.2.2]; omega) (by omega)
  simp only [Int.toNat_natCast] at hr
  rw [hz0.2.1] at hr
  exact hr
/-- The loop's row: k numbers are laid. -/
structure RpAt (w : World) (g n k : Nat) (W : World) : Prop where
  k0 : 1 ≤ k
  kn : k ≤ n
  row : ∃ cur, Rw W g 3 cur ∧ cur.length = n ∧ cur.take k = ics (List.replicate k (-1))
  bel : Below g w W
  gw : g = w.heap.size
theorem ics_rep_add (a b : Nat) : ics (List.replicate a (-1)) ++ ics (List.replicate b (-1)) = ics (List.replicate (a + b) (-1)) := by
  rw [← ics_app, List.replicate_append_replicate]
theorem rp_start {w W0 : World} {g n : Nat} {cur : List Value} (h1 : 1 ≤ n) (hg : g = w.heap.size) (hr : Rw W0 g 3 cur) (hl : cur.length = n) (hb : Below g w W0) : RpAt w g n 1 (W0.setRow g (splice cur 0 (ics [-1])).toArray) := by
  refine ⟨Nat.le_refl _, h1, ⟨_, Rw.set hr 0 _, by rw [splice_len _ _ _ (by rw [hl]; exact h1), hl], ?_⟩, hb.grown (grown_setRow W0 g _) (by rw [hg]; exact hb.size) (fun k e => by injection e with e; subst e; exact Nat.le_refl _), hg⟩
  unfold splice; rfl
theorem rp_fin {w W : World} {g n : Nat} (h : RpAt w g n n W) (hm : n ≤ maxLen) : NIClP w (List.replicate n (-1)) (.returned (.slice (some ⟨g, 0, none⟩) n n)) W := by
  obtain ⟨cur, hr, hl, ht⟩ := h.row
  have hb := h.bel
  have hg := h.gw
  subst hg
  refine ⟨_, rfl, ?_, hb⟩
  rw [List.length_replicate]
  exact Rw.own hr (Nat.le_refl _) (Nat.le_refl _) hm (by rw [hl, Nat.mul_one]) (by rw [Nat.mul_one]; exact ht)
theorem rp_step {w W : World} {g n k m : Nat} (h : RpAt w g n k W) (hm : Nat.min k (n - k) = m) : (∀ ty, (Builtin.copy_ #[22, 22] ty #[.slice (some ⟨g, k, none⟩) (n - k) (n - k), .slice (some ⟨g, 0, none⟩) k n]).run Try.prog W.drew = .ok (goInt m) (W.drew.setRow g (splice (h.row.choose) k (ics (List.replicate m (-1)))).toArray)) ∧ (k < n → RpAt w g n (k + m) (W.drew.setRow g (splice (h.row.choose) k (ics (List.replicate m (-1)))).toArray)) := by
  obtain ⟨hr, hl, ht⟩ := h.row.choose_spec
  generalize h.row.choose = cur at *
  have hk0 := h.k0
  have hkn := h.kn
  have hmm : m ≤ k ∧ m ≤ n - k := ⟨hm ▸ Nat.min_le_left _ _, hm ▸ Nat.min_le_right _ _⟩
  have hlm : (ics (List.replicate m (-1))).length = m := by rw [ics_len]; simp
  constructor
  · intro ty
    rw [← hm]
    rw [← hm] at hlm hmm
    exact run_copy_sized W.drew 22 22 ty 3 1 g k (n - k) (n - k) ⟨g, 0, none⟩ k n cur 3 _ Try.underlying22 (by obtain ⟨i0, hi0, hz0⟩ := Option.map_eq_some_iff.1 info_ni; simp only [Prod.mk.injEq] at hz0; rw [hi0]; simp [hz0.2.1]) hr (by rw [hlm, Nat.mul_one]) (fun j v hj => by
      rw [add_mk, Nat.zero_add]
      have hjm : j < Nat.min k (n - k) := by have := (List.getElem?_eq_some_iff.1 hj).1; rw [hlm] at this; exact this
      refine Rw.cell hr ?_
      have h1 : cur[j]? = (cur.take k)[j]? := by rw [List.getElem?_take_of_lt (by omega)]
      rw [h1, ht, ← hj]
      have hjk : j < k := by have := hmm.1; omega
      simp [ics, List.getElem?_replicate, hjk]
      exact hjm) (by rw [hlm, hl]; omega) (ics_one _)
  · intro hkn'
    refine ⟨by omega, by omega, ⟨_, Rw.set (show Rw W.drew g 3 cur from hr) k _, by rw [splice_len _ _ _ (by rw [hlm, hl]; omega), hl], ?_⟩, h.bel.drew.grown (grown_setRow W.drew g _) (by rw [h.gw]; exact h.bel.size) (fun k e => by injection e with e; subst e; exact Nat.le_refl _), h.gw⟩
    rw [← ics_rep_add, ← ht]
    unfold splice
    rw [← List.append_assoc]
    exact List.take_left' (by rw [List.length_append, hlm, List.length_take, hl, Nat.min_eq_left hkn])

set_option maxHeartbeats 4000000 in
set_option maxRecDepth 20000 in
theorem repeat_one (xb n : Nat) (w : World) (h1 : 1 ≤ n) (h6 : n ≤ 6) (hx : w.cell? ⟨xb, 0, none⟩ = some (.int .i64 (-1))) (hl : xb < w.heap.size) :
    Calls Try.prog 65 #[.slice (some ⟨xb, 0, none⟩) 1 1, .int .i64 (n : Int)] w (NIClP w (List.replicate n (-1))) := by
  have HM := Lib.hid (mul_one n h6)
  have h0 : ((n : Int) < 0) = False := by simp
  have hc1 : IntKind.u64.wrap (n : Int) = n := by rw [IntKind.wrap_u64]; omega
  have hc2 : IntKind.i64.wrap (n : Int) = n := IntWalk.i64_in _ (by omega)
  have hn2 : ¬ ((9223372036854775807 : Int) < n) := by omega
  obtain ⟨g, hg⟩ : ∃ g, g = w.heap.size := ⟨_, rfl⟩
  have hmk := run_make_ints n (by omega) w
  rw [← hg] at hmk
  obtain ⟨W0, hW0⟩ : ∃ W0, W0 = w.alloc (.cells (madeCells #[.int .i64 0] (n * 1)) 3) := ⟨_, rfl⟩
  have hR0 : Rw W0 g 3 (madeCells #[.int .i64 0] (n * 1)).toList := by rw [hW0, hg]; exact Rw.fresh w _ _
  have hL0 : (madeCells #[.int .i64 0] (n * 1)).toList.length = n := by simp [size_madeCells]
  have hB0 : Below g w W0 := by rw [hW0, hg]; exact (Below.refl _ _).alloc (Nat.le_refl _) _
  rw [← hW0] at hmk
  generalize (madeCells #[.int .i64 0] (n * 1)).toList = cur0 at *
  have hcp : ∀ ty, (Builtin.copy_ #[22, 22] ty #[.slice (some ⟨g, 0, none⟩) n n, .slice (some ⟨xb, 0, none⟩) 1 1]).run Try.prog W0 = .ok (goInt (Nat.min 1 n)) (W0.setRow g (splice cur0 0 (ics [-1])).toArray) := fun ty =>
    run_copy_sized W0 22 22 ty 3 1 g 0 n n ⟨xb, 0, none⟩ 1 1 cur0 3 (ics [-1]) Try.underlying22 (by obtain ⟨i0, hi0, hz0⟩ := Option.map_eq_some_iff.1 info_ni; simp only [Prod.mk.injEq] at hz0; rw [hi0]; simp [hz0.2.1]) hR0 (by rw [show Nat.min 1 n = 1 from Nat.min_eq_left h1]; rfl) (fun j v hj => by
      rw [add_mk, Nat.zero_add]
      cases j with
      | zero => exact (hB0.cell (p := ⟨xb, 0, none⟩) (by rw [hg]; exact hl)).trans (by rw [hx]; exact hj)
      | succ j => simp [ics] at hj) (by rw [hL0]; exact h1) (ics_one _)
  rw [show Nat.min 1 n = 1 from Nat.min_eq_left h1] at hcp
  have HS := Lib.hid (rp_start h1 hg hR0 hL0 hB0)
  generalize W0.setRow g (splice cur0 0 (ics [-1])).toArray = W1 at *
  clear hR0 hL0 hB0 hW0 hx hl
  have HG := Lib.hid hg
  clear hg
  go_enter Try.func65, Try.ntmps65
  go_wp2_with fail
  refine (HM.out _).mono ?_
  rintro e w1 ⟨rfl, rfl⟩
  go_wp2_with fail
  go_loopw [8] (fun kv wr => ∃ k : Nat, kv = .int .i64 k ∧ Hid (RpAt w g n k wr)) (fun kv _ => n - (intOf kv).toNat)
  case atStart => exact ⟨1, rfl, HS⟩
  case round =>
    obtain ⟨k, rfl, HR⟩ := hrel
    by_cases hkn : k < n
    · obtain ⟨m, hm⟩ : ∃ m, Nat.min k (n - k) = m := ⟨_, rfl⟩
      obtain ⟨hcp2, hnx⟩ := rp_step HR.out hm
      have HN := Lib.hid (hnx hkn)
      have HMM := Lib.hid (show 1 ≤ m ∧ k + m ≤ n by have := HR.out.k0; rw [← hm]; show 1 ≤ min k (n - k) ∧ k + min k (n - k) ≤ n; omega)
      have hsum : IntKind.i64.wrap ((k : Int) + (m : Int)) = ((k + m : Nat) : Int) := by rw [IntWalk.i64_in _ (by have := HMM.out; omega)]; omega
      have hsum2 : wrap64 ((k : Int) + (m : Int)) = ((k + m : Nat) : Int) := by rw [IntWalk.wrap64_in _ (by have := HMM.out; omega)]; omega
      generalize wr.drew.setRow g _ = W2 at *
      have hlt : (k : Int) < (n : Int) := by omega
      have hle : k ≤ n := by omega
      have hnk : ¬ n = k := by omega
      clear hnx hm hcp hmk
      go_wp2
      go_region_held3 (fun W => RpTru W) (exact trivial) (first | (fail))
      go_wp2
      go_roundw
      case rel => exact ⟨k + m, by rw [Int.natCast_add], HN⟩
      case measure => have := HMM.out; simp [intOf]; omega
    · have hke : k = n := by have := HR.out.kn; omega
      subst hke
      have HF := Lib.hid (rp_fin HR.out (by unfold maxLen; omega))
      clear hkn
      have hlt : ¬ ((k : Int) < (k : Int)) := by omega
      go_wp2
      go_ret
      exact HF.out
end Go.Proofs.Ytijpflljopckiaa
namespace Go.Proofs.Ytijpflljopckiaa
open Go.RowKit
theorem dst {B : Nat} {a W : World} {x : Addr} {v : Value} (h : Below B a W) (h1 : B ≤ x.block) : Below B a (W.setCell x v) := h.setCell h1 v
end Go.Proofs.Ytijpflljopckiaa
namespace Go.Proofs.Ytijpflljopckiaa
open Go.RowKit
set_option linter.unusedVariables false

/-- The first k spans of n. -/
def nwL (n k : Nat) : List Sp := (List.range k).map fun (i : Nat) => ⟨(i : Int) * 65536 / n, ((i : Int) + 1) * 65536 / n - 1, i⟩
theorem nwL_succ (n k : Nat) : nwL n (k + 1) = nwL n k ++ [⟨(k : Int) * 65536 / n, ((k : Int) + 1) * 65536 / n - 1, k⟩] := by simp [nwL, List.range_succ]
theorem nwL_len (n k : Nat) : (nwL n k).length = k := by simp [nwL]
def nwE10 (s l : Int) : Int := if 1 ≤ s ∧ s ≤ 6 ∧ 1 ≤ l ∧ l ≤ s then 0 else 1
def nwD (s l : Int) : Dd := if nwE10 s l = 0 then ⟨1, nwL l.toNat l.toNat, List.replicate s.toNat (-1)⟩ else zD10

/-- A result box, and a box of a directory whose lists the call owns. -/
structure NA (w : World) (r y : Nat) (d : Dd) (X : Dx) (W : World) : Prop where
  rb : Db10 W r zD10 zDx
  xb : Db10 W y d X
  ol : W.ownsRow (r + 1) 115 3 (.slice X.A d.l.length X.c) d.l.length (scs d.l)
  of : W.ownsRow (r + 1) 3 1 (.slice X.A2 d.F.length X.c2) d.F.length (ics d.F)
  d1 : ∀ k, (Value.slice X.A d.l.length X.c).ownBlock = some k → (Value.slice X.A2 d.F.length X.c2).ownBlock ≠ some k
  d2 : ∀ k, (Value.slice X.A d.l.length X.c).ownBlock = some k → k ≠ y
  d3 : ∀ k, (Value.slice X.A2 d.F.length X.c2).ownBlock = some k → k ≠ y
  ne : r = w.heap.size ∧ r < y
  bel : Below w.heap.size w W
theorem Db10.grownO {W W' : World} {p : Nat} {d : Dd} {X : Dx} {ob : Option Nat} (h : Db10 W p d X) (hg : W.grownBy W' ob) (hne : ob ≠ some p) : Db10 W' p d X :=
  h.keep (fun o => hg.cell_far ⟨p, o, none⟩ h.lt (fun e => hne e.symm)) (fun o => hg.frozen_far ⟨p, o, none⟩ h.lt (fun e => hne e.symm)) hg.size
theorem own_farO {W W' : World} {base size n : Nat} {ob : Option Nat} {t : TypeId} {v : Value} {xs : List Value} (h : W.ownsRow base t size v n xs) (hg : W.grownBy W' ob) (hne : ∀ k, v.ownBlock = some k → ob ≠ some k) : W'.ownsRow base t size v n xs :=
  ⟨h.1, h.2.imp_right fun ⟨k, cap, cur, hv, hk, hh, rr⟩ => ⟨k, cap, cur, hv, hk, (hg.block k (Array.getElem?_eq_some_iff.1 hh).1 (by
    have := hne k (by rw [hv]; rfl)
    exact fun e => this e.symm)).trans hh, rr⟩⟩
section
variable {w W W' : World} {r y : Nat} {d : Dd} {X : Dx}
theorem NA.below (h : NA w r y d X W) (hb : Below W.heap.size W W') : NA w r y d X W' :=
  ⟨h.rb.up hb, h.xb.up hb, own_up10 h.ol hb, own_up10 h.of hb, h.d1, h.d2, h.d3, h.ne, h.bel.trans (hb.mono h.bel.size)⟩
theorem NA.drew (h : NA w r y d X W) : NA w r y d X W.drew := h.below (Below.refl _ _).drew
theorem NA.alloc (h : NA w r y d X W) (o : Obj) : NA w r y d X (W.alloc o) := h.below ((Below.refl _ _).alloc (Nat.le_refl _) o)
theorem NA.start {F : List Int} {A2 : Option Addr} {c2 : Nat} (hr : r = w.heap.size) (hb : Below w.heap.size w W) (hd : Db10 W r zD10 zDx) (hf : W.ownsRow (r + 1) 3 1 (.slice A2 F.length c2) F.length (ics F)) (t : TypeId) :
    NA w r W.heap.size ⟨1, [], F⟩ ⟨none, 0, A2, c2⟩ (W.alloc (.cells #[.int .i64 1, .slice none 0 0, .slice A2 F.length c2] t)) := by
  have hlt := hd.lt
  have hs := hb.size
  have hk : ∀ k, (Value.slice A2 F.length c2).ownBlock = some k → k ≠ W.heap.size := fun k e => by have := (hf.lt k e).2; omega
  exact ⟨hd.alloc _, Db10.start W ⟨1, [], F⟩ ⟨none, 0, A2, c2⟩ t, World.ownsRow_nil _ _ _ _, own_up10 hf ((Below.refl _ _).alloc (Nat.le_refl _) _), fun k e => by simp [Value.ownBlock] at e, fun k e => by simp [Value.ownBlock] at e, hk, ⟨hr, hlt⟩, hb.alloc hs _⟩
theorem NA.nw (h : NA w r y d X W) : X.nw w.heap.size := by
  have := h.ne
  exact ⟨nwv_of (nwv_own h.ol (by omega)), nwv_of (nwv_own h.of (by omega))⟩
theorem NA.dr (h : NA w r y d X W) : DR W W.heap.size d X := ⟨Pl.of_own h.ol, Fl.of_own h.of⟩
/-- A span is appended. -/
theorem NA.app (h : NA w r y d X W) {S : Sp} {g cap : Nat} (ho : W'.ownsRow (r + 1) 115 3 (.slice (some ⟨g, 0, none⟩) (d.l.length + 1) cap) (d.l.length + 1) (scs d.l ++ S.l)) (hg : W.grownBy W' (Value.slice X.A d.l.length X.c).ownBlock) (hat : (Value.slice X.A d.l.length X.c).ownBlock = some g ∨ g = W.heap.size) :
    (W'.cell? ⟨y, 1, none⟩ = some (.slice X.A d.l.length X.c) ∧ W'.frozen? ⟨y, 1, none⟩ = false ∧ y < W'.heap.size) ∧ NA w r y ⟨d.vn, d.l ++ [S], d.F⟩ ⟨some ⟨g, 0, none⟩, cap, X.A2, X.c2⟩ (W'.setCell ⟨y, 1, none⟩ (.slice (some ⟨g, 0, none⟩) (d.l.length + 1) cap)) := by
  have hn := h.ne
  have hrl := h.rb.lt
  have hor : (Value.slice X.A d.l.length X.c).ownBlock ≠ some r := fun e => by have := (h.ol.lt r e).1; omega
  have hoy : (Value.slice X.A d.l.length X.c).ownBlock ≠ some y := fun e => h.d2 y e rfl
  have hx := h.xb.grownO hg hoy
  have hr := h.rb.grownO hg hor
  have hf := own_farO h.of hg fun k hk e => h.d1 k e hk
  have hgy : g ≠ y := by
    rcases hat with e | e
    · exact h.d2 g e
    · have := h.xb.lt; omega
  have hb : Below w.heap.size w W' := h.bel.grown hg h.bel.size fun k hk => by have := (h.ol.lt k hk).1; omega
  refine ⟨⟨hx.c1, hx.fr 1, hx.lt⟩, hr.other (a := ⟨y, 1, none⟩) (by show y ≠ r; omega) _, ⟨?_, ?_, ?_, fun o => ?_, ?_⟩, ?_, own_oth hf (fun k hk => h.d3 k hk) _, fun k hk e => ?_, fun k hk => ?_, h.d3, h.ne, hb.setCell (p := ⟨y, 1, none⟩) (show w.heap.size ≤ y by omega) _⟩
  · simpa [go_sem] using hx.c0
  · simp [go_sem, hx.c1]
  · simpa [go_sem] using hx.c2
  · simpa [go_sem] using hx.fr o
  · simpa using hx.lt
  · have k := own_oth ho (a := ⟨y, 1, none⟩) (fun k hk => by simp [Value.ownBlock] at hk; subst hk; exact hgy) (.slice (some ⟨g, 0, none⟩) (d.l.length + 1) cap)
    have e1 : scs (d.l ++ [S]) = scs d.l ++ S.l := by simp [scs]
    show World.ownsRow _ _ _ _ (.slice (some ⟨g, 0, none⟩) (d.l ++ [S]).length cap) (d.l ++ [S]).length (scs (d.l ++ [S]))
    rw [e1, List.length_append, List.length_singleton]
    exact k
  · simp [Value.ownBlock] at hk
    subst hk
    rcases hat with e2 | e2
    · exact h.d1 _ e2 e
    · have := (h.of.lt _ e).2; omega
  · simp [Value.ownBlock] at hk
    subst hk
    exact hgy
theorem NA.out (h : NA w r y d X W) : DE w.heap.size w d 0 (.returned (.tuple #[dv d X, .int .i64 0])) (((W.setCell ⟨r, 0, none⟩ (.int .i64 d.vn)).setCell ⟨r, 1, none⟩ (.slice X.A d.l.length X.c)).setCell ⟨r, 2, none⟩ (.slice X.A2 d.F.length X.c2)) := by
  have hp := h.ne
  have hl : Pl W r.succ (.slice X.A d.l.length X.c) d.l ∨ True := .inr trivial
  have n1 : X.nw (r + 1) := ⟨nwv_of (nwv_own h.ol (Nat.le_refl _)), nwv_of (nwv_own h.of (Nat.le_refl _))⟩
  have f : ∀ o, DOff d X (⟨r, o, none⟩ : Addr).block := fun o => n1.off (Nat.lt_succ_self r)
  exact ⟨X, rfl, h.nw, (((h.dr.offp (q := ⟨r, 0, none⟩) (f 0) _).offp (q := ⟨r, 1, none⟩) (f 1) _).offp (q := ⟨r, 2, none⟩) (f 2) _).more (by simp), ((h.bel.setCell (p := ⟨r, 0, none⟩) (show w.heap.size ≤ r by omega) _).setCell (p := ⟨r, 1, none⟩) (show w.heap.size ≤ r by omega) _).setCell (p := ⟨r, 2, none⟩) (show w.heap.size ≤ r by omega) _⟩
end
/-- The answer 'no'. -/
theorem new_out0 {w W : World} {r : Nat} (hr : r = w.heap.size) (hb : Below w.heap.size w W) (x : Int) : DE w.heap.size w zD10 x (.returned (.tuple #[.agg #[.int .i64 0, .slice none 0 0, .slice none 0 0], .int .i64 x])) (((W.setCell ⟨r, 0, none⟩ (.int .i64 0)).setCell ⟨r, 1, none⟩ (.slice none 0 0)).setCell ⟨r, 2, none⟩ (.slice none 0 0)) :=
  ⟨zDx, rfl, zDx_nw _, DR.zero, ((hb.setCell (p := ⟨r, 0, none⟩) (show w.heap.size ≤ r by omega) _).setCell (p := ⟨r, 1, none⟩) (show w.heap.size ≤ r by omega) _).setCell (p := ⟨r, 2, none⟩) (show w.heap.size ≤ r by omega) _⟩
end Go.Proofs.Ytijpflljopckiaa
namespace Go.Proofs.Ytijpflljopckiaa
open Go.RowKit
set_option linter.unusedVariables false

/-- slotTest's function value: it keeps a box of the directory. -/
abbrev stV (p : Nat) : Value := .func (.func 119) #[] #[.pointer (some ⟨p, 0, none⟩)]
theorem slot1_any (s : Int) (p : Nat) (A2 : Option Addr) (n c2 : Nat) (w : World) (hp : p < w.heap.size) (hc : w.cell? ⟨p, 2, none⟩ = some (.slice A2 n c2)) (hn : n ≤ 1000) :
    Calls Try.prog 119 #[.int .i64 s, .pointer (some ⟨p, 0, none⟩)] w fun e w' => e = .returned (.bool (decide (slotP n s))) ∧ w = w' := by
  have HW := Lib.hid (fun w1 => rwithin_any s 0 ((n : Int) - 1) w1)
  have HD := Lib.hid (show wiR s 0 ((n : Int) - 1) = decide (slotP n s) by unfold wiR; rw [Bool.eq_iff_iff]; simp only [decide_eq_true_eq]; unfold slotP; omega)
  have hsub : IntKind.i64.wrap ((n : Int) - 1) = (n : Int) - 1 := IntWalk.i64_in _ (by omega)
  rw [HD.out] at HW
  generalize decide (slotP n s) = r at *
  clear HD
  go_enter Try.func119, Try.ntmps119
  go_wp2_with fail
  refine (HW.out _).mono ?_
  rintro e w1 ⟨rfl, rfl⟩
  go_wp2
  go_ret
  exact ⟨rfl, rfl⟩
theorem slotTest_any (d : Dd) (X : Dx) (w : World) :
    Calls Try.prog 111 #[dv d X] w fun e w' => e = .returned (stV w.heap.size) ∧ w' = w.alloc (.cells #[.int .i64 d.vn, .slice X.A d.l.length X.c, .slice X.A2 d.F.length X.c2] 34) := by
  have hmf : ∀ (fn : Fn) (first cap : Array Value) (w : World), (Instr.makeFunc fn first cap).run Try.prog w = .ok (.func fn first cap) w := fun _ _ _ _ => rfl
  go_enter Try.func111, Try.ntmps111
  go_wp2
  go_ret
  exact ⟨rfl, rfl⟩

/-- A box of a function value that tells whether a number is a slot. -/
abbrev St2 (W : World) (q p n : Nat) : Prop := W.cell? ⟨q, 0, none⟩ = some (stV p) ∧ q < W.heap.size ∧ p < W.heap.size ∧ ∃ A2 c2, W.cell? ⟨p, 2, none⟩ = some (.slice A2 n c2)
theorem St2.up {W W' : World} {q p n : Nat} (h : St2 W q p n) (hb : Below W.heap.size W W') : St2 W' q p n := by
  obtain ⟨h1, h2, h3, A2, c2, h4⟩ := h
  exact ⟨(hb.cell (p := ⟨q, 0, none⟩) h2).trans h1, Nat.lt_of_lt_of_le h2 hb.size, Nat.lt_of_lt_of_le h3 hb.size, A2, c2, (hb.cell (p := ⟨p, 2, none⟩) h3).trans h4⟩
theorem svclo_any (d : Sp) (q p n : Nat) (w : World) (hs : St2 w q p n) (hn : n ≤ 1000) :
    Calls Try.prog 113 #[d.v, .pointer (some ⟨q, 0, none⟩)] w fun e w' => e = .returned (.bool (!decide (slotP n d.sh))) ∧ Below w.heap.size w w' := by
  have HB := Lib.hid ((Below.refl w.heap.size w).alloc (Nat.le_refl _) (.cells #[.int .i64 d.lo, .int .i64 d.hi, .int .i64 d.sh] 115))
  obtain ⟨h1, h2, h3, A2, c2, h4⟩ := hs
  have HF := Lib.hid (slot1_any d.sh p A2 n c2 (w.alloc (.cells #[.int .i64 d.lo, .int .i64 d.hi, .int .i64 d.sh] 115)) (by simp; omega) (by rw [World.cell?_alloc_lt _ _ _ (by exact h3)]; exact h4) hn)
  generalize decide (slotP n d.sh) = r at *
  clear h4
  go_enter Try.func113, Try.ntmps113
  go_wp2_with fail
  refine HF.out.mono ?_
  rintro e w1 ⟨rfl, rfl⟩
  go_wp2
  go_ret
  exact ⟨rfl, HB.out⟩

/-- A place that is there just if not all shards are slots. -/
def MsP (n : Nat) (l : List Sp) (w : World) (e : Ending) (w' : World) : Prop := ∃ r : Int, e = .returned (.int .i64 r) ∧ decide (0 ≤ r) = (!msD n l) ∧ Below w.heap.size w w'
set_option maxHeartbeats 1000000 in
theorem msfunc_any (A : Option Addr) (n c : Nat) (l : List Sp) (q p m : Nat) (w : World) (hv : Pl w w.heap.size (.slice A n c) l) (hs : St2 w q p m) (hm : m ≤ 1000) :
    Calls Try.prog 116 #[.slice A n c, .func (.func 113) #[] #[.pointer (some ⟨q, 0, none⟩)]] w (MsP m l w) := by
  obtain ⟨rfl, hm1, hm2⟩ := hv.len
  have hL : l.length ≤ 9223372036854775807 := by unfold maxLen at hm2; omega
  have HV := Lib.hid hv
  have HS := Lib.hid hs
  have HM := Lib.hid hm
  have HB := Lib.hid (Below.refl w.heap.size w)
  clear hv hm1 hm2 hs hm
  go_enter Try.func116, Try.ntmps116
  go_wp2
  go_loopw [8] (fun i wr => ∃ k : Nat, k ≤ l.length ∧ i = .int .i64 k ∧ Below w.heap.size w wr ∧ ∀ j, j < k → slotP m (sg l j).sh) (fun i _ => l.length - (intOf i).toNat)
  case atStart => exact ⟨0, by omega, rfl, HB.out, fun j h => absurd h (by omega)⟩
  case round =>
    obtain ⟨k, hk, rfl, hb, hno⟩ := hrel
    have HN := Lib.hid hno
    have HVK := Lib.hid (HV.out.below hb)
    have HSK := Lib.hid (HS.out.up hb)
    have HB := Lib.hid hb
    clear hno hb
    by_cases hlt : k < l.length
    · obtain ⟨b, o, rfl, hb, c0, c1, c2⟩ := HVK.out.atg hlt
      have HF := Lib.hid (fun w1 hp => svclo_any (sg l k) q p m w1 hp HM.out)
      by_cases he : slotP m (sg l k).sh
      · have HNN := Lib.hid (show ∀ j, j < k + 1 → slotP m (sg l j).sh from fun j h => by
          by_cases e : j = k
          · rw [e]; exact he
          · exact HN.out j (by omega))
        rw [decide_eq_true he] at HF
        clear he
        generalize sg l k = M at *
        go_wp2_with fail
        refine (HF.out _ HSK.out).mono ?_
        rintro e w1 ⟨rfl, hb1⟩
        have HB1 := Lib.hid (HB.out.trans (hb1.mono HB.out.size))
        clear hb1
        go_wp2
        go_roundw
        case rel => exact ⟨k + 1, by omega, by go_num, HB1.out, HNN.out⟩
        case measure => simp [intOf]; omega
      · have HR := Lib.hid (msD_no hlt he)
        rw [decide_eq_false he] at HF
        clear he
        generalize sg l k = M at *
        go_wp2_with fail
        refine (HF.out _ HSK.out).mono ?_
        rintro e w1 ⟨rfl, hb1⟩
        have HB1 := Lib.hid (HB.out.trans (hb1.mono HB.out.size))
        clear hb1
        go_wp2
        go_ret
        exact ⟨k, rfl, by rw [HR.out]; simp, HB1.out⟩
    · have HR := Lib.hid (msD_iff.2 (fun j hj => HN.out j (by omega)))
      go_wp2
      go_ret
      exact ⟨-1, rfl, by rw [HR.out]; rfl, HB.out⟩
theorem mscontains_any (A : Option Addr) (n c : Nat) (l : List Sp) (q p m : Nat) (w : World) (hv : Pl w w.heap.size (.slice A n c) l) (hs : St2 w q p m) (hm : m ≤ 1000) :
    Calls Try.prog 112 #[.slice A n c, .func (.func 113) #[] #[.pointer (some ⟨q, 0, none⟩)]] w fun e w' => e = .returned (.bool (!msD m l)) ∧ Below w.heap.size w w' := by
  have HC := Lib.hid (msfunc_any A n c l q p m w hv hs hm)
  clear hv hs
  go_enter Try.func112, Try.ntmps112
  go_wp2_with fail
  refine HC.out.mono ?_
  rintro e w1 ⟨r, rfl, hr, hb1⟩
  have HR := Lib.hid hr
  have HB1 := Lib.hid hb1
  clear hr hb1
  go_wp2
  go_ret
  exact ⟨by rw [← HR.out]; simp, HB1.out⟩

theorem drew_belR {W W' : World} (h : Below W.drew.heap.size W.drew W') : Below W.heap.size W W' := ((Below.refl W.heap.size W).drew).trans h
set_option maxHeartbeats 2000000 in
theorem ssameshard_any (A : Option Addr) (n c : Nat) (l : List Sp) (w : World) (hv : Pl w w.heap.size (.slice A n c) l) :
    Calls Try.prog 114 #[.slice A n c] w fun e w' => e = .returned (.bool (duB l)) ∧ Below w.heap.size w w' := by
  obtain ⟨rfl, hm1, hm2⟩ := hv.len
  have hL : l.length ≤ 9223372036854775807 := by unfold maxLen at hm2; omega
  have HV := Lib.hid hv
  have HB := Lib.hid (Below.refl w.heap.size w)
  clear hv hm2
  go_enter Try.func114, Try.ntmps114
  go_wp2
  go_loopw [7] (fun i wr => ∃ k : Nat, k ≤ l.length ∧ i = .int .i64 k ∧ Below w.heap.size w wr ∧ ∀ j, j < k → ixS (l.take j) (sg l j).sh < 0) (fun i _ => l.length - (intOf i).toNat)
  case atStart => exact ⟨0, by omega, rfl, HB.out, fun j h => absurd h (by omega)⟩
  case round =>
    obtain ⟨k, hk, rfl, hb, hno⟩ := hrel
    have HN := Lib.hid hno
    have HVK := Lib.hid (HV.out.below hb)
    have HB := Lib.hid hb
    clear hno hb
    by_cases hlt : k < l.length
    · have hkc : k ≤ c := by omega
      obtain ⟨b, o, rfl, hb, c0, c1, c2⟩ := HVK.out.atg hlt
      have HVA := Lib.hid (show Pl (wr.alloc (.cells #[.int .i64 (sg l k).lo, .int .i64 (sg l k).hi, .int .i64 (sg l k).sh] 115)).drew (wr.alloc (.cells #[.int .i64 (sg l k).lo, .int .i64 (sg l k).hi, .int .i64 (sg l k).sh] 115)).drew.heap.size (.slice (some ⟨b, o, none⟩) k c) (l.take k) from ((HVK.out.upto (Nat.le_of_lt hlt)).alloc HB.out.size _).more (show w.heap.size ≤ (wr.alloc (.cells #[.int .i64 (sg l k).lo, .int .i64 (sg l k).hi, .int .i64 (sg l k).sh] 115)).heap.size by have := HB.out.size; simp; omega))
      have HBA := Lib.hid (HB.out.alloc HB.out.size (.cells #[.int .i64 (sg l k).lo, .int .i64 (sg l k).hi, .int .i64 (sg l k).sh] 115))
      have HFD := Lib.hid (fun w1 (h : Pl w1 w1.heap.size (.slice (some ⟨b, o, none⟩) k c) (l.take k)) => sfind_any _ _ _ _ (sg l k).sh w1 h)
      by_cases he : 0 ≤ ixS (l.take k) (sg l k).sh
      · have HR := Lib.hid (duB_yes (du_take hlt he))
        generalize sg l k = M at *
        generalize ixS (l.take k) M.sh = r at *
        go_wp2
        go_region_with ((go_at_call 94; refine (HFD.out _ HVA.out).mono ?_; rintro e w1 ⟨rfl, hb1⟩; have HB1 := Lib.hid (HBA.out.trans ((drew_belR hb1).mono HBA.out.size)); clear hb1))
        all_goals
          go_wp2
          go_ret
          exact ⟨by rw [HR.out]; rfl, HB1.out⟩
      · have HNN := Lib.hid (show ∀ j, j < k + 1 → ixS (l.take j) (sg l j).sh < 0 from fun j h => by
          by_cases e : j = k
          · rw [e]; omega
          · exact HN.out j (by omega))
        have hr1 := (ixS_neg he).1
        generalize sg l k = M at *
        rw [hr1] at HFD
        clear hr1 he
        go_wp2
        go_region_with ((go_at_call 94; refine (HFD.out _ HVA.out).mono ?_; rintro e w1 ⟨rfl, hb1⟩; have HB1 := Lib.hid (HBA.out.trans ((drew_belR hb1).mono HBA.out.size)); clear hb1))
        all_goals
          go_wp2
          go_roundw
          case rel => exact ⟨k + 1, by omega, by go_num, HB1.out, HNN.out⟩
          case measure => simp [intOf]; omega
    · have HR := Lib.hid (duB_no (du_not (l := l) (fun j hj => by have := HN.out j (by omega); omega)))
      go_wp2
      go_ret
      exact ⟨by rw [HR.out]; rfl, HB.out⟩

set_option maxHeartbeats 4000000 in
set_option maxRecDepth 20000 in
theorem sfwvalid_any (d : Dd) (X : Dx) (s : Int) (w : World) (hd : DR w w.heap.size d X) (hs : slotP d.F.length s) (hn : d.F.length ≤ 1000) :
    Calls Try.prog 115 #[dv d X, .int .i64 s] w fun e w' => e = .returned (.bool (fvB d.l d.F s)) ∧ Below w.heap.size w w' := by
  have H0 := Lib.hid (DAt.start 34 hd)
  have HFD := Lib.hid (fun p W (k : DAt w p d X W) => sfind_any X.A d.l.length X.c d.l s W k.dr.pl)
  have HST := Lib.hid (fun W => slotTest_any d X W)
  have HS1 := Lib.hid (fun p x W hp hc => slot1_any x p X.A2 d.F.length X.c2 W hp hc hn)
  have HN := Lib.hid hn
  have HAT := Lib.hid (fun p W (k : DAt w p d X W) (j : Nat) (hj : j < d.F.length) => k.dr.fl.atg hj)
  by_cases hh : hasS d.l s
  · have HR := Lib.hid (show (ig d.F s.toNat == -1) = fvB d.l d.F s by unfold fvB; rw [if_pos hh, Bool.eq_iff_iff]; simp)
    have hix : 0 ≤ ixS d.l s := hh
    generalize ixS d.l s = r at *
    obtain ⟨j, rfl⟩ := Int.eq_ofNat_of_zero_le hs.1
    have hj : j < d.F.length := by have := hs.2; omega
    clear hd hs hh hn
    go_enter Try.func115, Try.ntmps115
    obtain ⟨⟨x0, x1, x2, xl⟩, -⟩ := H0.out.db.all
    go_wp2_with fail
    refine (HFD.out _ _ H0.out).mono ?_
    rintro e w1 ⟨rfl, hb⟩
    have H1 := Lib.hid (H0.out.below hb)
    clear hb x0 x1 x2 xl
    obtain ⟨b, o, hA, hb', c0⟩ := HAT.out _ _ H1.out j hj
    obtain ⟨⟨x0, x1, x2, xl⟩, -⟩ := H1.out.db.all
    rw [hA] at x2
    clear hA
    go_wp2
    go_ret
    exact ⟨by rw [← HR.out]; rfl, H1.out.bel⟩
  · have HR := Lib.hid (show pvD d.F d.F.length s = fvB d.l d.F s by unfold fvB; rw [if_neg hh])
    have hix := (ixS_neg hh).1
    rw [hix] at HFD
    clear hix hh hn hd
    have HSS := Lib.hid hs
    have hL : d.F.length ≤ 9223372036854775807 := by have := HN.out; omega
    go_enter Try.func115, Try.ntmps115
    obtain ⟨⟨x0, x1, x2, xl⟩, -⟩ := H0.out.db.all
    go_wp2_with fail
    refine (HFD.out _ _ H0.out).mono ?_
    rintro e w1 ⟨rfl, hb⟩
    have H1 := Lib.hid (H0.out.below hb)
    clear hb x0 x1 x2 xl
    obtain ⟨⟨x0, x1, x2, xl⟩, -⟩ := H1.out.db.all
    go_wp2_with fail
    refine (HST.out _).mono ?_
    rintro e w2 ⟨rfl, hw2⟩
    obtain ⟨p, hp⟩ : ∃ p, p = w.heap.size := ⟨_, rfl⟩
    obtain ⟨q, hq⟩ : ∃ q, q = w1.heap.size := ⟨_, rfl⟩
    have H2 := Lib.hid (show DAt w p d X w2 from by rw [hp, hw2]; exact H1.out.alloc _)
    have Q2 := Lib.hid (show w2.cell? ⟨q, 2, none⟩ = some (.slice X.A2 d.F.length X.c2) ∧ q < w2.heap.size from by rw [hw2, hq]; exact ⟨by simp [go_sem], by simp⟩)
    rw [← hp, ← hq]
    clear hp hq hw2 x0 x1 x2 xl H0 H1 HFD HST hs
    obtain ⟨⟨x0, x1, x2, xl⟩, -⟩ := H2.out.db.all
    go_wp2
    go_loopw [1, 22] (fun x i wr => ∃ (k : Nat) (t : Int), k ≤ d.F.length ∧ x = .int .i64 t ∧ i = .int .i64 k ∧ slotP d.F.length t ∧ pvD d.F (d.F.length - k) t = pvD d.F d.F.length s ∧ wr = w2) (fun _ i _ => d.F.length - (intOf i).toNat)
    case atStart => exact ⟨0, s, by omega, rfl, rfl, HSS.out, by rw [Nat.sub_zero], rfl⟩
    case round =>
      obtain ⟨k, t, hk, rfl, rfl, ht, hpv, rfl⟩ := hrel
      have HT := Lib.hid ht
      have HPV := Lib.hid hpv
      clear hpv
      by_cases hlt : k < d.F.length
      · obtain ⟨j, rfl⟩ := Int.eq_ofNat_of_zero_le ht.1
        have hj : j < d.F.length := by have := ht.2; omega
        obtain ⟨b, o, hA, hbl, c0⟩ := HAT.out _ _ H2.out j hj
        rw [hA] at x2
        clear hA
        have HPN := Lib.hid (show d.F.length - k = (d.F.length - (k + 1)) + 1 by omega)
        rw [HPN.out] at HPV
        by_cases h1 : ig d.F j = -1
        · have HR1 := Lib.hid (show fvB d.l d.F s = true by rw [← HR.out, ← HPV.out]; exact pvD_one h1)
          rw [h1] at c0
          clear h1 ht
          go_wp2
          go_ret
          exact ⟨by rw [HR1.out]; rfl, H2.out.bel⟩
        · have hne : (ig d.F j == -1) = false := by simpa using h1
          by_cases h2 : slotP d.F.length (ig d.F j)
          · have HPV2 := Lib.hid (show pvD d.F (d.F.length - (k + 1)) (ig d.F j) = pvD d.F d.F.length s from (pvD_next h1 h2).symm.trans HPV.out)
            have HS2 := Lib.hid (HS1.out q (ig d.F j) wr Q2.out.2 Q2.out.1)
            have H22 := Lib.hid h2
            rw [decide_eq_true h2] at HS2
            clear h1 h2 ht
            generalize ig d.F j = y at *
            go_wp2_with fail
            refine HS2.out.mono ?_
            rintro e w3 ⟨rfl, hw3⟩
            replace hw3 := hw3.symm
            subst hw3
            go_wp2
            go_roundw
            case rel => exact ⟨k + 1, y, by omega, rfl, by go_num, H22.out, HPV2.out, by trivial⟩
            case measure => simp [intOf]; omega
          · have HR1 := Lib.hid (show fvB d.l d.F s = false by rw [← HR.out, ← HPV.out]; exact pvD_no h1 h2)
            have HS2 := Lib.hid (HS1.out q (ig d.F j) wr Q2.out.2 Q2.out.1)
            rw [decide_eq_false h2] at HS2
            clear h1 h2 ht
            generalize ig d.F j = y at *
            go_wp2_with fail
            refine HS2.out.mono ?_
            rintro e w3 ⟨rfl, hw3⟩
            replace hw3 := hw3.symm
            subst hw3
            go_wp2
            go_ret
            exact ⟨by rw [HR1.out]; rfl, H2.out.bel⟩
      · have HR1 := Lib.hid (show fvB d.l d.F s = false by rw [← HR.out, ← HPV.out, show d.F.length - k = 0 by omega]; rfl)
        clear ht
        go_wp2
        go_ret
        exact ⟨by rw [HR1.out]; rfl, H2.out.bel⟩
end Go.Proofs.Ytijpflljopckiaa
