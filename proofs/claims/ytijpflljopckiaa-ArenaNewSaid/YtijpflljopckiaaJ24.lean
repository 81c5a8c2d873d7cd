/- What is proved here: New of the statements' base makes a source of a list; shard.Holds by a contract; shard.putError by a contract; shard.clone by a contract; shard.Put by a contract. -/
import Derived.Test.YtijpflljopckiaaJ12
import Derived.Test.YtijpflljopckiaaRows
import Derived.Test.YtijpflljopckiaaJ02
import Derived.WalkKit
import Derived.Outline
import Derived.IntWalk
import Derived.Test.YtijpflljopckiaaJ20
import Derived.Test.YtijpflljopckiaaJ21
import Derived.Test.YtijpflljopckiaaJ10
import Derived.Deep.RegionLaw
import Derived.Test.YtijpflljopckiaaJ19
import Derived.Test.YtijpflljopckiaaJ06
namespace Go.Proofs.Ytijpflljopckiaa
open Go.RowKit
set_option linter.unusedVariables false

/-- A new source. -/
def SrNew (w : World) (e : Ending) (w' : World) : Prop := ∃ g, e = .returned (.pointer (some ⟨g, 0, none⟩)) ∧ SrcAt w' w.heap.size g ∧ Below w.heap.size w w'

theorem src_new (w : World) (A : Option Addr) (n c : Nat) (zs : List Int) (t : TypeId) (h : Rd w w.heap.size 1 A n (zs.map i64v)) (hn : n ≤ 4000) (hc : n ≤ c) (hm : c ≤ maxLen) (hz : ∀ z ∈ zs, -9223372036854775808 ≤ z ∧ z ≤ 9223372036854775807) :
    SrNew w (.returned (.pointer (some ⟨w.heap.size, 0, none⟩))) (w.alloc (.cells #[.slice A n c, .int .i64 0] t)) :=
  ⟨_, rfl, ⟨Nat.le_refl _, by simp, A, n, c, 0, zs, by omega, hn, hc, hm, by simp [go_sem], by simp [go_sem], by simp [go_sem], h.alloc (Nat.le_refl _) _, hz⟩, (Below.refl _ _).alloc (Nat.le_refl _) _⟩

theorem new_src (A : Option Addr) (n c : Nat) (zs : List Int) (w : World) (h : Ns w w.heap.size (.slice A n c) zs) : Calls Try.prog 7 #[.slice A n c] w (SrNew w) := by
  obtain ⟨hn, hc, hm, hr, hz⟩ := h.parts
  by_cases h4 : (4000 : Int) < (n : Int)
  · have ht' : Try.prog.underlying 22 = some (.slice (Try.prog.elem 22)) := by kernel_rfl
    have he : Try.prog.elem 22 = 3 := by kernel_rfl
    have hz8 : ∀ w, (Go.sizeOf 3).run Try.prog w = .ok 1 w := Try.sizeOf3
    have hcut : ∀ W, (Instr.slice 22 (.slice A n c) none (some (.int .i64 4000)) none).run Try.prog W = .ok (.slice A 4000 c) W := fun W => by
      have hq := run_slice_h W 22 A n c ht' .i64 4000 (by omega) (by omega)
      rw [hq, he, hz8]
      cases A <;> simp [Result.andThen, sliced, Addr.add]
    have hr4 : Rd w w.heap.size 1 A 4000 ((zs.take 4000).map i64v) := by
      have hlen : zs.length = n := hn.symm
      refine ⟨by simp; omega, fun h0 => ?_⟩
      obtain ⟨b, o, rfl, hb, hcc⟩ := hr.2 (by omega)
      refine ⟨b, o, rfl, hb, fun k u hu => hcc k u ?_⟩
      have hk : k < 4000 := by
        have := (List.getElem?_eq_some_iff.1 hu).1
        simp at this; omega
      rw [← hu, List.map_take, List.getElem?_take_of_lt hk]
    have HN := Lib.hid (src_new w A 4000 c (zs.take 4000) 72 hr4 (by omega) (by omega) hm (fun z hz' => hz z (List.mem_of_mem_take hz')))
    clear h hn hc hm hr hz hr4 hz8 he ht'
    go_enter Try.func7, Try.ntmps7
    go_wp2
    go_ret
    exact HN.out
  · have HN := Lib.hid (src_new w A n c zs 72 hr (by omega) hc hm hz)
    clear h hn hc hm hr hz
    go_enter Try.func7, Try.ntmps7
    go_wp2
    go_ret
    exact HN.out
end Go.Proofs.Ytijpflljopckiaa
namespace Go.Proofs.Ytijpflljopckiaa
open Go.RowKit
set_option linter.unusedVariables false

/-- A handle. -/
structure Hn where
  id : Int
  gn : Int
  rt : Int
  ht : Int
abbrev Hn.v (H : Hn) : Value := .agg #[.int .i64 H.id, .int .i64 H.gn, .int .i64 H.rt, .int .i64 H.ht]
/-- Block q holds a handle. -/
def H4 (W : World) (q : Nat) (H : Hn) : Prop := W.cell? ⟨q, 0, none⟩ = some (.int .i64 H.id) ∧ W.cell? ⟨q, 1, none⟩ = some (.int .i64 H.gn) ∧ W.cell? ⟨q, 2, none⟩ = some (.int .i64 H.rt) ∧ W.cell? ⟨q, 3, none⟩ = some (.int .i64 H.ht) ∧ q < W.heap.size
theorem H4.up {W W' : World} {q : Nat} {H : Hn} (h : H4 W q H) (hb : Below W.heap.size W W') : H4 W' q H := by
  obtain ⟨h0, h1, h2, h3, hl⟩ := h
  exact ⟨(hb.cell (p := ⟨q, 0, none⟩) hl).trans h0, (hb.cell (p := ⟨q, 1, none⟩) hl).trans h1, (hb.cell (p := ⟨q, 2, none⟩) hl).trans h2, (hb.cell (p := ⟨q, 3, none⟩) hl).trans h3, Nat.lt_of_lt_of_le hl hb.size⟩
theorem H4.start (w : World) (H : Hn) (t : TypeId) : H4 (w.alloc (.cells #[.int .i64 H.id, .int .i64 H.gn, .int .i64 H.rt, .int .i64 H.ht] t)) w.heap.size H :=
  ⟨by simp [go_sem], by simp [go_sem], by simp [go_sem], by simp [go_sem], by simp⟩
end Go.Proofs.Ytijpflljopckiaa
namespace Go.Proofs.Ytijpflljopckiaa
open Go.RowKit
set_option linter.unusedVariables false

section
variable {S : Sh} {M : Msg}
end
/-- The cells of a message in a block. -/
abbrev M7 (q : Nat) (M : Msg) (W : World) : Prop := W.cell? ⟨q, 0, none⟩ = some (.int .i64 M.id) ∧ W.cell? ⟨q, 1, none⟩ = some (.int .i64 M.rt) ∧ W.cell? ⟨q, 2, none⟩ = some (.int .i64 M.ep) ∧ W.cell? ⟨q, 3, none⟩ = some (.int .i64 M.ct) ∧ W.cell? ⟨q, 4, none⟩ = some (.int .i64 M.gn) ∧ W.cell? ⟨q, 5, none⟩ = some (.int .i64 M.st) ∧ W.cell? ⟨q, 6, none⟩ = some (.string M.bd)
/-- A box of a message. -/
structure MBx (W : World) (q : Nat) (M : Msg) : Prop where
  m7 : M7 q M W
  fr : ∀ o, W.frozen? ⟨q, o, none⟩ = false
  lt : q < W.heap.size
theorem MBx.keep {W W' : World} {q : Nat} {M : Msg} (h : MBx W q M) (hc : ∀ o, W'.cell? ⟨q, o, none⟩ = W.cell? ⟨q, o, none⟩) (hf : ∀ o, W'.frozen? ⟨q, o, none⟩ = W.frozen? ⟨q, o, none⟩) (hs : W.heap.size ≤ W'.heap.size) : MBx W' q M := by
  obtain ⟨⟨h0, h1, h2, h3, h4, h5, h6⟩, hfr, hl⟩ := h
  exact ⟨⟨(hc 0).trans h0, (hc 1).trans h1, (hc 2).trans h2, (hc 3).trans h3, (hc 4).trans h4, (hc 5).trans h5, (hc 6).trans h6⟩, fun o => (hf o).trans (hfr o), Nat.lt_of_lt_of_le hl hs⟩
theorem MBx.up {W W' : World} {q : Nat} {M : Msg} (h : MBx W q M) (hb : Below W.heap.size W W') : MBx W' q M := h.keep (fun o => hb.cell (p := ⟨q, o, none⟩) h.lt) (fun o => hb.frozen (p := ⟨q, o, none⟩) h.lt) hb.size
theorem MBx.grown {W W' : World} {q : Nat} {M : Msg} (h : MBx W q M) {row : Option Nat} (hg : W.grownBy W' row) (hr : ∀ x, row = some x → x ≠ q) : MBx W' q M :=
  h.keep (fun o => hg.cell_far ⟨q, o, none⟩ h.lt (fun e => hr q e.symm rfl)) (fun o => hg.frozen_far ⟨q, o, none⟩ h.lt (fun e => hr q e.symm rfl)) hg.size
theorem MBx.start (w : World) (M : Msg) (t : TypeId) : MBx (w.alloc (.cells #[.int .i64 M.id, .int .i64 M.rt, .int .i64 M.ep, .int .i64 M.ct, .int .i64 M.gn, .int .i64 M.st, .string M.bd] t)) w.heap.size M :=
  ⟨⟨by simp [go_sem], by simp [go_sem], by simp [go_sem], by simp [go_sem], by simp [go_sem], by simp [go_sem], by simp [go_sem]⟩, fun o => by simp [go_sem], by simp⟩
theorem SB8.grown {W W' : World} {p : Nat} {S : Sh} {D : Sx} (h : SB8 W p S D) {row : Option Nat} (hg : W.grownBy W' row) (hr : ∀ x, row = some x → x ≠ p) : SB8 W' p S D :=
  h.keep (fun o => hg.cell_far ⟨p, o, none⟩ h.lt (fun e => hr p e.symm rfl)) (fun o => hg.frozen_far ⟨p, o, none⟩ h.lt (fun e => hr p e.symm rfl)) hg.size
/-- A shard and a message in boxes. -/
structure SmAt (w : World) (p q : Nat) (S : Sh) (D : Sx) (M : Msg) (W : World) : Prop where
  sa : SAt w p S D W
  mb : MBx W q M
  lt : p < q
theorem SmAt.below {w W W' : World} {p q : Nat} {S : Sh} {D : Sx} {M : Msg} (h : SmAt w p q S D M W) (hb : Below W.heap.size W W') : SmAt w p q S D M W' := ⟨h.sa.below hb, h.mb.up hb, h.lt⟩
theorem SmAt.alloc {w W : World} {p q : Nat} {S : Sh} {D : Sx} {M : Msg} (h : SmAt w p q S D M W) (o : Obj) : SmAt w p q S D M (W.alloc o) := h.below ((Below.refl _ _).alloc (Nat.le_refl _) o)
theorem SmAt.drew {w W : World} {p q : Nat} {S : Sh} {D : Sx} {M : Msg} (h : SmAt w p q S D M W) : SmAt w p q S D M W.drew := h.below ((Below.refl _ _).drew)
theorem SmAt.k {w W : World} {p q : Nat} {S : Sh} {D : Sx} {M : Msg} (h : SmAt w p q S D M W) : K8 p S D W ∧ M7 q M W := ⟨h.sa.k8, h.mb.m7⟩
theorem SmAt.start (w : World) (S : Sh) (D : Sx) (M : Msg) (t u : TypeId) (hs : SR w w.heap.size S D) : SmAt w w.heap.size (w.heap.size + 1) S D M ((w.alloc (.cells #[.bool S.lv, .int .i64 S.lo, .int .i64 S.hi, .slice D.A S.cs.length D.c, .int .i64 S.hd, .int .i64 S.sz, .slice D.A2 S.l.length D.c2, .slice D.A3 S.h.length D.c3] t)).alloc (.cells #[.int .i64 M.id, .int .i64 M.rt, .int .i64 M.ep, .int .i64 M.ct, .int .i64 M.gn, .int .i64 M.st, .string M.bd] u)) := by
  have h := MBx.start (w.alloc (.cells #[.bool S.lv, .int .i64 S.lo, .int .i64 S.hi, .slice D.A S.cs.length D.c, .int .i64 S.hd, .int .i64 S.sz, .slice D.A2 S.l.length D.c2, .slice D.A3 S.h.length D.c3] t)) M u
  rw [show (w.alloc (.cells #[.bool S.lv, .int .i64 S.lo, .int .i64 S.hi, .slice D.A S.cs.length D.c, .int .i64 S.hd, .int .i64 S.sz, .slice D.A2 S.l.length D.c2, .slice D.A3 S.h.length D.c3] t)).heap.size = w.heap.size + 1 by simp] at h
  exact ⟨(SAt.start t hs).alloc _, h, Nat.lt_succ_self _⟩
theorem SmAt.grown {w W W' : World} {p q lo : Nat} {S : Sh} {D : Sx} {M : Msg} (h : SmAt w p q S D M W) {row : Option Nat} (hg : W.grownBy W' row) (hr : ∀ x, row = some x → lo ≤ x) (hq : q < lo) : (K8 p S D W' ∧ M7 q M W') ∧ Below w.heap.size w W' :=
  ⟨⟨(h.sa.s8.grown hg (fun x e => by have := hr x e; have := h.lt; omega)).k8, (h.mb.grown hg (fun x e => by have := hr x e; omega)).m7⟩, h.sa.bel.grown hg h.sa.bel.size (fun x e => by have := hr x e; have := h.sa.old; have := h.lt; omega)⟩
end Go.Proofs.Ytijpflljopckiaa
namespace Go.Proofs.Ytijpflljopckiaa
open Go.RowKit
set_option linter.unusedVariables false

/-- A list of messages as a result, in new memory. -/
def LsV (w : World) (l : List Msg) (e : Ending) (w' : World) : Prop := ∃ A c, e = .returned (.slice A l.length c) ∧ Nw w.heap.size A ∧ Ls w' w'.heap.size (.slice A l.length c) l ∧ Below w.heap.size w w'
theorem eclp_elv {w w' : World} {l : List Le} {e : Ending} (h : EClP w l e w') : ElV w l e w' := by
  obtain ⟨v, rfl, ho, hb⟩ := h
  obtain ⟨A, c, rfl⟩ := own_form ho
  exact ⟨A, c, rfl, nwv_of (nwv_own ho (Nat.le_refl _)), El.of_own ho, hb⟩
theorem dclp_dlv {w w' : World} {l : List Du} {e : Ending} (h : DClP w l e w') : DlV w l e w' := by
  obtain ⟨v, rfl, ho, hb⟩ := h
  obtain ⟨A, c, rfl⟩ := own_form ho
  exact ⟨A, c, rfl, nwv_of (nwv_own ho (Nat.le_refl _)), Dl.of_own ho, hb⟩
end Go.Proofs.Ytijpflljopckiaa
namespace Go.Proofs.Ytijpflljopckiaa
open Go.RowKit
set_option linter.unusedVariables false

theorem MBx.put_far {W : World} {p q : Nat} {M : Msg} (h : MBx W q M) (hq : q ≠ p) (S : Sh) (D : Sx) : MBx (set8s W p S D) q M :=
  h.keep (fun o => set8s_far (q := ⟨q, o, none⟩) hq) (fun o => by rw [set8s_eq, World.frozen?_setCells]) (by rw [set8s_size]; exact Nat.le_refl _)
theorem SB8.put_far {W : World} {p q : Nat} {T : Sh} {E : Sx} (h : SB8 W q T E) (hq : q ≠ p) (S : Sh) (D : Sx) : SB8 (set8s W p S D) q T E :=
  h.keep (fun o => set8s_far (q := ⟨q, o, none⟩) hq) (fun o => by rw [set8s_eq, World.frozen?_setCells]) (by rw [set8s_size]; exact Nat.le_refl _)
/-- A shard, a message and a result box. -/
structure SmrAt (w : World) (p q r : Nat) (S : Sh) (D : Sx) (M : Msg) (W : World) : Prop where
  sm : SmAt w p q S D M W
  rs : SB8 W r zS zX
  ne : q < r
theorem SmrAt.below {w W W' : World} {p q r : Nat} {S : Sh} {D : Sx} {M : Msg} (h : SmrAt w p q r S D M W) (hb : Below W.heap.size W W') : SmrAt w p q r S D M W' := ⟨h.sm.below hb, h.rs.up hb, h.ne⟩
theorem SmrAt.put {w W : World} {p q r : Nat} {S T : Sh} {D E : Sx} {M : Msg} (h : SmrAt w p q r S D M W) (hr : SR W W.heap.size T E) (ho : SOff T E p) : SmrAt w p q r T E M (set8s W p T E) :=
  ⟨⟨h.sm.sa.put hr ho, h.sm.mb.put_far (by have := h.sm.lt; omega) T E, h.sm.lt⟩, h.rs.put_far (by have := h.sm.lt; have := h.ne; omega) T E, h.ne⟩
theorem SmrAt.start (w : World) (S : Sh) (D : Sx) (M : Msg) (t u v : TypeId) (hs : SR w w.heap.size S D) : SmrAt w w.heap.size (w.heap.size + 1) (w.heap.size + 1 + 1) S D M (((w.alloc (.cells #[.bool S.lv, .int .i64 S.lo, .int .i64 S.hi, .slice D.A S.cs.length D.c, .int .i64 S.hd, .int .i64 S.sz, .slice D.A2 S.l.length D.c2, .slice D.A3 S.h.length D.c3] t)).alloc (.cells #[.int .i64 M.id, .int .i64 M.rt, .int .i64 M.ep, .int .i64 M.ct, .int .i64 M.gn, .int .i64 M.st, .string M.bd] u)).alloc (.cells #[.bool false, .int .i64 0, .int .i64 0, .slice none 0 0, .int .i64 0, .int .i64 0, .slice none 0 0, .slice none 0 0] v)) := by
  have h := SB8.zero ((w.alloc (.cells #[.bool S.lv, .int .i64 S.lo, .int .i64 S.hi, .slice D.A S.cs.length D.c, .int .i64 S.hd, .int .i64 S.sz, .slice D.A2 S.l.length D.c2, .slice D.A3 S.h.length D.c3] t)).alloc (.cells #[.int .i64 M.id, .int .i64 M.rt, .int .i64 M.ep, .int .i64 M.ct, .int .i64 M.gn, .int .i64 M.st, .string M.bd] u)) v
  rw [show ((w.alloc (.cells #[.bool S.lv, .int .i64 S.lo, .int .i64 S.hi, .slice D.A S.cs.length D.c, .int .i64 S.hd, .int .i64 S.sz, .slice D.A2 S.l.length D.c2, .slice D.A3 S.h.length D.c3] t)).alloc (.cells #[.int .i64 M.id, .int .i64 M.rt, .int .i64 M.ep, .int .i64 M.ct, .int .i64 M.gn, .int .i64 M.st, .string M.bd] u)).heap.size = w.heap.size + 1 + 1 by simp] at h
  exact ⟨(SmAt.start w S D M t u hs).alloc _, h, Nat.lt_succ_self _⟩
theorem SB8.all {W : World} {r : Nat} {T : Sh} {E : Sx} (h : SB8 W r T E) : (W.cell? ⟨r, 0, none⟩ = some (.bool T.lv) ∧ W.cell? ⟨r, 1, none⟩ = some (.int .i64 T.lo) ∧ W.cell? ⟨r, 2, none⟩ = some (.int .i64 T.hi) ∧ W.cell? ⟨r, 3, none⟩ = some (.slice E.A T.cs.length E.c) ∧ W.cell? ⟨r, 4, none⟩ = some (.int .i64 T.hd) ∧ W.cell? ⟨r, 5, none⟩ = some (.int .i64 T.sz) ∧ W.cell? ⟨r, 6, none⟩ = some (.slice E.A2 T.l.length E.c2) ∧ W.cell? ⟨r, 7, none⟩ = some (.slice E.A3 T.h.length E.c3) ∧ r < W.heap.size) ∧ (W.frozen? ⟨r, 0, none⟩ = false ∧ W.frozen? ⟨r, 1, none⟩ = false ∧ W.frozen? ⟨r, 2, none⟩ = false ∧ W.frozen? ⟨r, 3, none⟩ = false ∧ W.frozen? ⟨r, 4, none⟩ = false ∧ W.frozen? ⟨r, 5, none⟩ = false ∧ W.frozen? ⟨r, 6, none⟩ = false ∧ W.frozen? ⟨r, 7, none⟩ = false) := ⟨h.facts, h.free⟩
end Go.Proofs.Ytijpflljopckiaa
