/- What is proved here: (plain) a box of six booleans: what DirectoryHomes holds beside its source and its directory; New of the statements' base makes a source of a list. -/
import Derived.Test.YtdilgeabcacbdaaJ12
import Derived.Test.YtdilgeabcacbdaaJ03
import Derived.Test.YtdilgeabcacbdaaJ01
namespace Go.Proofs.Ytdilgeabcacbdaa
open Go.RowKit
set_option linter.unusedVariables false

/-- Block q holds six booleans, and may be written. -/
structure EvB (W : World) (q : Nat) (v : Nat → Bool) : Prop where
  c : ∀ j, j < 6 → W.cell? ⟨q, j, none⟩ = some (.bool (v j))
  fr : ∀ o, W.frozen? ⟨q, o, none⟩ = false
  lt : q < W.heap.size
section
variable {W W' : World} {q g : Nat} {v u : Nat → Bool}
theorem EvB.up (h : EvB W q v) (hb : Below W.heap.size W W') : EvB W' q v :=
  ⟨fun j hj => (hb.cell (p := ⟨q, j, none⟩) h.lt).trans (h.c j hj), fun o => (hb.frozen (p := ⟨q, o, none⟩) h.lt).trans (h.fr o), Nat.lt_of_lt_of_le h.lt hb.size⟩
theorem EvB.grown (h : EvB W q v) (hg : W.grownBy W' (some g)) (hne : q ≠ g) : EvB W' q v :=
  ⟨fun j hj => (hg.cell_far ⟨q, j, none⟩ h.lt (fun e => by injection e with e; exact hne e)).trans (h.c j hj), fun o => (hg.frozen_far ⟨q, o, none⟩ h.lt (fun e => by injection e with e; exact hne e)).trans (h.fr o), Nat.lt_of_lt_of_le h.lt hg.size⟩
theorem EvB.other (h : EvB W q v) {a : Addr} (hne : a.block ≠ q) (x : Value) : EvB (W.setCell a x) q v :=
  ⟨fun j hj => (World.cell?_setCell_other W a ⟨q, j, none⟩ x (fun e => hne (by rw [e]))).trans (h.c j hj), fun o => by rw [World.frozen?_setCell]; exact h.fr o, by simpa using h.lt⟩
theorem EvB.set (h : EvB W q v) {k : Nat} (hk : k < 6) (b : Bool) : EvB (W.setCell ⟨q, k, none⟩ (.bool b)) q (fun j => if j = k then b else v j) := by
  refine ⟨fun j hj => ?_, fun o => by rw [World.frozen?_setCell]; exact h.fr o, by simpa using h.lt⟩
  by_cases e : j = k
  · subst e
    rw [if_pos rfl]
    exact World.cell?_setCell_same' W _ _ (by rw [h.c j hk]; rfl)
  · rw [if_neg e]
    exact (World.cell?_setCell_other W _ _ _ (fun e' => by injection e' with _ e2; exact e e2.symm)).trans (h.c j hj)
theorem EvB.congr (h : EvB W q v) (e : ∀ j, j < 6 → v j = u j) : EvB W q u := ⟨fun j hj => by rw [h.c j hj, e j hj], h.fr, h.lt⟩
theorem EvB.start (w : World) (t : TypeId) : EvB (w.alloc (.cells #[.bool false, .bool false, .bool false, .bool false, .bool false, .bool false] t)) w.heap.size (fun j => decide (j < 0)) := by
  refine ⟨fun j hj => ?_, fun o => by simp [go_sem], by simp⟩
  match j, hj with
  | 0, _ => simp [go_sem]
  | 1, _ => simp [go_sem]
  | 2, _ => simp [go_sem]
  | 3, _ => simp [go_sem]
  | 4, _ => simp [go_sem]
  | 5, _ => simp [go_sem]
end
/-- The source, the directory, the booleans. -/
structure HoAt (w : World) (g p q : Nat) (d : Dd) (X : Dx) (v : Nat → Bool) (W : World) : Prop where
  ds : DsAt w w.heap.size g p d X W
  ev : EvB W q v
  qn : q ≠ g ∧ q ≠ p ∧ w.heap.size ≤ q ∧ DOff d X q
section
variable {w W W' : World} {g p q : Nat} {d : Dd} {X : Dx} {v : Nat → Bool}
theorem HoAt.below (h : HoAt w g p q d X v W) (hb : Below W.heap.size W W') : HoAt w g p q d X v W' := ⟨h.ds.below hb, h.ev.up hb, h.qn⟩
theorem HoAt.turn (h : HoAt w g p q d X v W) (hs : SrcAt W' w.heap.size g) (hg : W.grownBy W' (some g)) : HoAt w g p q d X v W' := ⟨h.ds.turn hs hg, h.ev.grown hg h.qn.1, h.qn⟩
theorem HoAt.set (h : HoAt w g p q d X v W) {k : Nat} (hk : k < 6) (b : Bool) : HoAt w g p q d X (fun j => if j = k then b else v j) (W.setCell ⟨q, k, none⟩ (.bool b)) :=
  ⟨h.ds.other (a := ⟨q, k, none⟩) h.qn.2.1 h.qn.1 h.qn.2.2.2 h.qn.2.2.1 _, h.ev.set hk b, h.qn⟩
theorem HoAt.congr {u : Nat → Bool} (h : HoAt w g p q d X v W) (e : ∀ j, j < 6 → v j = u j) : HoAt w g p q d X u W := ⟨h.ds, h.ev.congr e, h.qn⟩
theorem HoAt.put (h : HoAt w g p q d X v W) {d' : Dd} {Y : Dx} (hr : DR W W.heap.size d' Y) (o1 : DOff d' Y p) (o2 : DOff d' Y g) (o3 : DOff d' Y q) :
    HoAt w g p q d' Y v (((W.setCell ⟨p, 0, none⟩ (.int .i64 d'.vn)).setCell ⟨p, 1, none⟩ (.slice Y.A d'.l.length Y.c)).setCell ⟨p, 2, none⟩ (.slice Y.A2 d'.F.length Y.c2)) :=
  ⟨h.ds.put hr o1 o2, ((h.ev.other (a := ⟨p, 0, none⟩) (fun e => h.qn.2.1 e.symm) _).other (a := ⟨p, 1, none⟩) (fun e => h.qn.2.1 e.symm) _).other (a := ⟨p, 2, none⟩) (fun e => h.qn.2.1 e.symm) _, h.qn.1, h.qn.2.1, h.qn.2.2.1, o3⟩
theorem HoAt.start (h : DsAt w w.heap.size g p d X W) (t : TypeId) : HoAt w g p W.heap.size d X (fun j => decide (j < 0)) (W.alloc (.cells #[.bool false, .bool false, .bool false, .bool false, .bool false, .bool false] t)) :=
  ⟨h.below ((Below.refl _ _).alloc (Nat.le_refl _) _), EvB.start W t, by have := h.src.2.1; omega, by have := h.db.lt; omega, h.bel.size, h.dr.offs (Nat.le_refl _)⟩
end
end Go.Proofs.Ytdilgeabcacbdaa
namespace Go.Proofs.Ytdilgeabcacbdaa
open Go.RowKit
set_option linter.unusedVariables false

/-- A new source. -/
def SrNew (w : World) (e : Ending) (w' : World) : Prop := ∃ g, e = .returned (.pointer (some ⟨g, 0, none⟩)) ∧ SrcAt w' w.heap.size g ∧ Below w.heap.size w w'

theorem src_new (w : World) (A : Option Addr) (n c : Nat) (zs : List Int) (t : TypeId) (h : Rd w w.heap.size 1 A n (zs.map i64v)) (hn : n ≤ 4000) (hc : n ≤ c) (hm : c ≤ maxLen) (hz : ∀ z ∈ zs, -9223372036854775808 ≤ z ∧ z ≤ 9223372036854775807) :
    SrNew w (.returned (.pointer (some ⟨w.heap.size, 0, none⟩))) (w.alloc (.cells #[.slice A n c, .int .i64 0] t)) :=
  ⟨_, rfl, ⟨Nat.le_refl _, by simp, A, n, c, 0, zs, by omega, hn, hc, hm, by simp [go_sem], by simp [go_sem], by simp [go_sem], h.alloc (Nat.le_refl _) _, hz⟩, (Below.refl _ _).alloc (Nat.le_refl _) _⟩

theorem new_src (A : Option Addr) (n c : Nat) (zs : List Int) (w : World) (h : Ns w w.heap.size (.slice A n c) zs) : Calls Try.prog 24 #[.slice A n c] w (SrNew w) := by
  obtain ⟨hn, hc, hm, hr, hz⟩ := h.parts
  by_cases h4 : (4000 : Int) < (n : Int)
  · have ht' : Try.prog.underlying 45 = some (.slice (Try.prog.elem 45)) := by kernel_rfl
    have he : Try.prog.elem 45 = 3 := by kernel_rfl
    have hz8 : ∀ w, (Go.sizeOf 3).run Try.prog w = .ok 1 w := Try.sizeOf3
    have hcut : ∀ W, (Instr.slice 45 (.slice A n c) none (some (.int .i64 4000)) none).run Try.prog W = .ok (.slice A 4000 c) W := fun W => by
      have hq := run_slice_h W 45 A n c ht' .i64 4000 (by omega) (by omega)
      rw [hq, he, hz8]
      cases A <;> simp [Result.andThen, sliced, Addr.add]
    have hr4 : Rd w w.heap.size 1 A 4000 ((zs.take 4000).map i64v) := by
      have hlen : zs.length = n := hn.symm
      refine ⟨by simp; omega, fun h0 => ?_⟩
      obtain ⟨b, o, rfl, hb, hcc⟩ := hr.2 (by omega)
      refine ⟨b, o, rfl, hb, fun k u hu => hcc k u ?_⟩
      have hk : k < 4000 := by
        have := (List.getElem?_eq_some_iff.1 hu).1
        simp at this; omega
      rw [← hu, List.map_take, List.getElem?_take_of_lt hk]
    have HN := Lib.hid (src_new w A 4000 c (zs.take 4000) 80 hr4 (by omega) (by omega) hm (fun z hz' => hz z (List.mem_of_mem_take hz')))
    clear h hn hc hm hr hz hr4 hz8 he ht'
    go_enter Try.func24, Try.ntmps24
    go_wp2
    go_ret
    exact HN.out
  · have HN := Lib.hid (src_new w A n c zs 80 hr (by omega) hc hm hz)
    clear h hn hc hm hr hz
    go_enter Try.func24, Try.ntmps24
    go_wp2
    go_ret
    exact HN.out
end Go.Proofs.Ytdilgeabcacbdaa
