/- What is proved here: '==' of equal walks; awake of layer 16's laws returns true; (plain) a slice that reads as a list of numbers; New of the statements' base makes a source of a list; a walk among the arguments opened to its numbers, and shut again; a source beside boxes of walks; Pick of the statements' base picks one of the numbers. -/
import Derived.Test.YtkecnihgjepfeaaJ02
import Derived.Test.YtkecnihgjepfeaaRows
import Derived.WalkKit
import Derived.Outline
import Derived.IntWalk
import Derived.Lib.SmallJoins
import Derived.ChangeSame
namespace Go.Proofs.Ytkecnihgjepfeaa
open Go.RowKit
set_option linter.unusedVariables false
set_option linter.unusedSimpArgs false

theorem eqw_in (a : Wk) (W : World) : (Op.equalIn 10000 23 a.v a.v).run Try.prog W = .ok true W := by
  have u3 := Try.underlying3
  have hS : Try.prog.underlying 23 = some (.struct (Try.prog.fieldsOf 23)) := by kernel_rfl
  have hp : Try.prog.stoodInHeld 23 = false := by kernel_rfl
  rw [show (10000 : Nat) = 9999 + 1 from rfl, run_equalIn_agg W 9999 23 _ _ hS hp]
  simp only [Program.fieldsOf, Try.underlying23]
  have h0 : (a.nx == a.nx) = true := by simp
  have h1 : (a.cv == a.cv) = true := by simp
  go_simp
theorem eqw (a : Wk) : ∀ W, (binOp .eql 23 a.v a.v).run Try.prog W = .ok (.bool true) W := fun W => by
  rw [run_eql_struct, eqw_in]; rfl

theorem aw16_1 : bgW 40000 = ⟨40000, 0⟩ ∧ bgWE 40000 = 0 := ⟨rfl, rfl⟩
theorem aw16_2 : adW ⟨40000, 0⟩ 32768 65535 = ⟨0, 25536⟩ ∧ adWE ⟨40000, 0⟩ 32768 65535 = 0 := ⟨rfl, rfl⟩
set_option maxHeartbeats 2000000 in
set_option maxRecDepth 20000 in
theorem awake16_any (w : World) : Calls Try.prog 16 #[] w fun e w' => e = .returned (.bool true) ∧ Below w.heap.size w w' := by
  have H1 := Lib.hid (wbegin_any 40000 w)
  have H2 := Lib.hid (fun W => wadvance_any ⟨40000, 0⟩ 32768 65535 W)
  have H3 := Lib.hid (fun W => wover_any ⟨0, 25536⟩ W)
  have HE := Lib.hid (eqw ⟨0, 25536⟩)
  rw [aw16_1.1, aw16_1.2] at H1
  rw [aw16_2.1, aw16_2.2] at H2
  go_enter Try.func16, Try.ntmps16
  go_wp2_with fail
  refine H1.out.mono ?_
  rintro e w1 ⟨rfl, hb⟩
  have HG := Lib.hid (Wb.start w1 ⟨40000, 0⟩ 23)
  have HB := Lib.hid (hb.trans (((Below.refl w1.heap.size w1).alloc (Nat.le_refl _) (.cells #[.int .i64 40000, .int .i64 0] 23)).mono hb.size))
  have HS := Lib.hid hb.size
  obtain ⟨g, hg⟩ : ∃ g, g = w1.heap.size := ⟨_, rfl⟩
  have HN := Lib.hid hg
  rw [← hg] at HG
  clear hb hg
  go_upto_region 2 with (fail)
  rw [← HN.out]
  generalize w1.alloc (.cells #[.int .i64 40000, .int .i64 0] 23) = w2 at *
  obtain ⟨x0, x1, xl, f0, f1⟩ := HG.out.all
  go_wp2_with fail
  refine (H2.out _).mono ?_
  rintro e w3 ⟨rfl, hb⟩
  have HG3 := Lib.hid ((HG.out.up hb).set ⟨0, 25536⟩)
  have HB3 := Lib.hid (bel_set2 (HB.out.trans (hb.mono HB.out.size)) (r := g) (by rw [HN.out]; exact HS.out) (.int .i64 0) (.int .i64 25536))
  obtain ⟨x0, x1, xl, f0, f1⟩ := (HG.out.up hb).all
  clear hb HG
  go_upto_region 3 with (fail)
  generalize (w3.setCell ⟨g, 0, none⟩ (.int .i64 0)).setCell ⟨g, 1, none⟩ (.int .i64 25536) = w4 at *
  obtain ⟨x0, x1, xl, f0, f1⟩ := HG3.out.all
  have hE := HE.out
  go_wp2_with fail
  refine (H3.out _).mono ?_
  rintro e w5 ⟨rfl, hb⟩
  have HF := Lib.hid (HB3.out.trans (hb.mono HB3.out.size))
  go_wp2
  go_ret
  exact ⟨rfl, HF.out⟩
end Go.Proofs.Ytkecnihgjepfeaa
namespace Go.Proofs.Ytkecnihgjepfeaa
open Go.RowKit
set_option linter.unusedVariables false

/-- A value that is a slice, reads as the numbers zs and lies below B. -/
def Ns (w : World) (B : Nat) (v : Value) (zs : List Int) : Prop := ∃ A c, v = .slice A zs.length c ∧ zs.length ≤ c ∧ c ≤ maxLen ∧ Rd w B 1 A zs.length (zs.map i64v) ∧ ∀ z ∈ zs, -9223372036854775808 ≤ z ∧ z ≤ 9223372036854775807

section
variable {w w' : World} {B B' : Nat} {v : Value} {zs : List Int}
theorem Ns.nil : Ns w B (.slice none 0 0) [] := ⟨none, 0, rfl, Nat.le_refl _, Nat.zero_le _, Rd.nil none, by simp⟩
theorem Ns.below (h : Ns w B v zs) (hb : Below B w w') : Ns w' B v zs := by
  obtain ⟨A, c, e, hl, hm, h, hz⟩ := h; exact ⟨A, c, e, hl, hm, h.below hb, hz⟩
theorem Ns.parts {A : Option Addr} {n c : Nat} (h : Ns w B (.slice A n c) zs) : n = zs.length ∧ n ≤ c ∧ c ≤ maxLen ∧ Rd w B 1 A n (zs.map i64v) ∧ ∀ z ∈ zs, -9223372036854775808 ≤ z ∧ z ≤ 9223372036854775807 := by
  obtain ⟨A', c', e, hl, hm, h, hz⟩ := h
  injection e with e1 e2 e3
  subst e1; subst e2; subst e3
  exact ⟨rfl, hl, hm, h, hz⟩
/-- From the way in which the guide opens a slice of numbers that came in. -/
theorem Ns.of_cells {a : Addr} {l c : Nat} {zs : List Int} (hl : l ≤ c) (hm : c ≤ maxLen) (hz : zs.length = c) (hc : ∀ i, i < zs.length → w.cell? (a.add i) = some (.int .i64 (zs.getD i 0))) (hw : ∀ n ∈ zs, (Lit.int .i64 n).wf = true) :
    ∃ ys, Ns w w.heap.size (.slice (some a) l c) ys := by
  have hlen : (zs.take l).length = l := by simp; omega
  refine ⟨zs.take l, some a, c, by rw [hlen], by omega, hm, ⟨by simp, fun hn => ?_⟩, fun z hz' => ?_⟩
  · rw [hlen] at hn
    obtain ⟨b, o, spot⟩ := a
    have h0 := hc 0 (by omega)
    have hspot : spot = none := by simpa [Addr.add] using World.cell?_spot h0
    subst hspot
    refine ⟨b, o, rfl, World.block_lt_of_cell? w ⟨b, o, none⟩ (by simpa [Addr.add] using h0), fun j u hu => ?_⟩
    simp only [List.getElem?_map, Option.map_eq_some_iff] at hu
    obtain ⟨x, hx, rfl⟩ := hu
    obtain ⟨hj, rfl⟩ := List.getElem?_eq_some_iff.1 hx
    have hj' : j < zs.length := by simp at hj; omega
    have h := hc j hj'
    rw [add_mk] at h
    rw [h]
    simp [i64v, List.getD, hj']
  · have := hw z (List.mem_of_mem_take hz')
    simp only [Lit.wf, Bool.and_eq_true, decide_eq_true_eq] at this
    exact this
end
end Go.Proofs.Ytkecnihgjepfeaa
namespace Go.Proofs.Ytkecnihgjepfeaa
open Go.RowKit
set_option linter.unusedVariables false

/-- A new source. -/
def SrNew (w : World) (e : Ending) (w' : World) : Prop := ∃ g, e = .returned (.pointer (some ⟨g, 0, none⟩)) ∧ SrcAt w' w.heap.size g ∧ Below w.heap.size w w'

theorem src_new (w : World) (A : Option Addr) (n c : Nat) (zs : List Int) (t : TypeId) (h : Rd w w.heap.size 1 A n (zs.map i64v)) (hn : n ≤ 4000) (hc : n ≤ c) (hm : c ≤ maxLen) (hz : ∀ z ∈ zs, -9223372036854775808 ≤ z ∧ z ≤ 9223372036854775807) :
    SrNew w (.returned (.pointer (some ⟨w.heap.size, 0, none⟩))) (w.alloc (.cells #[.slice A n c, .int .i64 0] t)) :=
  ⟨_, rfl, ⟨Nat.le_refl _, by simp, A, n, c, 0, zs, by omega, hn, hc, hm, by simp [go_sem], by simp [go_sem], by simp [go_sem], h.alloc (Nat.le_refl _) _, hz⟩, (Below.refl _ _).alloc (Nat.le_refl _) _⟩

theorem new_src (A : Option Addr) (n c : Nat) (zs : List Int) (w : World) (h : Ns w w.heap.size (.slice A n c) zs) : Calls Try.prog 6 #[.slice A n c] w (SrNew w) := by
  obtain ⟨hn, hc, hm, hr, hz⟩ := h.parts
  by_cases h4 : (4000 : Int) < (n : Int)
  · have ht' : Try.prog.underlying 24 = some (.slice (Try.prog.elem 24)) := by kernel_rfl
    have he : Try.prog.elem 24 = 3 := by kernel_rfl
    have hz8 : ∀ w, (Go.sizeOf 3).run Try.prog w = .ok 1 w := Try.sizeOf3
    have hcut : ∀ W, (Instr.slice 24 (.slice A n c) none (some (.int .i64 4000)) none).run Try.prog W = .ok (.slice A 4000 c) W := fun W => by
      have hq := run_slice_h W 24 A n c ht' .i64 4000 (by omega) (by omega)
      rw [hq, he, hz8]
      cases A <;> simp [Result.andThen, sliced, Addr.add]
    have hr4 : Rd w w.heap.size 1 A 4000 ((zs.take 4000).map i64v) := by
      have hlen : zs.length = n := hn.symm
      refine ⟨by simp; omega, fun h0 => ?_⟩
      obtain ⟨b, o, rfl, hb, hcc⟩ := hr.2 (by omega)
      refine ⟨b, o, rfl, hb, fun k u hu => hcc k u ?_⟩
      have hk : k < 4000 := by
        have := (List.getElem?_eq_some_iff.1 hu).1
        simp at this; omega
      rw [← hu, List.map_take, List.getElem?_take_of_lt hk]
    have HN := Lib.hid (src_new w A 4000 c (zs.take 4000) 47 hr4 (by omega) (by omega) hm (fun z hz' => hz z (List.mem_of_mem_take hz')))
    clear h hn hc hm hr hz hr4 hz8 he ht'
    go_enter Try.func6, Try.ntmps6
    go_wp2
    go_ret
    exact HN.out
  · have HN := Lib.hid (src_new w A n c zs 47 hr (by omega) hc hm hz)
    clear h hn hc hm hr hz
    go_enter Try.func6, Try.ntmps6
    go_wp2
    go_ret
    exact HN.out
end Go.Proofs.Ytkecnihgjepfeaa
namespace Go.Proofs.Ytkecnihgjepfeaa
open Go.Joins Go.ChangeShapes Go.WideShapes Go.RowKit Go.Deep
set_option linter.unusedVariables false

/-- The walk as data; its numbers are numbers of 64 bits. -/
def Wk.d {H : Type} (x : Wk) : DataW H := .agg [.lit (.int .i64 x.nx), .lit (.int .i64 x.cv)]
def Wk.wf (x : Wk) : Prop := (Lit.int .i64 x.nx).wf = true ∧ (Lit.int .i64 x.cv).wf = true
theorem walk_cells : Try.prog.cellsOf 23 = 2 := by kernel_rfl
section
variable {H : Type} {enc : TypeId × Value → H} {w : World} {base : Nat} {spare : Nat → Bool} {held : Bool}
set_option maxRecDepth 20000 in
theorem open_walk {r : Reach} {b0 : Nat} {v : Value} {d : DataW H} {p : List MemPlace} (hv : Value.okWide Try.prog w r b0 23 v) (h : DataW.Trod enc Try.prog w base spare held 23 v d p) :
    ∃ x : Wk, v = x.v ∧ d = x.d ∧ p = [] ∧ x.wf := by
  obtain ⟨c0, c1, y0, y1, n, rfl, rfl, rfl, hy0, hy1⟩ := open_agg2 Try.underlying23 (by kernel_rfl) walk_cells hv h
  obtain ⟨a0, e0, rfl, w0⟩ := DataW.trod_int Try.underlying3 hy0
  obtain ⟨a1, e1, rfl, w1⟩ := DataW.trod_int Try.underlying3 hy1
  simp at e0 e1
  subst e0 e1
  exact ⟨⟨a0, a1⟩, rfl, rfl, rfl, w0, w1⟩
set_option maxRecDepth 20000 in
theorem shut_walk (x : Wk) (h : x.wf) : DataW.Trod enc Try.prog w base spare held 23 x.v x.d [] := by
  obtain ⟨w0, w1⟩ := h
  exact shut_agg2 (y0 := (.lit (.int .i64 x.nx), [])) (y1 := (.lit (.int .i64 x.cv), [])) Try.underlying23 (by kernel_rfl) walk_cells
    ⟨1, by simp [DataW.trod, Try.underlying3, w0]⟩ ⟨1, by simp [DataW.trod, Try.underlying3, w1]⟩
end
/-- A source and boxes of walks behind a call. -/
structure Wr (w : World) (B g : Nat) (bs : List (Nat × Wk)) (W : World) : Prop where
  src : SrcAt W B g
  bx : ∀ q ∈ bs, Wb W q.1 q.2 ∧ q.1 ≠ g ∧ w.heap.size ≤ q.1
  bel : Below w.heap.size w W
  lo : w.heap.size ≤ g ∧ w.heap.size ≤ B
section
variable {w W W' : World} {B g : Nat} {bs : List (Nat × Wk)}
theorem Wr.below (h : Wr w B g bs W) (hb : Below W.heap.size W W') : Wr w B g bs W' := ⟨h.src.below hb, fun q hq => ⟨(h.bx q hq).1.up hb, (h.bx q hq).2⟩, h.bel.trans (hb.mono h.bel.size), h.lo⟩
theorem Wr.drew (h : Wr w B g bs W) : Wr w B g bs W.drew := h.below (Below.refl _ _).drew
theorem Wr.turn (h : Wr w B g bs W) (hs : SrcAt W' B g) (hg : W.grownBy W' (some g)) : Wr w B g bs W' := ⟨hs, fun q hq => ⟨(h.bx q hq).1.grown hg (h.bx q hq).2.1, (h.bx q hq).2⟩, h.bel.grown hg h.bel.size (fun k e => by injection e with e; have := h.lo; omega), h.lo⟩
theorem Wr.box (h : Wr w B g bs W) (x : Wk) (t : TypeId) : Wr w B g ((W.heap.size, x) :: bs) (W.alloc (.cells #[.int .i64 x.nx, .int .i64 x.cv] t)) := by
  have hb : Below W.heap.size W (W.alloc (.cells #[.int .i64 x.nx, .int .i64 x.cv] t)) := (Below.refl _ _).alloc (Nat.le_refl _) _
  refine ⟨h.src.below hb, fun q hq => ?_, h.bel.trans (hb.mono h.bel.size), h.lo⟩
  rcases List.mem_cons.1 hq with rfl | hq
  · exact ⟨Wb.start W x t, by have := h.src.2.1; show W.heap.size ≠ g; omega, h.bel.size⟩
  · exact ⟨(h.bx q hq).1.up hb, (h.bx q hq).2⟩
theorem Wr.sub (h : Wr w B g bs W) {bs' : List (Nat × Wk)} (hs : ∀ q ∈ bs', q ∈ bs) : Wr w B g bs' W := ⟨h.src, fun q hq => h.bx q (hs q hq), h.bel, h.lo⟩
/-- A walk is stored. -/
theorem Wr.set (h : Wr w B g bs W) {p : Nat} {x : Wk} (hp : (p, x) ∈ bs) (hn : ∀ q ∈ bs, q.1 = p → q = (p, x)) (hB : B ≤ p) (y : Wk) : Wr w B g ((p, y) :: bs.filter (fun q => decide (q.1 ≠ p))) ((W.setCell ⟨p, 0, none⟩ (.int .i64 y.nx)).setCell ⟨p, 1, none⟩ (.int .i64 y.cv)) := by
  have h0 := h.bx _ hp
  have hpg : p ≠ g := h0.2.1
  refine ⟨(h.src.other (p := ⟨p, 0, none⟩) hpg hB _).other (p := ⟨p, 1, none⟩) hpg hB _, fun q hq => ?_, bel_set2 h.bel h0.2.2 _ _, h.lo⟩
  rcases List.mem_cons.1 hq with rfl | hq
  · exact ⟨h0.1.set y, h0.2⟩
  · obtain ⟨h1, h2⟩ := List.mem_filter.1 hq
    have h3 : q.1 ≠ p := of_decide_eq_true h2
    exact ⟨((h.bx q h1).1.other (a := ⟨p, 0, none⟩) (Ne.symm h3) _).other (a := ⟨p, 1, none⟩) (Ne.symm h3) _, (h.bx q h1).2⟩
end
end Go.Proofs.Ytkecnihgjepfeaa
namespace Go.Proofs.Ytkecnihgjepfeaa
open Go.RowKit
set_option linter.unusedVariables false

/-- A number of a row, taken by a source. -/
def SrPick (B g : Nat) (zs : List Int) (w : World) (e : Ending) (w' : World) : Prop := ∃ x, e = .returned (.int .i64 x) ∧ x ∈ zs ∧ SrcAt w' B g ∧ w.grownBy w' (some g)

set_option maxHeartbeats 2000000 in
theorem pick_any (B g : Nat) (w : World) (h : SrcAt w B g) (b n : Nat) (zs : List Int) (hn : n = zs.length) (hb : b < w.heap.size) (hne : b ≠ g) (h1 : 1 ≤ n) (h2 : n ≤ 1000) (hc : ∀ j (hj : j < zs.length), w.cell? ⟨b, j, none⟩ = some (.int .i64 zs[j])) :
    Calls Try.prog 12 #[.pointer (some ⟨g, 0, none⟩), .slice (some ⟨b, 0, none⟩) n n] w (SrPick B g zs w) := by
  have HC := Lib.hid (n_any B g w h n (by omega) (by omega))
  have HR := Lib.hid hc
  have HN := Lib.hid hn
  have h2' : (n : Int) ≤ 1000 := by omega
  have HB := Lib.hid hb
  have HE := Lib.hid hne
  clear h hc hn h2 hb hne
  go_enter Try.func12, Try.ntmps12
  go_wp2_with fail
  refine HC.out.mono ?_
  rintro e w1 ⟨x, rfl, hx1, hx2, hs, hg⟩
  obtain ⟨k, rfl⟩ := Int.eq_ofNat_of_zero_le hx1
  have hkl : k < zs.length := by have := HN.out; omega
  have hcell := (hg.cell_far ⟨b, k, none⟩ HB.out (fun e => HE.out (by injection e))).trans (HR.out k hkl)
  have HM := Lib.hid (List.getElem_mem hkl)
  generalize zs[k] = z at *
  have hkn : k < n := by have := HN.out; omega
  have HS := Lib.hid hs
  have HG := Lib.hid hg
  clear hs hg hkl
  go_wp2
  go_ret
  exact ⟨z, rfl, HM.out, HS.out, HG.out⟩
end Go.Proofs.Ytkecnihgjepfeaa
