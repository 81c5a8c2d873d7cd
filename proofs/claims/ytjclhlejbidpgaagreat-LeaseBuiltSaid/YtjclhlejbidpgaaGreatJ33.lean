/- What is proved here: a message among the arguments opened to its numbers and its body, and shut again; (plain) a slice that reads as a list of numbers; New of the statements' base makes a source of a list. -/
import Derived.Test.YtjclhlejbidpgaaGreatJ03
import Derived.Lib.SmallJoins
import Derived.ChangeSame
import Derived.Test.YtjclhlejbidpgaaGreatJ19
import Derived.Test.YtjclhlejbidpgaaGreatJ02
namespace Go.Proofs.YtjclhlejbidpgaaGreat
open Go.Joins Go.ChangeShapes Go.WideShapes Go.RowKit Go.Deep
set_option linter.unusedVariables false

section
variable {H : Type} {enc : TypeId × Value → H} {P : Program} {w : World} {base : Nat} {spare : Nat → Bool} {held : Bool}
theorem open_agg7 {r : Reach} {b0 : Nat} {t : TypeId} {f0 f1 f2 f3 f4 f5 f6 : Field} {v : Value} {d : DataW H} {p : List MemPlace} (hs : P.underlying t = some (.struct #[f0, f1, f2, f3, f4, f5, f6])) (hone : oneCellFields P #[f0, f1, f2, f3, f4, f5, f6] = true) (hC : P.cellsOf t = 7)
    (hv : Value.okWide P w r b0 t v) (h : DataW.Trod enc P w base spare held t v d p) :
    ∃ (v0 v1 v2 v3 v4 v5 v6 : Value) (y0 y1 y2 y3 y4 y5 y6 : DataW H × List MemPlace) (n : Nat), v = .agg #[v0, v1, v2, v3, v4, v5, v6] ∧ d = .agg [y0.1, y1.1, y2.1, y3.1, y4.1, y5.1, y6.1] ∧ p = y0.2 ++ (y1.2 ++ (y2.2 ++ (y3.2 ++ (y4.2 ++ (y5.2 ++ (y6.2)))))) ∧
      DataW.trod enc P w base spare held n f0.type [v0] = some y0 ∧ DataW.trod enc P w base spare held n f1.type [v1] = some y1 ∧ DataW.trod enc P w base spare held n f2.type [v2] = some y2 ∧ DataW.trod enc P w base spare held n f3.type [v3] = some y3 ∧ DataW.trod enc P w base spare held n f4.type [v4] = some y4 ∧ DataW.trod enc P w base spare held n f5.type [v5] = some y5 ∧ DataW.trod enc P w base spare held n f6.type [v6] = some y6 := by
  obtain ⟨cs, rfl, hsz⟩ := okWide_struct hs hv
  obtain ⟨l⟩ := cs
  match l, hsz.trans hC with
  | [c0, c1, c2, c3, c4, c5, c6], _ =>
    obtain ⟨fuel, hf⟩ := h
    obtain ⟨xs, n, _, hx, _, hlen, hg⟩ := DataW.trod_struct hs hf
    obtain ⟨o0, k0⟩ := hone_of hone 0 f0 rfl
    obtain ⟨o1, k1⟩ := hone_of hone 1 f1 rfl
    obtain ⟨o2, k2⟩ := hone_of hone 2 f2 rfl
    obtain ⟨o3, k3⟩ := hone_of hone 3 f3 rfl
    obtain ⟨o4, k4⟩ := hone_of hone 4 f4 rfl
    obtain ⟨o5, k5⟩ := hone_of hone 5 f5 rfl
    obtain ⟨o6, k6⟩ := hone_of hone 6 f6 rfl
    match xs, hlen with
    | [y0, y1, y2, y3, y4, y5, y6], _ =>
      simp only [Prod.mk.injEq] at hx
      exact ⟨c0, c1, c2, c3, c4, c5, c6, y0, y1, y2, y3, y4, y5, y6, n, rfl, by simpa using hx.1, by simpa using hx.2, by simpa [Value.cells, o0, k0] using hg 0 f0 rfl, by simpa [Value.cells, o1, k1] using hg 1 f1 rfl, by simpa [Value.cells, o2, k2] using hg 2 f2 rfl, by simpa [Value.cells, o3, k3] using hg 3 f3 rfl, by simpa [Value.cells, o4, k4] using hg 4 f4 rfl, by simpa [Value.cells, o5, k5] using hg 5 f5 rfl, by simpa [Value.cells, o6, k6] using hg 6 f6 rfl⟩

theorem shut_agg7 {t : TypeId} {f0 f1 f2 f3 f4 f5 f6 : Field} {v0 v1 v2 v3 v4 v5 v6 : Value} {y0 y1 y2 y3 y4 y5 y6 : DataW H × List MemPlace} (hs : P.underlying t = some (.struct #[f0, f1, f2, f3, f4, f5, f6])) (hone : oneCellFields P #[f0, f1, f2, f3, f4, f5, f6] = true) (hC : P.cellsOf t = 7)
    (t0 : ∃ n, DataW.trod enc P w base spare held n f0.type [v0] = some y0) (t1 : ∃ n, DataW.trod enc P w base spare held n f1.type [v1] = some y1) (t2 : ∃ n, DataW.trod enc P w base spare held n f2.type [v2] = some y2) (t3 : ∃ n, DataW.trod enc P w base spare held n f3.type [v3] = some y3) (t4 : ∃ n, DataW.trod enc P w base spare held n f4.type [v4] = some y4) (t5 : ∃ n, DataW.trod enc P w base spare held n f5.type [v5] = some y5) (t6 : ∃ n, DataW.trod enc P w base spare held n f6.type [v6] = some y6) :
    DataW.Trod enc P w base spare held t (.agg #[v0, v1, v2, v3, v4, v5, v6]) (.agg [y0.1, y1.1, y2.1, y3.1, y4.1, y5.1, y6.1]) (y0.2 ++ (y1.2 ++ (y2.2 ++ (y3.2 ++ (y4.2 ++ (y5.2 ++ (y6.2))))))) := by
  obtain ⟨n0, t0⟩ := t0
  obtain ⟨n1, t1⟩ := t1
  obtain ⟨n2, t2⟩ := t2
  obtain ⟨n3, t3⟩ := t3
  obtain ⟨n4, t4⟩ := t4
  obtain ⟨n5, t5⟩ := t5
  obtain ⟨n6, t6⟩ := t6
  obtain ⟨o0, k0⟩ := hone_of hone 0 f0 rfl
  obtain ⟨o1, k1⟩ := hone_of hone 1 f1 rfl
  obtain ⟨o2, k2⟩ := hone_of hone 2 f2 rfl
  obtain ⟨o3, k3⟩ := hone_of hone 3 f3 rfl
  obtain ⟨o4, k4⟩ := hone_of hone 4 f4 rfl
  obtain ⟨o5, k5⟩ := hone_of hone 5 f5 rfl
  obtain ⟨o6, k6⟩ := hone_of hone 6 f6 rfl
  have s0 : DataW.trod enc P w base spare held (n0 + n1 + n2 + n3 + n4 + n5 + n6) f0.type ((([v0, v1, v2, v3, v4, v5, v6] : List Value).drop f0.offset).take (P.cellsOf f0.type)) = some y0 := by simpa [o0, k0] using DataW.trod_le (show n0 ≤ n0 + n1 + n2 + n3 + n4 + n5 + n6 by omega) t0
  have s1 : DataW.trod enc P w base spare held (n0 + n1 + n2 + n3 + n4 + n5 + n6) f1.type ((([v0, v1, v2, v3, v4, v5, v6] : List Value).drop f1.offset).take (P.cellsOf f1.type)) = some y1 := by simpa [o1, k1] using DataW.trod_le (show n1 ≤ n0 + n1 + n2 + n3 + n4 + n5 + n6 by omega) t1
  have s2 : DataW.trod enc P w base spare held (n0 + n1 + n2 + n3 + n4 + n5 + n6) f2.type ((([v0, v1, v2, v3, v4, v5, v6] : List Value).drop f2.offset).take (P.cellsOf f2.type)) = some y2 := by simpa [o2, k2] using DataW.trod_le (show n2 ≤ n0 + n1 + n2 + n3 + n4 + n5 + n6 by omega) t2
  have s3 : DataW.trod enc P w base spare held (n0 + n1 + n2 + n3 + n4 + n5 + n6) f3.type ((([v0, v1, v2, v3, v4, v5, v6] : List Value).drop f3.offset).take (P.cellsOf f3.type)) = some y3 := by simpa [o3, k3] using DataW.trod_le (show n3 ≤ n0 + n1 + n2 + n3 + n4 + n5 + n6 by omega) t3
  have s4 : DataW.trod enc P w base spare held (n0 + n1 + n2 + n3 + n4 + n5 + n6) f4.type ((([v0, v1, v2, v3, v4, v5, v6] : List Value).drop f4.offset).take (P.cellsOf f4.type)) = some y4 := by simpa [o4, k4] using DataW.trod_le (show n4 ≤ n0 + n1 + n2 + n3 + n4 + n5 + n6 by omega) t4
  have s5 : DataW.trod enc P w base spare held (n0 + n1 + n2 + n3 + n4 + n5 + n6) f5.type ((([v0, v1, v2, v3, v4, v5, v6] : List Value).drop f5.offset).take (P.cellsOf f5.type)) = some y5 := by simpa [o5, k5] using DataW.trod_le (show n5 ≤ n0 + n1 + n2 + n3 + n4 + n5 + n6 by omega) t5
  have s6 : DataW.trod enc P w base spare held (n0 + n1 + n2 + n3 + n4 + n5 + n6) f6.type ((([v0, v1, v2, v3, v4, v5, v6] : List Value).drop f6.offset).take (P.cellsOf f6.type)) = some y6 := by simpa [o6, k6] using DataW.trod_le (show n6 ≤ n0 + n1 + n2 + n3 + n4 + n5 + n6 by omega) t6
  have := trod_struct_mk (enc := enc) (w := w) (base := base) (spare := spare) (held := held) (n := n0 + n1 + n2 + n3 + n4 + n5 + n6) (cs := [v0, v1, v2, v3, v4, v5, v6]) (xs := [y0, y1, y2, y3, y4, y5, y6]) hs (by simp [hC]) (by simp only [List.mapM_cons, List.mapM_nil, s0, s1, s2, s3, s4, s5, s6]; rfl)
  exact ⟨_, by simpa [Value.cells] using this⟩
end

/-- The message as data. -/
def Msg.d {H : Type} (M : Msg) : DataW H := .agg [.lit (.int .i64 M.id), .lit (.int .i64 M.rt), .lit (.int .i64 M.ep), .lit (.int .i64 M.ct), .lit (.int .i64 M.gn), .lit (.int .i64 M.st), .lit (.string M.bd.data.toList)]
/-- The numbers are numbers of 64 bits, the body is no longer than a string can be. -/
def Msg.wf (M : Msg) : Prop := (Lit.int .i64 M.id).wf = true ∧ (Lit.int .i64 M.rt).wf = true ∧ (Lit.int .i64 M.ep).wf = true ∧ (Lit.int .i64 M.ct).wf = true ∧ (Lit.int .i64 M.gn).wf = true ∧ (Lit.int .i64 M.st).wf = true ∧ M.bd.size ≤ maxLen

theorem msg_cells : Tryz.prog.cellsOf 27 = 7 := by kernel_rfl

section
variable {H : Type} {enc : TypeId × Value → H} {w : World} {base : Nat} {spare : Nat → Bool} {held : Bool}
set_option maxRecDepth 20000 in
theorem open_msg {r : Reach} {b0 : Nat} {v : Value} {d : DataW H} {p : List MemPlace} (hv : Value.okWide Tryz.prog w r b0 27 v) (h : DataW.Trod enc Tryz.prog w base spare held 27 v d p) :
    ∃ M : Msg, v = M.v ∧ d = M.d ∧ p = [] ∧ M.wf := by
  obtain ⟨c0, c1, c2, c3, c4, c5, c6, y0, y1, y2, y3, y4, y5, y6, n, rfl, rfl, rfl, hy0, hy1, hy2, hy3, hy4, hy5, hy6⟩ := open_agg7 Tryz.underlying27 (by kernel_rfl) msg_cells hv h
  obtain ⟨a0, e0, rfl, w0⟩ := DataW.trod_int Tryz.underlying3 hy0
  obtain ⟨a1, e1, rfl, w1⟩ := DataW.trod_int Tryz.underlying3 hy1
  obtain ⟨a2, e2, rfl, w2⟩ := DataW.trod_int Tryz.underlying3 hy2
  obtain ⟨a3, e3, rfl, w3⟩ := DataW.trod_int Tryz.underlying3 hy3
  obtain ⟨a4, e4, rfl, w4⟩ := DataW.trod_int Tryz.underlying3 hy4
  obtain ⟨a5, e5, rfl, w5⟩ := DataW.trod_int Tryz.underlying3 hy5
  obtain ⟨a6, e6, rfl, w6⟩ := DataW.trod_string Tryz.underlying9 hy6
  simp at e0 e1 e2 e3 e4 e5 e6
  subst e0 e1 e2 e3 e4 e5 e6
  exact ⟨⟨a0, a1, a2, a3, a4, a5, a6⟩, rfl, rfl, rfl, w0, w1, w2, w3, w4, w5, w6⟩
set_option maxRecDepth 20000 in
theorem shut_msg (M : Msg) (h : M.wf) : DataW.Trod enc Tryz.prog w base spare held 27 M.v M.d [] := by
  obtain ⟨w0, w1, w2, w3, w4, w5, w6⟩ := h
  exact shut_agg7 (y0 := (.lit (.int .i64 M.id), [])) (y1 := (.lit (.int .i64 M.rt), [])) (y2 := (.lit (.int .i64 M.ep), [])) (y3 := (.lit (.int .i64 M.ct), [])) (y4 := (.lit (.int .i64 M.gn), [])) (y5 := (.lit (.int .i64 M.st), [])) (y6 := (.lit (.string M.bd.data.toList), [])) Tryz.underlying27 (by kernel_rfl) msg_cells
    ⟨1, by simp [DataW.trod, Tryz.underlying3, w0]⟩ ⟨1, by simp [DataW.trod, Tryz.underlying3, w1]⟩ ⟨1, by simp [DataW.trod, Tryz.underlying3, w2]⟩ ⟨1, by simp [DataW.trod, Tryz.underlying3, w3]⟩ ⟨1, by simp [DataW.trod, Tryz.underlying3, w4]⟩ ⟨1, by simp [DataW.trod, Tryz.underlying3, w5]⟩ ⟨1, by simp [DataW.trod, Tryz.underlying9, w6]⟩
end
end Go.Proofs.YtjclhlejbidpgaaGreat
namespace Go.Proofs.YtjclhlejbidpgaaGreat
open Go.RowKit
set_option linter.unusedVariables false

/-- A value that is a slice, reads as the numbers zs and lies below B. -/
def Ns (w : World) (B : Nat) (v : Value) (zs : List Int) : Prop := ∃ A c, v = .slice A zs.length c ∧ zs.length ≤ c ∧ c ≤ maxLen ∧ Rd w B 1 A zs.length (zs.map i64v) ∧ ∀ z ∈ zs, -9223372036854775808 ≤ z ∧ z ≤ 9223372036854775807

section
variable {w w' : World} {B B' : Nat} {v : Value} {zs : List Int}
theorem Ns.nil : Ns w B (.slice none 0 0) [] := ⟨none, 0, rfl, Nat.le_refl _, Nat.zero_le _, Rd.nil none, by simp⟩
theorem Ns.below (h : Ns w B v zs) (hb : Below B w w') : Ns w' B v zs := by
  obtain ⟨A, c, e, hl, hm, h, hz⟩ := h; exact ⟨A, c, e, hl, hm, h.below hb, hz⟩
theorem Ns.parts {A : Option Addr} {n c : Nat} (h : Ns w B (.slice A n c) zs) : n = zs.length ∧ n ≤ c ∧ c ≤ maxLen ∧ Rd w B 1 A n (zs.map i64v) ∧ ∀ z ∈ zs, -9223372036854775808 ≤ z ∧ z ≤ 9223372036854775807 := by
  obtain ⟨A', c', e, hl, hm, h, hz⟩ := h
  injection e with e1 e2 e3
  subst e1; subst e2; subst e3
  exact ⟨rfl, hl, hm, h, hz⟩
/-- From the way in which the guide opens a slice of numbers that came in. -/
theorem Ns.of_cells {a : Addr} {l c : Nat} {zs : List Int} (hl : l ≤ c) (hm : c ≤ maxLen) (hz : zs.length = c) (hc : ∀ i, i < zs.length → w.cell? (a.add i) = some (.int .i64 (zs.getD i 0))) (hw : ∀ n ∈ zs, (Lit.int .i64 n).wf = true) :
    ∃ ys, Ns w w.heap.size (.slice (some a) l c) ys := by
  have hlen : (zs.take l).length = l := by simp; omega
  refine ⟨zs.take l, some a, c, by rw [hlen], by omega, hm, ⟨by simp, fun hn => ?_⟩, fun z hz' => ?_⟩
  · rw [hlen] at hn
    obtain ⟨b, o, spot⟩ := a
    have h0 := hc 0 (by omega)
    have hspot : spot = none := by simpa [Addr.add] using World.cell?_spot h0
    subst hspot
    refine ⟨b, o, rfl, World.block_lt_of_cell? w ⟨b, o, none⟩ (by simpa [Addr.add] using h0), fun j u hu => ?_⟩
    simp only [List.getElem?_map, Option.map_eq_some_iff] at hu
    obtain ⟨x, hx, rfl⟩ := hu
    obtain ⟨hj, rfl⟩ := List.getElem?_eq_some_iff.1 hx
    have hj' : j < zs.length := by simp at hj; omega
    have h := hc j hj'
    rw [add_mk] at h
    rw [h]
    simp [i64v, List.getD, hj']
  · have := hw z (List.mem_of_mem_take hz')
    simp only [Lit.wf, Bool.and_eq_true, decide_eq_true_eq] at this
    exact this
end
end Go.Proofs.YtjclhlejbidpgaaGreat
namespace Go.Proofs.YtjclhlejbidpgaaGreat
open Go.RowKit
set_option linter.unusedVariables false

/-- A new source. -/
def SrNew (w : World) (e : Ending) (w' : World) : Prop := ∃ g, e = .returned (.pointer (some ⟨g, 0, none⟩)) ∧ SrcAt w' w.heap.size g ∧ Below w.heap.size w w'

theorem src_new (w : World) (A : Option Addr) (n c : Nat) (zs : List Int) (t : TypeId) (h : Rd w w.heap.size 1 A n (zs.map i64v)) (hn : n ≤ 4000) (hc : n ≤ c) (hm : c ≤ maxLen) (hz : ∀ z ∈ zs, -9223372036854775808 ≤ z ∧ z ≤ 9223372036854775807) :
    SrNew w (.returned (.pointer (some ⟨w.heap.size, 0, none⟩))) (w.alloc (.cells #[.slice A n c, .int .i64 0] t)) :=
  ⟨_, rfl, ⟨Nat.le_refl _, by simp, A, n, c, 0, zs, by omega, hn, hc, hm, by simp [go_sem], by simp [go_sem], by simp [go_sem], h.alloc (Nat.le_refl _) _, hz⟩, (Below.refl _ _).alloc (Nat.le_refl _) _⟩

theorem new_src (A : Option Addr) (n c : Nat) (zs : List Int) (w : World) (h : Ns w w.heap.size (.slice A n c) zs) : Calls Tryz.prog 7 #[.slice A n c] w (SrNew w) := by
  obtain ⟨hn, hc, hm, hr, hz⟩ := h.parts
  by_cases h4 : (4000 : Int) < (n : Int)
  · have ht' : Tryz.prog.underlying 30 = some (.slice (Tryz.prog.elem 30)) := by kernel_rfl
    have he : Tryz.prog.elem 30 = 3 := by kernel_rfl
    have hz8 : ∀ w, (Go.sizeOf 3).run Tryz.prog w = .ok 1 w := Tryz.sizeOf3
    have hcut : ∀ W, (Instr.slice 30 (.slice A n c) none (some (.int .i64 4000)) none).run Tryz.prog W = .ok (.slice A 4000 c) W := fun W => by
      have hq := run_slice_h W 30 A n c ht' .i64 4000 (by omega) (by omega)
      rw [hq, he, hz8]
      cases A <;> simp [Result.andThen, sliced, Addr.add]
    have hr4 : Rd w w.heap.size 1 A 4000 ((zs.take 4000).map i64v) := by
      have hlen : zs.length = n := hn.symm
      refine ⟨by simp; omega, fun h0 => ?_⟩
      obtain ⟨b, o, rfl, hb, hcc⟩ := hr.2 (by omega)
      refine ⟨b, o, rfl, hb, fun k u hu => hcc k u ?_⟩
      have hk : k < 4000 := by
        have := (List.getElem?_eq_some_iff.1 hu).1
        simp at this; omega
      rw [← hu, List.map_take, List.getElem?_take_of_lt hk]
    have HN := Lib.hid (src_new w A 4000 c (zs.take 4000) 56 hr4 (by omega) (by omega) hm (fun z hz' => hz z (List.mem_of_mem_take hz')))
    clear h hn hc hm hr hz hr4 hz8 he ht'
    go_enter Tryz.func7, Tryz.ntmps7
    go_wp2
    go_ret
    exact HN.out
  · have HN := Lib.hid (src_new w A n c zs 56 hr (by omega) hc hm hz)
    clear h hn hc hm hr hz
    go_enter Tryz.func7, Tryz.ntmps7
    go_wp2
    go_ret
    exact HN.out
end Go.Proofs.YtjclhlejbidpgaaGreat
