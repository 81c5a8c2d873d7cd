/- What is proved here: a message among the arguments opened to its numbers and its body, and shut again. -/
import Derived.Test.YtjiampelmiaflaaMsg
import Derived.Lib.SmallJoins
import Derived.ChangeSame
namespace Go.Proofs.Ytjiampelmiaflaa
open Go.Joins Go.ChangeShapes Go.WideShapes Go.RowKit Go.Deep
set_option linter.unusedVariables false

section
variable {H : Type} {enc : TypeId × Value → H} {P : Program} {w : World} {base : Nat} {spare : Nat → Bool} {held : Bool}
theorem open_agg7 {r : Reach} {b0 : Nat} {t : TypeId} {f0 f1 f2 f3 f4 f5 f6 : Field} {v : Value} {d : DataW H} {p : List MemPlace} (hs : P.underlying t = some (.struct #[f0, f1, f2, f3, f4, f5, f6])) (hone : oneCellFields P #[f0, f1, f2, f3, f4, f5, f6] = true) (hC : P.cellsOf t = 7)
    (hv : Value.okWide P w r b0 t v) (h : DataW.Trod enc P w base spare held t v d p) :
    ∃ (v0 v1 v2 v3 v4 v5 v6 : Value) (y0 y1 y2 y3 y4 y5 y6 : DataW H × List MemPlace) (n : Nat), v = .agg #[v0, v1, v2, v3, v4, v5, v6] ∧ d = .agg [y0.1, y1.1, y2.1, y3.1, y4.1, y5.1, y6.1] ∧ p = y0.2 ++ (y1.2 ++ (y2.2 ++ (y3.2 ++ (y4.2 ++ (y5.2 ++ (y6.2)))))) ∧
      DataW.trod enc P w base spare held n f0.type [v0] = some y0 ∧ DataW.trod enc P w base spare held n f1.type [v1] = some y1 ∧ DataW.trod enc P w base spare held n f2.type [v2] = some y2 ∧ DataW.trod enc P w base spare held n f3.type [v3] = some y3 ∧ DataW.trod enc P w base spare held n f4.type [v4] = some y4 ∧ DataW.trod enc P w base spare held n f5.type [v5] = some y5 ∧ DataW.trod enc P w base spare held n f6.type [v6] = some y6 := by
  obtain ⟨cs, rfl, hsz⟩ := okWide_struct hs hv
  obtain ⟨l⟩ := cs
  match l, hsz.trans hC with
  | [c0, c1, c2, c3, c4, c5, c6], _ =>
    obtain ⟨fuel, hf⟩ := h
    obtain ⟨xs, n, _, hx, _, hlen, hg⟩ := DataW.trod_struct hs hf
    obtain ⟨o0, k0⟩ := hone_of hone 0 f0 rfl
    obtain ⟨o1, k1⟩ := hone_of hone 1 f1 rfl
    obtain ⟨o2, k2⟩ := hone_of hone 2 f2 rfl
    obtain ⟨o3, k3⟩ := hone_of hone 3 f3 rfl
    obtain ⟨o4, k4⟩ := hone_of hone 4 f4 rfl
    obtain ⟨o5, k5⟩ := hone_of hone 5 f5 rfl
    obtain ⟨o6, k6⟩ := hone_of hone 6 f6 rfl
    match xs, hlen with
    | [y0, y1, y2, y3, y4, y5, y6], _ =>
      simp only [Prod.mk.injEq] at hx
      exact ⟨c0, c1, c2, c3, c4, c5, c6, y0, y1, y2, y3, y4, y5, y6, n, rfl, by simpa using hx.1, by simpa using hx.2, by simpa [Value.cells, o0, k0] using hg 0 f0 rfl, by simpa [Value.cells, o1, k1] using hg 1 f1 rfl, by simpa [Value.cells, o2, k2] using hg 2 f2 rfl, by simpa [Value.cells, o3, k3] using hg 3 f3 rfl, by simpa [Value.cells, o4, k4] using hg 4 f4 rfl, by simpa [Value.cells, o5, k5] using hg 5 f5 rfl, by simpa [Value.cells, o6, k6] using hg 6 f6 rfl⟩

theorem shut_agg7 {t : TypeId} {f0 f1 f2 f3 f4 f5 f6 : Field} {v0 v1 v2 v3 v4 v5 v6 : Value} {y0 y1 y2 y3 y4 y5 y6 : DataW H × List MemPlace} (hs : P.underlying t = some (.struct #[f0, f1, f2, f3, f4, f5, f6])) (hone : oneCellFields P #[f0, f1, f2, f3, f4, f5, f6] = true) (hC : P.cellsOf t = 7)
    (t0 : ∃ n, DataW.trod enc P w base spare held n f0.type [v0] = some y0) (t1 : ∃ n, DataW.trod enc P w base spare held n f1.type [v1] = some y1) (t2 : ∃ n, DataW.trod enc P w base spare held n f2.type [v2] = some y2) (t3 : ∃ n, DataW.trod enc P w base spare held n f3.type [v3] = some y3) (t4 : ∃ n, DataW.trod enc P w base spare held n f4.type [v4] = some y4) (t5 : ∃ n, DataW.trod enc P w base spare held n f5.type [v5] = some y5) (t6 : ∃ n, DataW.trod enc P w base spare held n f6.type [v6] = some y6) :
    DataW.Trod enc P w base spare held t (.agg #[v0, v1, v2, v3, v4, v5, v6]) (.agg [y0.1, y1.1, y2.1, y3.1, y4.1, y5.1, y6.1]) (y0.2 ++ (y1.2 ++ (y2.2 ++ (y3.2 ++ (y4.2 ++ (y5.2 ++ (y6.2))))))) := by
  obtain ⟨n0, t0⟩ := t0
  obtain ⟨n1, t1⟩ := t1
  obtain ⟨n2, t2⟩ := t2
  obtain ⟨n3, t3⟩ := t3
  obtain ⟨n4, t4⟩ := t4
  obtain ⟨n5, t5⟩ := t5
  obtain ⟨n6, t6⟩ := t6
  obtain ⟨o0, k0⟩ := hone_of hone 0 f0 rfl
  obtain ⟨o1, k1⟩ := hone_of hone 1 f1 rfl
  obtain ⟨o2, k2⟩ := hone_of hone 2 f2 rfl
  obtain ⟨o3, k3⟩ := hone_of hone 3 f3 rfl
  obtain ⟨o4, k4⟩ := hone_of hone 4 f4 rfl
  obtain ⟨o5, k5⟩ := hone_of hone 5 f5 rfl
  obtain ⟨o6, k6⟩ := hone_of hone 6 f6 rfl
  have s0 : DataW.trod enc P w base spare held (n0 + n1 + n2 + n3 + n4 + n5 + n6) f0.type ((([v0, v1, v2, v3, v4, v5, v6] : List Value).drop f0.offset).take (P.cellsOf f0.type)) = some y0 := by simpa [o0, k0] using DataW.trod_le (show n0 ≤ n0 + n1 + n2 + n3 + n4 + n5 + n6 by omega) t0
  have s1 : DataW.trod enc P w base spare held (n0 + n1 + n2 + n3 + n4 + n5 + n6) f1.type ((([v0, v1, v2, v3, v4, v5, v6] : List Value).drop f1.offset).take (P.cellsOf f1.type)) = some y1 := by simpa [o1, k1] using DataW.trod_le (show n1 ≤ n0 + n1 + n2 + n3 + n4 + n5 + n6 by omega) t1
  have s2 : DataW.trod enc P w base spare held (n0 + n1 + n2 + n3 + n4 + n5 + n6) f2.type ((([v0, v1, v2, v3, v4, v5, v6] : List Value).drop f2.offset).take (P.cellsOf f2.type)) = some y2 := by simpa [o2, k2] using DataW.trod_le (show n2 ≤ n0 + n1 + n2 + n3 + n4 + n5 + n6 by omega) t2
  have s3 : DataW.trod enc P w base spare held (n0 + n1 + n2 + n3 + n4 + n5 + n6) f3.type ((([v0, v1, v2, v3, v4, v5, v6] : List Value).drop f3.offset).take (P.cellsOf f3.type)) = some y3 := by simpa [o3, k3] using DataW.trod_le (show n3 ≤ n0 + n1 + n2 + n3 + n4 + n5 + n6 by omega) t3
  have s4 : DataW.trod enc P w base spare held (n0 + n1 + n2 + n3 + n4 + n5 + n6) f4.type ((([v0, v1, v2, v3, v4, v5, v6] : List Value).drop f4.offset).take (P.cellsOf f4.type)) = some y4 := by simpa [o4, k4] using DataW.trod_le (show n4 ≤ n0 + n1 + n2 + n3 + n4 + n5 + n6 by omega) t4
  have s5 : DataW.trod enc P w base spare held (n0 + n1 + n2 + n3 + n4 + n5 + n6) f5.type ((([v0, v1, v2, v3, v4, v5, v6] : List Value).drop f5.offset).take (P.cellsOf f5.type)) = some y5 := by simpa [o5, k5] using DataW.trod_le (show n5 ≤ n0 + n1 + n2 + n3 + n4 + n5 + n6 by omega) t5
  have s6 : DataW.trod enc P w base spare held (n0 + n1 + n2 + n3 + n4 + n5 + n6) f6.type ((([v0, v1, v2, v3, v4, v5, v6] : List Value).drop f6.offset).take (P.cellsOf f6.type)) = some y6 := by simpa [o6, k6] using DataW.trod_le (show n6 ≤ n0 + n1 + n2 + n3 + n4 + n5 + n6 by omega) t6
  have := trod_struct_mk (enc := enc) (w := w) (base := base) (spare := spare) (held := held) (n := n0 + n1 + n2 + n3 + n4 + n5 + n6) (cs := [v0, v1, v2, v3, v4, v5, v6]) (xs := [y0, y1, y2, y3, y4, y5, y6]) hs (by simp [hC]) (by simp only [List.mapM_cons, List.mapM_nil, s0, s1, s2, s3, s4, s5, s6]; rfl)
  exact ⟨_, by simpa [Value.cells] using this⟩
end

/-- The message as data. -/
def Msg.d {H : Type} (M : Msg) : DataW H := .agg [.lit (.int .i64 M.id), .lit (.int .i64 M.rt), .lit (.int .i64 M.ep), .lit (.int .i64 M.ct), .lit (.int .i64 M.gn), .lit (.int .i64 M.st), .lit (.string M.bd.data.toList)]
/-- The numbers are numbers of 64 bits, the body is no longer than a string can be. -/
def Msg.wf (M : Msg) : Prop := (Lit.int .i64 M.id).wf = true ∧ (Lit.int .i64 M.rt).wf = true ∧ (Lit.int .i64 M.ep).wf = true ∧ (Lit.int .i64 M.ct).wf = true ∧ (Lit.int .i64 M.gn).wf = true ∧ (Lit.int .i64 M.st).wf = true ∧ M.bd.size ≤ maxLen

theorem msg_cells : Try.prog.cellsOf 23 = 7 := by kernel_rfl

section
variable {H : Type} {enc : TypeId × Value → H} {w : World} {base : Nat} {spare : Nat → Bool} {held : Bool}
theorem open_msg {r : Reach} {b0 : Nat} {v : Value} {d : DataW H} {p : List MemPlace} (hv : Value.okWide Try.prog w r b0 23 v) (h : DataW.Trod enc Try.prog w base spare held 23 v d p) :
    ∃ M : Msg, v = M.v ∧ d = M.d ∧ p = [] ∧ M.wf := by
  obtain ⟨c0, c1, c2, c3, c4, c5, c6, y0, y1, y2, y3, y4, y5, y6, n, rfl, rfl, rfl, hy0, hy1, hy2, hy3, hy4, hy5, hy6⟩ := open_agg7 Try.underlying23 (by kernel_rfl) msg_cells hv h
  obtain ⟨a0, e0, rfl, w0⟩ := DataW.trod_int Try.underlying3 hy0
  obtain ⟨a1, e1, rfl, w1⟩ := DataW.trod_int Try.underlying3 hy1
  obtain ⟨a2, e2, rfl, w2⟩ := DataW.trod_int Try.underlying3 hy2
  obtain ⟨a3, e3, rfl, w3⟩ := DataW.trod_int Try.underlying3 hy3
  obtain ⟨a4, e4, rfl, w4⟩ := DataW.trod_int Try.underlying3 hy4
  obtain ⟨a5, e5, rfl, w5⟩ := DataW.trod_int Try.underlying3 hy5
  obtain ⟨a6, e6, rfl, w6⟩ := DataW.trod_string Try.underlying9 hy6
  simp at e0 e1 e2 e3 e4 e5 e6
  subst e0 e1 e2 e3 e4 e5 e6
  exact ⟨⟨a0, a1, a2, a3, a4, a5, a6⟩, rfl, rfl, rfl, w0, w1, w2, w3, w4, w5, w6⟩
theorem shut_msg (M : Msg) (h : M.wf) : DataW.Trod enc Try.prog w base spare held 23 M.v M.d [] := by
  obtain ⟨w0, w1, w2, w3, w4, w5, w6⟩ := h
  exact shut_agg7 (y0 := (.lit (.int .i64 M.id), [])) (y1 := (.lit (.int .i64 M.rt), [])) (y2 := (.lit (.int .i64 M.ep), [])) (y3 := (.lit (.int .i64 M.ct), [])) (y4 := (.lit (.int .i64 M.gn), [])) (y5 := (.lit (.int .i64 M.st), [])) (y6 := (.lit (.string M.bd.data.toList), [])) Try.underlying23 (by kernel_rfl) msg_cells
    ⟨1, by simp [DataW.trod, Try.underlying3, w0]⟩ ⟨1, by simp [DataW.trod, Try.underlying3, w1]⟩ ⟨1, by simp [DataW.trod, Try.underlying3, w2]⟩ ⟨1, by simp [DataW.trod, Try.underlying3, w3]⟩ ⟨1, by simp [DataW.trod, Try.underlying3, w4]⟩ ⟨1, by simp [DataW.trod, Try.underlying3, w5]⟩ ⟨1, by simp [DataW.trod, Try.underlying9, w6]⟩
end
end Go.Proofs.Ytjiampelmiaflaa
