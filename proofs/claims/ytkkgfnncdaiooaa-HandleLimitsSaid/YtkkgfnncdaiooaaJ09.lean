/- What is proved here: a handle among the arguments opened to its numbers, and shut again. -/
import Derived.Test.YtkkgfnncdaiooaaJ03
import Derived.Test.YtkkgfnncdaiooaaJ01
import Derived.Lib.SmallJoins
import Derived.ChangeSame
namespace Go.Proofs.Ytkkgfnncdaiooaa
open Go.Joins Go.ChangeShapes Go.WideShapes Go.RowKit Go.Deep
set_option linter.unusedVariables false

/-- The handle as data. -/
def Hq.d {H : Type} (x : Hq) : DataW H := .agg [.lit (.int .i64 x.id), .lit (.int .i64 x.gn), .lit (.int .i64 x.rt), .lit (.int .i64 x.ht)]
/-- Its numbers are numbers of 64 bits. -/
def Hq.wf (x : Hq) : Prop := (Lit.int .i64 x.id).wf = true ∧ (Lit.int .i64 x.gn).wf = true ∧ (Lit.int .i64 x.rt).wf = true ∧ (Lit.int .i64 x.ht).wf = true
theorem handle_cells : Try.prog.cellsOf 23 = 4 := by kernel_rfl

section
variable {H : Type} {enc : TypeId × Value → H} {w : World} {base : Nat} {spare : Nat → Bool} {held : Bool}
set_option maxRecDepth 20000 in
theorem open_handle {r : Reach} {b0 : Nat} {v : Value} {d : DataW H} {p : List MemPlace} (hv : Value.okWide Try.prog w r b0 23 v) (h : DataW.Trod enc Try.prog w base spare held 23 v d p) :
    ∃ x : Hq, v = x.v ∧ d = x.d ∧ p = [] ∧ x.wf := by
  obtain ⟨c0, c1, c2, c3, y0, y1, y2, y3, n, rfl, rfl, rfl, hy0, hy1, hy2, hy3⟩ := open_agg4 Try.underlying23 (by kernel_rfl) handle_cells hv h
  obtain ⟨a0, e0, rfl, w0⟩ := DataW.trod_int Try.underlying3 hy0
  obtain ⟨a1, e1, rfl, w1⟩ := DataW.trod_int Try.underlying3 hy1
  obtain ⟨a2, e2, rfl, w2⟩ := DataW.trod_int Try.underlying3 hy2
  obtain ⟨a3, e3, rfl, w3⟩ := DataW.trod_int Try.underlying3 hy3
  simp at e0 e1 e2 e3
  subst e0 e1 e2 e3
  exact ⟨⟨a0, a1, a2, a3⟩, rfl, rfl, rfl, w0, w1, w2, w3⟩
set_option maxRecDepth 20000 in
theorem shut_handle (x : Hq) (h : x.wf) : DataW.Trod enc Try.prog w base spare held 23 x.v x.d [] := by
  obtain ⟨w0, w1, w2, w3⟩ := h
  exact shut_agg4 (y0 := (.lit (.int .i64 x.id), [])) (y1 := (.lit (.int .i64 x.gn), [])) (y2 := (.lit (.int .i64 x.rt), [])) (y3 := (.lit (.int .i64 x.ht), [])) Try.underlying23 (by kernel_rfl) handle_cells
    ⟨1, by simp [DataW.trod, Try.underlying3, w0]⟩ ⟨1, by simp [DataW.trod, Try.underlying3, w1]⟩ ⟨1, by simp [DataW.trod, Try.underlying3, w2]⟩ ⟨1, by simp [DataW.trod, Try.underlying3, w3]⟩
end
end Go.Proofs.Ytkkgfnncdaiooaa
