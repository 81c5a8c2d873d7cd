/- What is proved here: a table and a list of leases among the arguments opened to what lies in memory; a stripe, a list of stripes and a shard among the arguments opened to what lies in memory; a stripe shut again. -/
import Derived.Test.YtdilgeabcacbdaaJ41
import Derived.Test.YtdilgeabcacbdaaJ17
import Derived.Test.YtdilgeabcacbdaaJ23
import Derived.Test.YtdilgeabcacbdaaJ01
import Derived.Lib.SmallJoins
import Derived.ChangeSame
import Derived.Deep.Slices
import Derived.Deep.Fields
namespace Go.Proofs.Ytdilgeabcacbdaa
open Go.Joins Go.ChangeShapes Go.WideShapes Go.RowKit Go.Deep
set_option linter.unusedVariables false

theorem lease_cells : Try.prog.cellsOf 95 = 8 := by kernel_rfl
section
variable {H : Type} {enc : TypeId × Value → H} {w : World} {base : Nat} {spare : Nat → Bool} {held : Bool}
set_option maxRecDepth 20000 in
theorem lease_one {fuel : Nat} {cs : List Value} {x : DataW H × List MemPlace} (h : DataW.trod enc Try.prog w base spare held fuel 95 cs = some x) (hl : cs.length = 8) :
    ∃ X : Le, cs = X.l := by
  obtain ⟨xs, n, _, hx, _, hlen, hg⟩ := DataW.trod_struct Try.underlying95 h
  have h7 : Try.prog.cellsOf 92 = 7 := by kernel_rfl
  have h1 : Try.prog.cellsOf 3 = 1 := by kernel_rfl
  match cs, hl with
  | [c0, c1, c2, c3, c4, c5, c6, c7], _ =>
    match xs, hlen with
    | [y0, y1], _ =>
      have g0 : DataW.trod enc Try.prog w base spare held n 92 [c0, c1, c2, c3, c4, c5, c6] = some y0 := by
        have := hg 0 _ rfl
        simpa [h7] using this
      have g1 : DataW.trod enc Try.prog w base spare held n 3 [c7] = some y1 := by
        have := hg 1 _ rfl
        simpa [h1] using this
      obtain ⟨M, hM⟩ := msg_one g0 rfl
      obtain ⟨d, z, _, _⟩ := DataW.trod_int Try.underlying3 g1
      refine ⟨⟨M, d⟩, ?_⟩
      simp [Msg.l] at hM z
      simp [Le.l, hM, z]
set_option maxRecDepth 20000 in
theorem open_leases {fuel : Nat} {cs : List Value} {x : DataW H × List MemPlace} (h : DataW.trod enc Try.prog w base spare held fuel 27 cs = some x) :
    ∃ (A : Option Addr) (n c : Nat) (l : List Le), cs = [.slice A n c] ∧ El w w.heap.size (.slice A n c) l := by
  rcases open_slice Try.underlying27 h with ⟨rfl, _⟩ | ⟨a, len, cap, m, n, D, Pl, rfl, _, hl, hm, hmm, _, hi⟩
  · exact ⟨none, 0, 0, [], rfl, El.nil⟩
  · have hlm : len ≤ m := by rw [hmm]; split <;> omega
    rw [lease_cells] at hi
    have hM : ∀ i, i < len → ∃ M : Le, ∀ j, j < 8 → w.cell? (a.add (i * 8 + j)) = M.l[j]? := fun i hil => by
      obtain ⟨cs', hc, ht⟩ := hi i (by omega)
      obtain ⟨_, hcl, hat⟩ := World.cells?_some hc
      obtain ⟨M, rfl⟩ := lease_one ht hcl
      refine ⟨M, fun j hj => ?_⟩
      have g := hat j hj
      rw [← Go.Deep.add_add]
      exact g
    by_cases h0 : len = 0
    · subst h0
      exact ⟨some a, 0, cap, [], rfl, some a, cap, rfl, hl, hm, Rd.nil _⟩
    · let f : Nat → Le := fun i => if h : i < len then (hM i h).choose else zL
      have hfs : ∀ i, i < len → ∀ j, j < 8 → w.cell? (a.add (i * 8 + j)) = (f i).l[j]? := fun i hil j hj => by
        show _ = (if h : i < len then (hM i h).choose else zL).l[j]?
        rw [dif_pos hil]
        exact (hM i hil).choose_spec j hj
      obtain ⟨b, o, spot⟩ := a
      have c0 := hfs 0 (by omega) 0 (by omega)
      have c0' : w.cell? (Addr.add ⟨b, o, spot⟩ (0 * 8 + 0)) = some (.int .i64 (f 0).m.id) := c0
      have hspot : spot = none := by simpa [Addr.add] using World.cell?_spot c0'
      subst hspot
      have hb : b < w.heap.size := World.block_lt_of_cell? w ⟨b, o, none⟩ (by simpa [Addr.add] using c0')
      have hll : ((List.range len).map f).length = len := by simp
      refine ⟨some ⟨b, o, none⟩, len, cap, (List.range len).map f, rfl, some ⟨b, o, none⟩, cap, by rw [hll], by rw [hll]; exact hl, hm, by rw [ecs_len, hll], fun _ => ⟨b, o, rfl, hb, fun i u hu => ?_⟩⟩
      have hi8 : i < len * 8 := by have := (List.getElem?_eq_some_iff.1 hu).1; rw [ecs_len, hll] at this; exact this
      have e : i = i / 8 * 8 + i % 8 := by omega
      have hlt : i / 8 < len := by omega
      rw [e] at hu ⊢
      rw [ecs_at _ _ _ (by rw [hll]; exact hlt) (by omega)] at hu
      have g := hfs (i / 8) hlt (i % 8) (by omega)
      rw [add_mk] at g
      rw [g, ← hu]
      simp

end
end Go.Proofs.Ytdilgeabcacbdaa
namespace Go.Proofs.Ytdilgeabcacbdaa
open Go.Joins Go.ChangeShapes Go.WideShapes Go.RowKit Go.Deep
set_option linter.unusedVariables false

/-- The stripe as data. -/
def St.d {H : Type} (x : St) : DataW H := .agg [.lit (.int .i64 x.sq), .lit (.int .i64 x.ep), .lit (.int .i64 x.rd), .lit (.int .i64 x.ls)]
/-- Its numbers are numbers of 64 bits. -/
def St.wf (x : St) : Prop := (Lit.int .i64 x.sq).wf = true ∧ (Lit.int .i64 x.ep).wf = true ∧ (Lit.int .i64 x.rd).wf = true ∧ (Lit.int .i64 x.ls).wf = true
theorem stripe_cells : Try.prog.cellsOf 23 = 4 := by kernel_rfl

section
variable {H : Type} {enc : TypeId × Value → H} {w : World} {base : Nat} {spare : Nat → Bool} {held : Bool}
set_option maxRecDepth 20000 in
theorem open_stripe {r : Reach} {b0 : Nat} {v : Value} {d : DataW H} {p : List MemPlace} (hv : Value.okWide Try.prog w r b0 23 v) (h : DataW.Trod enc Try.prog w base spare held 23 v d p) :
    ∃ x : St, v = x.v ∧ d = x.d ∧ p = [] ∧ x.wf := by
  obtain ⟨c0, c1, c2, c3, y0, y1, y2, y3, n, rfl, rfl, rfl, hy0, hy1, hy2, hy3⟩ := open_agg4 Try.underlying23 (by kernel_rfl) stripe_cells hv h
  obtain ⟨a0, e0, rfl, w0⟩ := DataW.trod_int Try.underlying3 hy0
  obtain ⟨a1, e1, rfl, w1⟩ := DataW.trod_int Try.underlying3 hy1
  obtain ⟨a2, e2, rfl, w2⟩ := DataW.trod_int Try.underlying3 hy2
  obtain ⟨a3, e3, rfl, w3⟩ := DataW.trod_int Try.underlying3 hy3
  simp at e0 e1 e2 e3
  subst e0 e1 e2 e3
  exact ⟨⟨a0, a1, a2, a3⟩, rfl, rfl, rfl, w0, w1, w2, w3⟩
set_option maxRecDepth 20000 in
theorem shut_stripe (x : St) (h : x.wf) : DataW.Trod enc Try.prog w base spare held 23 x.v x.d [] := by
  obtain ⟨w0, w1, w2, w3⟩ := h
  exact shut_agg4 (y0 := (.lit (.int .i64 x.sq), [])) (y1 := (.lit (.int .i64 x.ep), [])) (y2 := (.lit (.int .i64 x.rd), [])) (y3 := (.lit (.int .i64 x.ls), [])) Try.underlying23 (by kernel_rfl) stripe_cells
    ⟨1, by simp [DataW.trod, Try.underlying3, w0]⟩ ⟨1, by simp [DataW.trod, Try.underlying3, w1]⟩ ⟨1, by simp [DataW.trod, Try.underlying3, w2]⟩ ⟨1, by simp [DataW.trod, Try.underlying3, w3]⟩
theorem cells4 {P : Program} {t : TypeId} {f0 f1 f2 f3 : Field} {fuel : Nat} {cs : List Value} {x : DataW H × List MemPlace} (hs : P.underlying t = some (.struct #[f0, f1, f2, f3])) (hone : oneCellFields P #[f0, f1, f2, f3] = true)
    (hl : cs.length = 4) (h : DataW.trod enc P w base spare held fuel t cs = some x) :
    ∃ (v0 v1 v2 v3 : Value) (y0 y1 y2 y3 : DataW H × List MemPlace) (n : Nat), cs = [v0, v1, v2, v3] ∧
      DataW.trod enc P w base spare held n f0.type [v0] = some y0 ∧ DataW.trod enc P w base spare held n f1.type [v1] = some y1 ∧ DataW.trod enc P w base spare held n f2.type [v2] = some y2 ∧ DataW.trod enc P w base spare held n f3.type [v3] = some y3 := by
  match cs, hl with
  | [c0, c1, c2, c3], _ =>
    obtain ⟨xs, n, _, hx, _, hlen, hg⟩ := DataW.trod_struct hs h
    obtain ⟨o0, k0⟩ := hone_of hone 0 f0 rfl
    obtain ⟨o1, k1⟩ := hone_of hone 1 f1 rfl
    obtain ⟨o2, k2⟩ := hone_of hone 2 f2 rfl
    obtain ⟨o3, k3⟩ := hone_of hone 3 f3 rfl
    match xs, hlen with
    | [y0, y1, y2, y3], _ =>
      exact ⟨c0, c1, c2, c3, y0, y1, y2, y3, n, rfl, by simpa [o0, k0] using hg 0 f0 rfl, by simpa [o1, k1] using hg 1 f1 rfl, by simpa [o2, k2] using hg 2 f2 rfl, by simpa [o3, k3] using hg 3 f3 rfl⟩
set_option maxRecDepth 20000 in
theorem stripe_one {fuel : Nat} {cs : List Value} {x : DataW H × List MemPlace} (h : DataW.trod enc Try.prog w base spare held fuel 23 cs = some x) (hl : cs.length = 4) :
    ∃ d : St, cs = d.l := by
  obtain ⟨c0, c1, c2, c3, y0, y1, y2, y3, n, rfl, g0, g1, g2, g3⟩ := cells4 Try.underlying23 (by kernel_rfl) hl h
  obtain ⟨a0, z0, _, _⟩ := DataW.trod_int Try.underlying3 g0
  obtain ⟨a1, z1, _, _⟩ := DataW.trod_int Try.underlying3 g1
  obtain ⟨a2, z2, _, _⟩ := DataW.trod_int Try.underlying3 g2
  obtain ⟨a3, z3, _, _⟩ := DataW.trod_int Try.underlying3 g3
  simp at z0 z1 z2 z3
  subst z0 z1 z2 z3
  exact ⟨⟨a0, a1, a2, a3⟩, rfl⟩

set_option maxRecDepth 20000 in
theorem open_stripes {fuel : Nat} {cs : List Value} {x : DataW H × List MemPlace} (h : DataW.trod enc Try.prog w base spare held fuel 33 cs = some x) :
    ∃ (A : Option Addr) (n c : Nat) (l : List St), cs = [.slice A n c] ∧ Tl w w.heap.size (.slice A n c) l := by
  rcases open_slice Try.underlying33 h with ⟨rfl, _⟩ | ⟨a, len, cap, m, n, D, Pl, rfl, _, hl, hm, hmm, _, hi⟩
  · exact ⟨none, 0, 0, [], rfl, Tl.nil⟩
  · have hlm : len ≤ m := by rw [hmm]; split <;> omega
    rw [stripe_cells] at hi
    have hM : ∀ i, i < len → ∃ d : St, ∀ j, j < 4 → w.cell? (a.add (i * 4 + j)) = d.l[j]? := fun i hil => by
      obtain ⟨cs', hc, ht⟩ := hi i (by omega)
      obtain ⟨_, hcl, hat⟩ := World.cells?_some hc
      obtain ⟨d, rfl⟩ := stripe_one ht hcl
      refine ⟨d, fun j hj => ?_⟩
      have g := hat j hj
      rw [← Go.Deep.add_add]
      exact g
    by_cases h0 : len = 0
    · subst h0
      exact ⟨some a, 0, cap, [], rfl, some a, cap, rfl, hl, hm, Rd.nil _⟩
    · let f : Nat → St := fun i => if h : i < len then (hM i h).choose else zSt
      have hfs : ∀ i, i < len → ∀ j, j < 4 → w.cell? (a.add (i * 4 + j)) = (f i).l[j]? := fun i hil j hj => by
        show _ = (if h : i < len then (hM i h).choose else zSt).l[j]?
        rw [dif_pos hil]
        exact (hM i hil).choose_spec j hj
      obtain ⟨b, o, spot⟩ := a
      have c0 := hfs 0 (by omega) 0 (by omega)
      have c0' : w.cell? (Addr.add ⟨b, o, spot⟩ (0 * 4 + 0)) = some (.int .i64 (f 0).sq) := c0
      have hspot : spot = none := by simpa [Addr.add] using World.cell?_spot c0'
      subst hspot
      have hb : b < w.heap.size := World.block_lt_of_cell? w ⟨b, o, none⟩ (by simpa [Addr.add] using c0')
      have hll : ((List.range len).map f).length = len := by simp
      refine ⟨some ⟨b, o, none⟩, len, cap, (List.range len).map f, rfl, some ⟨b, o, none⟩, cap, by rw [hll], by rw [hll]; exact hl, hm, by rw [tcs_len, hll], fun _ => ⟨b, o, rfl, hb, fun i u hu => ?_⟩⟩
      have hi2 : i < len * 4 := by have := (List.getElem?_eq_some_iff.1 hu).1; rw [tcs_len, hll] at this; exact this
      have e : i = i / 4 * 4 + i % 4 := by omega
      have hlt : i / 4 < len := by omega
      rw [e] at hu ⊢
      rw [tcs_at _ _ _ (by rw [hll]; exact hlt) (by omega)] at hu
      have g := hfs (i / 4) hlt (i % 4) (by omega)
      rw [add_mk] at g
      rw [g, ← hu]
      simp

theorem array8v (T : Array Value) (h : T.size = 8) : ∃ v0 v1 v2 v3 v4 v5 v6 v7 : Value, T = #[v0, v1, v2, v3, v4, v5, v6, v7] := by
  obtain ⟨l⟩ := T
  simp only [List.size_toArray] at h
  match l, h with
  | [v0, v1, v2, v3, v4, v5, v6, v7], _ => exact ⟨v0, v1, v2, v3, v4, v5, v6, v7, rfl⟩
set_option maxRecDepth 20000 in
theorem open_shard {r : Reach} {b0 : Nat} {v : Value} {d : DataW H} {p : List MemPlace} (hv : Value.okWide Try.prog w r b0 32 v) (h : DataW.Trod enc Try.prog w base spare held 32 v d p) :
    ∃ (S : Sh) (D : Sx), v = sv S D ∧ SR w w.heap.size S D := by
  obtain ⟨cs, rfl, hsz⟩ := okWide_struct Try.underlying32 hv
  have hC : Try.prog.cellsOf 32 = 8 := by kernel_rfl
  obtain ⟨c0, c1, c2, c3, c4, c5, c6, c7, rfl⟩ := array8v cs (hsz.trans hC)
  obtain ⟨fuel, hf⟩ := h
  obtain ⟨xs, n, _, hx, _, hlen, hg⟩ := DataW.trod_struct Try.underlying32 hf
  have k1 : Try.prog.cellsOf 3 = 1 := by kernel_rfl
  have kb : Try.prog.cellsOf 4 = 1 := by kernel_rfl
  have k3 : Try.prog.cellsOf 26 = 3 := by kernel_rfl
  have k2 : Try.prog.cellsOf 30 = 2 := by kernel_rfl
  match xs, hlen with
  | [y0, y1, y2, y3, y4], _ =>
    have g0 : DataW.trod enc Try.prog w base spare held n 4 [c0] = some y0 := by
      have := hg 0 _ rfl
      simpa [Value.cells, kb] using this
    have g1 : DataW.trod enc Try.prog w base spare held n 3 [c1] = some y1 := by
      have := hg 1 _ rfl
      simpa [Value.cells, k1] using this
    have g2 : DataW.trod enc Try.prog w base spare held n 3 [c2] = some y2 := by
      have := hg 2 _ rfl
      simpa [Value.cells, k1] using this
    have g3 : DataW.trod enc Try.prog w base spare held n 26 [c3, c4, c5] = some y3 := by
      have := hg 3 _ rfl
      simpa [Value.cells, k3] using this
    have g4 : DataW.trod enc Try.prog w base spare held n 30 [c6, c7] = some y4 := by
      have := hg 4 _ rfl
      simpa [Value.cells, k2] using this
    obtain ⟨b, e0, _⟩ := DataW.trod_bool Try.underlying4 g0
    obtain ⟨lo, e1, _, _⟩ := DataW.trod_int Try.underlying3 g1
    obtain ⟨hi, e2, _, _⟩ := DataW.trod_int Try.underlying3 g2
    have r3 : oneCellFields Try.prog (Try.prog.fieldsOf 26) = true := by kernel_rfl
    obtain ⟨z0, z1, z2, m, _, _, i0, i1, i2⟩ := trod_struct3 Try.underlying26 g3
    obtain ⟨u0, u1, m2, _, _, j0, j1⟩ := trod_struct2 Try.underlying30 g4
    have ks1 : Try.prog.cellsOf 24 = 1 := by kernel_rfl
    have ks2 : Try.prog.cellsOf 27 = 1 := by kernel_rfl
    have ks3 : Try.prog.cellsOf 28 = 1 := by kernel_rfl
    have i0 : DataW.trod enc Try.prog w base spare held m 24 [c3] = some z0 := by simpa [ks1] using i0
    have i1 : DataW.trod enc Try.prog w base spare held m 3 [c4] = some z1 := by simpa [k1] using i1
    have i2 : DataW.trod enc Try.prog w base spare held m 3 [c5] = some z2 := by simpa [k1] using i2
    have j0 : DataW.trod enc Try.prog w base spare held m2 27 [c6] = some u0 := by simpa [ks2] using j0
    have j1 : DataW.trod enc Try.prog w base spare held m2 28 [c7] = some u1 := by simpa [ks3] using j1
    obtain ⟨A, n', c', l, e3, hl⟩ := open_msgs i0
    obtain ⟨hd, e4, _, _⟩ := DataW.trod_int Try.underlying3 i1
    obtain ⟨sz, e5, _, _⟩ := DataW.trod_int Try.underlying3 i2
    obtain ⟨A2, n2, c2', k, e6, hk⟩ := open_leases j0
    obtain ⟨A3, n3, c3', q, e7, hq⟩ := open_dues j1
    simp at e0 e1 e2 e3 e4 e5 e6 e7
    subst e0 e1 e2 e3 e4 e5 e6 e7
    have a1 := hl.len.1
    have a2 := hk.len.1
    have a3 := hq.len.1
    subst a1 a2 a3
    exact ⟨⟨b, lo, hi, l, hd, sz, k, q⟩, ⟨A, c', A2, c2', A3, c3'⟩, rfl, hl, hk, hq⟩
end
end Go.Proofs.Ytdilgeabcacbdaa
