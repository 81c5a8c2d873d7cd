/- What is proved here: (plain) a slice that reads as a list of numbers. -/
import Derived.Test.YtjiampelmiaflaaSrd
namespace Go.Proofs.Ytjiampelmiaflaa
open Go.RowKit
set_option linter.unusedVariables false

/-- A value that is a slice, reads as the numbers zs and lies below B. -/
def Ns (w : World) (B : Nat) (v : Value) (zs : List Int) : Prop := ∃ A c, v = .slice A zs.length c ∧ zs.length ≤ c ∧ c ≤ maxLen ∧ Rd w B 1 A zs.length (zs.map i64v) ∧ ∀ z ∈ zs, -9223372036854775808 ≤ z ∧ z ≤ 9223372036854775807

section
variable {w w' : World} {B B' : Nat} {v : Value} {zs : List Int}
theorem Ns.nil : Ns w B (.slice none 0 0) [] := ⟨none, 0, rfl, Nat.le_refl _, Nat.zero_le _, Rd.nil none, by simp⟩
theorem Ns.below (h : Ns w B v zs) (hb : Below B w w') : Ns w' B v zs := by
  obtain ⟨A, c, e, hl, hm, h, hz⟩ := h; exact ⟨A, c, e, hl, hm, h.below hb, hz⟩
theorem Ns.parts {A : Option Addr} {n c : Nat} (h : Ns w B (.slice A n c) zs) : n = zs.length ∧ n ≤ c ∧ c ≤ maxLen ∧ Rd w B 1 A n (zs.map i64v) ∧ ∀ z ∈ zs, -9223372036854775808 ≤ z ∧ z ≤ 9223372036854775807 := by
  obtain ⟨A', c', e, hl, hm, h, hz⟩ := h
  injection e with e1 e2 e3
  subst e1; subst e2; subst e3
  exact ⟨rfl, hl, hm, h, hz⟩
/-- From the way in which the guide opens a slice of numbers that came in. -/
theorem Ns.of_cells {a : Addr} {l c : Nat} {zs : List Int} (hl : l ≤ c) (hm : c ≤ maxLen) (hz : zs.length = c) (hc : ∀ i, i < zs.length → w.cell? (a.add i) = some (.int .i64 (zs.getD i 0))) (hw : ∀ n ∈ zs, (Lit.int .i64 n).wf = true) :
    ∃ ys, Ns w w.heap.size (.slice (some a) l c) ys := by
  have hlen : (zs.take l).length = l := by simp; omega
  refine ⟨zs.take l, some a, c, by rw [hlen], by omega, hm, ⟨by simp, fun hn => ?_⟩, fun z hz' => ?_⟩
  · rw [hlen] at hn
    obtain ⟨b, o, spot⟩ := a
    have h0 := hc 0 (by omega)
    have hspot : spot = none := by simpa [Addr.add] using World.cell?_spot h0
    subst hspot
    refine ⟨b, o, rfl, World.block_lt_of_cell? w ⟨b, o, none⟩ (by simpa [Addr.add] using h0), fun j u hu => ?_⟩
    simp only [List.getElem?_map, Option.map_eq_some_iff] at hu
    obtain ⟨x, hx, rfl⟩ := hu
    obtain ⟨hj, rfl⟩ := List.getElem?_eq_some_iff.1 hx
    have hj' : j < zs.length := by simp at hj; omega
    have h := hc j hj'
    rw [add_mk] at h
    rw [h]
    simp [i64v, List.getD, hj']
  · have := hw z (List.mem_of_mem_take hz')
    simp only [Lit.wf, Bool.and_eq_true, decide_eq_true_eq] at this
    exact this
end
end Go.Proofs.Ytjiampelmiaflaa
