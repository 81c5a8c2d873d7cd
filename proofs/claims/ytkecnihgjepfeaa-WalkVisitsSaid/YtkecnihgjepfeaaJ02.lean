/- What is proved here: lemmas on slices in memory that no particular program enters: a slice that reads as a list, an append of such a slice onto a row of the call's own, and its conversion to a string. Conditions: those that each lemma names; (plain functions) the groups of seven bits of a number, and how they are read back; (plain) the source of numbers that the statements' base reads from: what lies at its block, and how it is kept; Raw, N, Range of the statements' base: what they return and what they turn; walk.Begin, Advance, Over and the reference's of layer 16 by contracts. -/
import Derived.Below
import Derived.Laws.OwnMore
import Derived.Deep.Draws
import Derived.Maps.AppendAt
import Derived.Lib.SlBytesRow
import Derived.Lib.AppendStr
import Derived.Lib.Hide
import Derived.OwnWalk
import Derived.Laws.BitsAllLaws
import Derived.Laws.BitsLemmas
import Derived.Laws.Bits128
import Derived.IntWalk
import Derived.Deep.AppendLies
import Derived.Test.YtkecnihgjepfeaaRows
import Derived.WalkKit
import Derived.Outline
import Derived.Deep.QuietTactic
import Derived.BigQuiet
import Derived.Deep.DeepCutAuto
import Derived.Deep.RegionHeld3
namespace Go.Proofs.Ytkecnihgjepfeaa
open Go.RowKit

/-- A byte as the cell that holds it. -/
def oct (x : UInt8) : Value := .int .u8 (x.toNat : Int)

theorem add_mk (b o j : Nat) : (⟨b, o, none⟩ : Addr).add j = ⟨b, o + j, none⟩ := by unfold Addr.add; split <;> simp_all

/-- The slice '.slice A n _' of elements of 'size' cells reads as the cells xs, and lies below block B. -/
def Rd (w : World) (B size : Nat) (A : Option Addr) (n : Nat) (xs : List Value) : Prop :=
  xs.length = n * size ∧ (0 < n → ∃ b o, A = some ⟨b, o, none⟩ ∧ b < B ∧ ∀ j u, xs[j]? = some u → w.cell? ⟨b, o + j, none⟩ = some u)

section
variable {w w' : World} {B B' size n : Nat} {A : Option Addr} {xs : List Value}
theorem Rd.nil (A : Option Addr) : Rd w B size A 0 [] := ⟨by simp, fun h => absurd h (by omega)⟩
theorem Rd.keep (h : Rd w B size A n xs) (hk : ∀ p : Addr, p.block < B → w'.cell? p = w.cell? p) : Rd w' B size A n xs :=
  ⟨h.1, fun hn => by
    obtain ⟨b, o, e, hb, hc⟩ := h.2 hn
    exact ⟨b, o, e, hb, fun j u hu => (hk _ hb).trans (hc j u hu)⟩⟩
theorem Rd.more (h : Rd w B size A n xs) (hB : B ≤ B') : Rd w B' size A n xs :=
  ⟨h.1, fun hn => by
    obtain ⟨b, o, e, hb, hc⟩ := h.2 hn
    exact ⟨b, o, e, by omega, hc⟩⟩
theorem Rd.below (h : Rd w B size A n xs) (hb : Below B w w') : Rd w' B size A n xs := h.keep fun _ hp => hb.cell hp
theorem Rd.drew (h : Rd w B size A n xs) : Rd w.drew B size A n xs := h
theorem Rd.drewN (h : Rd w B size A n xs) (k : Nat) : Rd (w.drewN k) B size A n xs := h
theorem Rd.alloc (h : Rd w B size A n xs) (hB : B ≤ w.heap.size) (o : Obj) : Rd (w.alloc o) B size A n xs := h.keep fun p hp => World.cell?_alloc_lt w o p (by omega)
theorem Rd.setCell (h : Rd w B size A n xs) {p : Addr} (hB : B ≤ p.block) (u : Value) : Rd (w.setCell p u) B size A n xs :=
  h.keep fun q hq => World.cell?_setCell_other w p q u (fun e => by subst e; omega)
theorem Rd.of_own {base : Nat} {e : TypeId} {c : Nat} (h : w.ownsRow base e size (.slice A n c) n xs) : Rd w w.heap.size size A n xs := by
  refine ⟨h.1, fun hn => ?_⟩
  rcases h.2 with ⟨hv, h0⟩ | ⟨g, cap, cur, hv, _, hh, _⟩
  · omega
  · injection hv with hA _ _
    subst hA
    exact ⟨g, 0, rfl, (Array.getElem?_eq_some_iff.1 hh).1, fun j u hu => by have := h.cells (g := g) rfl j u hu; rwa [add_mk] at this⟩
/-- What is owned from a block on is owned from every earlier one on. -/
theorem own_low {base base' : Nat} {e : TypeId} {v : Value} (h : w.ownsRow base e size v n xs) (hb : base' ≤ base) : w.ownsRow base' e size v n xs :=
  ⟨h.1, h.2.imp_right fun ⟨g, cap, cur, hv, hg, r⟩ => ⟨g, cap, cur, hv, Nat.le_trans hb hg, r⟩⟩
/-- What the call owns is a slice. -/
theorem own_form {base : Nat} {e : TypeId} {v : Value} (h : w.ownsRow base e size v n xs) : ∃ A c, v = .slice A n c := by
  rcases h.2 with ⟨rfl, rfl⟩ | ⟨g, cap, _, rfl, _⟩
  · exact ⟨none, 0, rfl⟩
  · exact ⟨_, cap, rfl⟩
end

/-- A value that is a slice, reads as the bytes bs and lies below B. -/
def Bs (w : World) (B : Nat) (v : Value) (bs : List UInt8) : Prop := ∃ A c, v = .slice A bs.length c ∧ bs.length ≤ c ∧ c ≤ maxLen ∧ Rd w B 1 A bs.length (bs.map oct)

section
variable {w w' : World} {B B' : Nat} {v : Value} {bs : List UInt8}
theorem Bs.nil : Bs w B (.slice none 0 0) [] := ⟨none, 0, rfl, Nat.le_refl _, Nat.zero_le _, Rd.nil none⟩
theorem Bs.keep (h : Bs w B v bs) (hk : ∀ p : Addr, p.block < B → w'.cell? p = w.cell? p) : Bs w' B v bs := by
  obtain ⟨A, c, e, hl, hm, h⟩ := h; exact ⟨A, c, e, hl, hm, h.keep hk⟩
theorem Bs.more (h : Bs w B v bs) (hB : B ≤ B') : Bs w B' v bs := by
  obtain ⟨A, c, e, hl, hm, h⟩ := h; exact ⟨A, c, e, hl, hm, h.more hB⟩
theorem Bs.below (h : Bs w B v bs) (hb : Below B w w') : Bs w' B v bs := h.keep fun _ hp => hb.cell hp
theorem Bs.alloc (h : Bs w B v bs) (hB : B ≤ w.heap.size) (o : Obj) : Bs (w.alloc o) B v bs := h.keep fun p hp => World.cell?_alloc_lt w o p (by omega)
theorem Bs.setCell (h : Bs w B v bs) {p : Addr} (hB : B ≤ p.block) (u : Value) : Bs (w.setCell p u) B v bs :=
  h.keep fun q hq => World.cell?_setCell_other w p q u (fun e => by subst e; omega)
/-- From the way in which the guide opens a slice of bytes that came in. -/
theorem Bs.of_cells {a : Addr} {l c : Nat} {zs : List Int} (hl : l ≤ c) (hm : c ≤ maxLen) (hz : zs.length = c) (hc : ∀ i, i < zs.length → w.cell? (a.add i) = some (.int .u8 (zs.getD i 0))) (hw : ∀ n ∈ zs, (Lit.int .u8 n).wf = true) :
    ∃ bs, Bs w w.heap.size (.slice (some a) l c) bs := by
  have hlen : ((zs.take l).map fun n => UInt8.ofNat n.toNat).length = l := by simp; omega
  refine ⟨(zs.take l).map fun n => UInt8.ofNat n.toNat, some a, c, by rw [hlen], by omega, hm, by simp, fun hn => ?_⟩
  rw [hlen] at hn
  obtain ⟨b, o, spot⟩ := a
  have h0 := hc 0 (by omega)
  have hspot : spot = none := by simpa [Addr.add] using World.cell?_spot h0
  subst hspot
  refine ⟨b, o, rfl, World.block_lt_of_cell? w ⟨b, o, none⟩ (by simpa [Addr.add] using h0), fun j u hu => ?_⟩
  simp only [List.getElem?_map, Option.map_eq_some_iff] at hu
  obtain ⟨x, ⟨n, hn', rfl⟩, rfl⟩ := hu
  obtain ⟨hj, rfl⟩ := List.getElem?_eq_some_iff.1 hn'
  have hj' : j < zs.length := by simp at hj; omega
  have h := hc j hj'
  rw [add_mk] at h
  rw [h]
  have hm : zs[j] ∈ zs := List.getElem_mem hj'
  have hb := hw _ hm
  have hb2 : 0 ≤ zs[j] ∧ zs[j] ≤ 255 := by
    simp only [Lit.wf, Bool.and_eq_true, decide_eq_true_eq] at hb
    exact hb
  have e : (zs.take l)[j] = zs[j] := by simp
  rw [e]
  simp [oct, List.getD, hj']
  omega
theorem Bs.of_own {base : Nat} {e : TypeId} {n : Nat} (h : w.ownsRow base e 1 v n (bs.map oct)) : Bs w w.heap.size v bs := by
  have hl : n = bs.length := by have := h.1; simp at this; omega
  subst hl
  rcases h.2 with ⟨hv, h0⟩ | ⟨g, cap, cur, hv, _, _, hl, hm, _⟩
  · subst hv; exact ⟨none, 0, by rw [h0], by omega, Nat.zero_le _, by rw [show bs = [] from List.length_eq_zero_iff.1 h0]; exact Rd.nil _⟩
  · subst hv; exact ⟨_, cap, rfl, hl, hm, Rd.of_own h⟩
theorem Bs.len {A : Option Addr} {n c : Nat} (h : Bs w B (.slice A n c) bs) : n = bs.length ∧ n ≤ c ∧ c ≤ maxLen := by
  obtain ⟨A', c', e, hl, hm, h⟩ := h
  injection e with e1 e2 e3
  subst e2; subst e3
  exact ⟨rfl, hl, hm⟩
theorem Bs.rd {A : Option Addr} {n c : Nat} (h : Bs w B (.slice A n c) bs) : Rd w B 1 A n (bs.map oct) := by
  obtain ⟨A', c', e, hl, hm, h⟩ := h
  injection e with e1 e2 e3
  subst e1; subst e2
  exact h
/-- A cut 's[k:]', as the model has its address. -/
theorem Bs.cut {A : Option Addr} {n c k : Nat} (h : Bs w B (.slice A n c) bs) (hk : k ≤ n) : Bs w B (.slice (if c = k then A else A.map (·.add k)) (n - k) (c - k)) (bs.drop k) := by
  obtain ⟨hn, hl, hm⟩ := h.len
  have hr := h.rd
  refine ⟨_, c - k, by rw [List.length_drop, hn], by simp; omega, by omega, by simp, fun h0 => ?_⟩
  rw [List.length_drop] at h0
  obtain ⟨b, o, rfl, hb, hc⟩ := hr.2 (by omega)
  rw [if_neg (by omega)]
  refine ⟨b, o + k, by rw [Option.map_some, add_mk], hb, fun j u hu => ?_⟩
  rw [Nat.add_assoc]
  exact hc _ u (by rw [← hu]; simp)
end

section
variable {P : Program} (w : World)

theorem run_append_empty (base : Nat) (t ty e : TypeId) (i : TypeInfo) (size : Nat) (ht : P.underlying t = some (.slice e)) (hi : P.info? e = some i)
    (v : Value) (n : Nat) (xs : List Value) (hown : w.ownsRow base e size v n xs) (c : Nat) : (Builtin.append_ #[t, t] ty #[v, .slice none 0 c]).run P w = .ok v w := by
  rcases hown.2 with ⟨rfl, rfl⟩ | ⟨g, cap, cur, rfl, _, _, hnc, _⟩
  · simp [Builtin.append_, run_underlying ht, sizeOf, typeInfo, hi, Builtin.lenOf, Builtin.firstCells]
  · simp [Builtin.append_, run_underlying ht, sizeOf, typeInfo, hi, Builtin.lenOf, Builtin.firstCells, hnc, storeCells]

theorem run_append_rd (base : Nat) (t ty e : TypeId) (i : TypeInfo) (z : Value) (size bytes : Nat) (ht : P.underlying t = some (.slice e)) (hi : P.info? e = some i) (hz : i.zero = some z)
    (hsize : i.size = size) (hby : i.bytes = bytes) (hzs : z.cells.size = size) (hsz : 0 < size)
    (v : Value) (n : Nat) (xs : List Value) (hown : w.ownsRow base e size v n xs)
    (B : Nat) (A : Option Addr) (m c : Nat) (news : List Value) (hr : Rd w B size A m news) (h1 : ∀ u ∈ news, u.oneCell' = true)
    (h63 : n + m ≤ maxLen) (hbytes : (n + m) * bytes ≤ 140737488355328) (hbase : base ≤ w.heap.size) :
    ∃ v' w', (Builtin.append_ #[t, t] ty #[v, .slice A m c]).run P w = .ok v' w' ∧ w'.ownsRow base e size v' (n + m) (xs ++ news) ∧ w.grownBy w' v.ownBlock ∧
      (v'.ownBlock = v.ownBlock ∨ v'.ownBlock = some w.heap.size) := by
  rcases A with _ | ad
  · have hm : m = 0 := by
      rcases Nat.eq_zero_or_pos m with h0 | h0
      · exact h0
      · obtain ⟨b, o, h, _⟩ := hr.2 h0
        cases h
    subst hm
    have hn : news = [] := List.eq_nil_of_length_eq_zero (by simpa using hr.1)
    subst hn
    exact ⟨v, w, run_append_empty w base t ty e i size ht hi v n xs hown c, by simpa using hown, World.grownBy.refl w _, .inl rfl⟩
  · have hcells : ∀ j u, news[j]? = some u → w.cell? (ad.add j) = some u := by
      intro j u hu
      rcases Nat.eq_zero_or_pos m with h0 | h0
      · subst h0
        have hn : news = [] := List.eq_nil_of_length_eq_zero (by simpa using hr.1)
        subst hn
        simp at hu
      · obtain ⟨b, o, h, _, hc⟩ := hr.2 h0
        injection h with h
        subst h
        rw [add_mk]
        exact hc j u hu
    obtain ⟨v', w', hrun, h2, h3, _, h5⟩ := run_append_own_at (P := P) w base t ty e i z size bytes ht hi hz hsize hby hzs hsz v n xs hown ad m c news hr.1 hcells h1 h63 hbytes hbase
    exact ⟨v', w', hrun, h2, h3, h5⟩

theorem wp_append_rd {o : Oper} {a : Act} {K : Act → World → Prop} {Q : Exit → Act → World → Prop} (s x : Operand) (t : TypeId)
    (ho : o.op = .call { callee := .builtin .append, args := #[s, x], argTypes := #[t, t] })
    (base : Nat) (e : TypeId) (i : TypeInfo) (z : Value) (size bytes : Nat) (ht : P.underlying t = some (.slice e)) (hi : P.info? e = some i) (hz : i.zero = some z)
    (hsize : i.size = size) (hby : i.bytes = bytes) (hzs : z.cells.size = size) (hsz : 0 < size)
    (v : Value) (n : Nat) (xs : List Value) (hs : a.eval s = v) (hown : w.ownsRow base e size v n xs)
    (B : Nat) (A : Option Addr) (m c : Nat) (news : List Value) (hx : a.eval x = .slice A m c) (hr : Rd w B size A m news) (h1 : ∀ u ∈ news, u.oneCell' = true)
    (h63 : n + m ≤ maxLen) (hbytes : (n + m) * bytes ≤ 140737488355328) (hbase : base ≤ w.heap.size)
    (h : ∀ v' w', w'.ownsRow base e size v' (n + m) (xs ++ news) → w.grownBy w' v.ownBlock → (v'.ownBlock = v.ownBlock ∨ v'.ownBlock = some w.heap.size) → K (a.put o.dst v') w') : o.wp P a w K Q := by
  obtain ⟨v', w', hrun, h2, h3, h4⟩ := run_append_rd (P := P) w base t o.type e i z size bytes ht hi hz hsize hby hzs hsz v n xs hown B A m c news hr h1 h63 hbytes hbase
  unfold Oper.wp execOp
  simp only [ho, resolve, invoke, builtin, Sem.run_bind, Sem.run_pure, Result.andThen_ok, List.map_toArray, List.map_cons, List.map_nil, hs, hx, hrun]
  exact h v' w' h2 h3 h4

end

end Go.Proofs.Ytkecnihgjepfeaa
namespace Go.Proofs.Ytkecnihgjepfeaa
open Go.RowKit
set_option linter.unusedVariables false

/-- The groups of seven bits of n, the lowest first, at most f + 1 of them. -/
def groups : Nat → Nat → List UInt8
  | 0, n => [UInt8.ofNat n]
  | f + 1, n => if n < 128 then [UInt8.ofNat n] else UInt8.ofNat (n % 128 + 128) :: groups f (n / 128)

end Go.Proofs.Ytkecnihgjepfeaa
namespace Go.Proofs.Ytkecnihgjepfeaa
open Go.RowKit
set_option linter.unusedVariables false

/-- A number of 64 bits as a cell. -/
def i64v (z : Int) : Value := .int .i64 z

/-- Block g, from B on, is a source: a list that lies below B, and a position in it. -/
def SrcAt (W : World) (B g : Nat) : Prop := B ≤ g ∧ g < W.heap.size ∧ ∃ (A : Option Addr) (n c k : Nat) (zs : List Int),
  k ≤ n ∧ n ≤ 4000 ∧ n ≤ c ∧ c ≤ maxLen ∧ W.cell? ⟨g, 0, none⟩ = some (.slice A n c) ∧ W.cell? ⟨g, 1, none⟩ = some (.int .i64 k) ∧ W.frozen? ⟨g, 1, none⟩ = false ∧ Rd W B 1 A n (zs.map i64v) ∧ ∀ z ∈ zs, -9223372036854775808 ≤ z ∧ z ≤ 9223372036854775807

section
variable {W W' : World} {B g h : Nat}
theorem SrcAt.keep (s : SrcAt W B g) (hs : W.heap.size ≤ W'.heap.size) (h0 : ∀ o, W'.cell? ⟨g, o, none⟩ = W.cell? ⟨g, o, none⟩) (h1 : ∀ o, W'.frozen? ⟨g, o, none⟩ = W.frozen? ⟨g, o, none⟩) (hk : ∀ p : Addr, p.block < B → W'.cell? p = W.cell? p) : SrcAt W' B g := by
  obtain ⟨hB, hg, A, n, c, k, zs, a1, a2, a3, a4, a5, a6, a7, a8, a9⟩ := s
  exact ⟨hB, by omega, A, n, c, k, zs, a1, a2, a3, a4, (h0 0).trans a5, (h0 1).trans a6, (h1 1).trans a7, a8.keep hk, a9⟩
theorem SrcAt.grown (s : SrcAt W B g) (hg : W.grownBy W' (some h)) (hne : h ≠ g) (hB : B ≤ h) : SrcAt W' B g :=
  s.keep hg.size (fun o => hg.cell_far _ s.2.1 (fun e => hne (by injection e with e; exact e.symm))) (fun o => hg.frozen_far _ s.2.1 (fun e => hne (by injection e with e; exact e.symm)))
    (fun p hp => hg.cell_far p (by have := s.1; have := s.2.1; omega) (fun e => by injection e with e; omega))
theorem SrcAt.below (s : SrcAt W B g) (hb : Below W.heap.size W W') : SrcAt W' B g :=
  s.keep hb.size (fun o => hb.cell s.2.1) (fun o => hb.frozen s.2.1) (fun p hp => hb.cell (by have := s.1; have := s.2.1; omega))
theorem SrcAt.alloc (s : SrcAt W B g) (o : Obj) : SrcAt (W.alloc o) B g := s.below ((Below.refl _ _).alloc (Nat.le_refl _) o)
theorem SrcAt.drew (s : SrcAt W B g) : SrcAt W.drew B g := s
theorem SrcAt.drewN (s : SrcAt W B g) (n : Nat) : SrcAt (W.drewN n) B g := s
theorem SrcAt.other (s : SrcAt W B g) {p : Addr} (hp : p.block ≠ g) (hB : B ≤ p.block) (v : Value) : SrcAt (W.setCell p v) B g :=
  s.keep (by simp) (fun o => World.cell?_setCell_other W p _ v (fun e => hp (by rw [e]))) (fun o => by rw [World.frozen?_setCell]) (fun q hq => World.cell?_setCell_other W p q v (fun e => by rw [e] at hB; omega))

theorem SrcAt.next (s : SrcAt W B g) {A : Option Addr} {n c k : Nat} (h0 : W.cell? ⟨g, 0, none⟩ = some (.slice A n c)) (h1 : W.cell? ⟨g, 1, none⟩ = some (.int .i64 k)) (hk : k < n) : SrcAt (W.setCell ⟨g, 1, none⟩ (.int .i64 ((k : Int) + 1))) B g := by
  obtain ⟨hB, hg, A', n', c', k', zs, a1, a2, a3, a4, a5, a6, a7, a8, a9⟩ := s
  rw [h0] at a5
  injection a5 with a5
  injection a5 with e1 e2 e3
  subst e1; subst e2; subst e3
  refine ⟨hB, by simpa using hg, A, n, c, k + 1, zs, by omega, a2, a3, a4, (World.cell?_setCell_other W _ _ _ (fun e => by injection e; omega)).trans h0, ?_, by rw [World.frozen?_setCell]; exact a7, a8.setCell hB _, a9⟩
  simp [go_sem, h1]

theorem only_drewN {a w : World} {row : Option Nat} (h : a.grownBy w row) (n : Nat) : a.grownBy (w.drewN n) row := ⟨h.os, h.tape, h.output, h.size, h.block⟩
theorem only_alloc {a w : World} {row : Option Nat} (h : a.grownBy w row) (o : Obj) : a.grownBy (w.alloc o) row :=
  ⟨h.os, h.tape, h.output, Nat.le_trans h.size (by simp), fun i hi hne => (Below.heap_alloc w o i (Nat.lt_of_lt_of_le hi h.size)).trans (h.block i hi hne)⟩
theorem only_set {a w : World} {g : Nat} (h : a.grownBy w (some g)) {p : Addr} (hp : p.block = g ∨ a.heap.size ≤ p.block) (u : Value) : a.grownBy (w.setCell p u) (some g) :=
  ⟨h.os, h.tape, h.output, by simpa [World.setCell] using h.size, fun i hi hne => (Below.heap_setCell w p u i (by
    rintro rfl
    rcases hp with hp | hp
    · exact hne (by rw [hp])
    · omega)).trans (h.block i hi hne)⟩
theorem only_below {a w w' : World} {g : Nat} (h : a.grownBy w (some g)) (hb : Below w.heap.size w w') : a.grownBy w' (some g) :=
  ⟨hb.os.trans h.os, hb.tape.trans h.tape, hb.output.trans h.output, Nat.le_trans h.size hb.size, fun i hi hne => (hb.block i (Nat.lt_of_lt_of_le hi h.size)).trans (h.block i hi hne)⟩
/-- A source lies behind B: what is below stays. -/
theorem below_only {B g : Nat} {a w w' : World} (h : Below B a w) (hg : w.grownBy w' (some g)) (hB : B ≤ g) (hz : B ≤ a.heap.size) : Below B a w' :=
  h.grown hg (Nat.le_trans hz h.size) (fun k hk => by injection hk with hk; omega)
end

/-- A call that reads a number of a source. -/
def SrInt (B g : Nat) (lo hi : Int) (w : World) (e : Ending) (w' : World) : Prop := ∃ x, e = .returned (.int .i64 x) ∧ lo ≤ x ∧ x ≤ hi ∧ SrcAt w' B g ∧ w.grownBy w' (some g)
end Go.Proofs.Ytkecnihgjepfeaa
namespace Go.Proofs.Ytkecnihgjepfeaa
open Go.RowKit
set_option linter.unusedVariables false

set_option maxHeartbeats 2000000 in
set_option maxRecDepth 20000 in
theorem raw_any (B g : Nat) (w : World) (h : SrcAt w B g) : Calls Try.prog 19 #[.pointer (some ⟨g, 0, none⟩)] w (SrInt B g (-9223372036854775808) 9223372036854775807 w) := by
  have H := Lib.hid h
  obtain ⟨hB, hg, A, n, c, k, zs, a1, a2, a3, a4, a5, a6, a7, a8, a9⟩ := h
  have HA := Lib.hid a8
  have HZ := Lib.hid a9
  have a2' : (n : Int) ≤ 4000 := by omega
  clear hB hg a2 a3 a4 a8 a9
  by_cases hk : k < n
  · have hk' : ¬ ((n : Int) ≤ (k : Int)) := by omega
    have hd : decide ((n : Int) ≤ (k : Int)) = false := decide_eq_false hk'
    obtain ⟨b, o, rfl, hb, hcell⟩ := HA.out.2 (by omega)
    have hzl : k < zs.length := by have := HA.out.1; simp at this; omega
    have hz := HZ.out zs[k] (List.getElem_mem hzl)
    have hcz := hcell k (i64v zs[k]) (by simp [hzl])
    unfold i64v at hcz
    generalize zs[k] = z at *
    have HZ2 := Lib.hid hz
    have hne1 : b ≠ g := by have := H.out.1; omega
    have hne2 : g ≠ b := fun e => hne1 e.symm
    have hk63 : (k : Int) < (n : Int) := by omega
    have hk0 : (0 : Int) ≤ (k : Int) := Int.natCast_nonneg _
    have hs : IntKind.i64.wrap ((k : Int) + 1 - 1) = k := by rw [IntWalk.i64_in _ (by omega)]; omega
    clear hcell hzl hz
    go_enter Try.func19, Try.ntmps19
    go_wp2
    go_quiet (fail)
    go_wp2
    go_quiet (fail)
    go_wp2
    go_ret
    exact ⟨z, rfl, HZ2.out.1, HZ2.out.2, ((H.out.drewN _).next a5 a6 (by omega)).drewN _, only_drewN (only_set (only_drewN (World.grownBy.refl _ _) _) (.inl rfl) _) _⟩
  · have hk' : (n : Int) ≤ (k : Int) := by omega
    have hd : decide ((n : Int) ≤ (k : Int)) = true := decide_eq_true hk'
    go_enter Try.func19, Try.ntmps19
    go_wp2
    go_quiet (fail)
    go_wp2
    go_ret
    exact ⟨0, rfl, by omega, by omega, H.out.drewN _, only_drewN (World.grownBy.refl _ _) _⟩

theorem tmod_gt (x n : Int) (h : 0 < n) : -n < x.tmod n := by
  have h1 := Int.tmod_lt_of_pos (-x) h
  rw [Int.neg_tmod] at h1
  omega

set_option maxHeartbeats 2000000 in
theorem n_any (B g : Nat) (w : World) (h : SrcAt w B g) (n : Int) (h1 : 1 ≤ n) (h2 : n ≤ 1073741824) : Calls Try.prog 11 #[.pointer (some ⟨g, 0, none⟩), .int .i64 n] w (SrInt B g 0 (n - 1) w) := by
  have HC := Lib.hid (raw_any B g w h)
  clear h
  go_enter Try.func11, Try.ntmps11
  go_wp2_with fail
  refine HC.out.mono ?_
  rintro e w1 ⟨x, rfl, hx1, hx2, hs, hg⟩
  have HS := Lib.hid hs
  have HG := Lib.hid hg
  have hr1 : x.tmod n < n := Int.tmod_lt_of_pos x (by omega)
  have hr2 : -n < x.tmod n := tmod_gt x n (by omega)
  clear hs hg
  by_cases hr : x.tmod n < 0
  · go_wp2
    go_ret
    exact ⟨x.tmod n + n, rfl, by omega, by omega, HS.out, HG.out⟩
  · go_wp2
    go_ret
    exact ⟨x.tmod n, rfl, by omega, by omega, HS.out, HG.out⟩

set_option maxHeartbeats 2000000 in
theorem range_any (B g : Nat) (w : World) (h : SrcAt w B g) (lo hi : Int) (h0 : 0 ≤ lo) (h1 : lo ≤ hi) (h2 : hi ≤ 1073741823) : Calls Try.prog 20 #[.pointer (some ⟨g, 0, none⟩), .int .i64 lo, .int .i64 hi] w (SrInt B g lo hi w) := by
  have HC := Lib.hid (n_any B g w h (hi - lo + 1) (by omega) (by omega))
  clear h
  go_enter Try.func20, Try.ntmps20
  go_wp2_with fail
  refine HC.out.mono ?_
  rintro e w1 ⟨x, rfl, hx1, hx2, hs, hg⟩
  have HS := Lib.hid hs
  have HG := Lib.hid hg
  clear hs hg
  go_wp2
  go_ret
  exact ⟨lo + x, rfl, by omega, by omega, HS.out, HG.out⟩
end Go.Proofs.Ytkecnihgjepfeaa
namespace Go.Proofs.Ytkecnihgjepfeaa
open Go.RowKit
set_option linter.unusedVariables false
set_option linter.unusedSimpArgs false

/-- A walk. -/
structure Wk where
  nx : Int
  cv : Int
abbrev Wk.v (x : Wk) : Value := .agg #[.int .i64 x.nx, .int .i64 x.cv]
abbrev zWk : Wk := ⟨0, 0⟩
def wki (n lo hi : Int) : Bool := decide (lo ≤ n ∧ n ≤ hi)
theorem wki_t {n lo hi : Int} (h1 : lo ≤ n) (h2 : n ≤ hi) : wki n lo hi = true := decide_eq_true ⟨h1, h2⟩
theorem wki_of {n lo hi : Int} (h : wki n lo hi = true) : lo ≤ n ∧ n ≤ hi := of_decide_eq_true h
theorem wki_f {n lo hi : Int} (h : wki n lo hi = false) : ¬ (lo ≤ n ∧ n ≤ hi) := of_decide_eq_false h
/-- Begin, Advance, Over: what they give. -/
def bgW (r : Int) : Wk := if wki r 0 65535 = true then ⟨r, 0⟩ else zWk
def bgWE (r : Int) : Int := if wki r 0 65535 = true then 0 else 1
def adB (x : Wk) (lo hi : Int) : Bool := wki lo 0 x.nx && wki hi x.nx 65535 && wki x.cv 0 65535
def nxW (hi : Int) : Int := (hi + 1).tmod 65536
def adW (x : Wk) (lo hi : Int) : Wk := if adB x lo hi = true then ⟨nxW hi, x.cv + hi - x.nx + 1⟩ else zWk
def adWE (x : Wk) (lo hi : Int) : Int := if adB x lo hi = true then 0 else 1
def ovB (x : Wk) : Bool := decide (65536 ≤ x.cv)
/-- A box of a walk that may be written. -/
structure Wb (W : World) (p : Nat) (x : Wk) : Prop where
  c0 : W.cell? ⟨p, 0, none⟩ = some (.int .i64 x.nx)
  c1 : W.cell? ⟨p, 1, none⟩ = some (.int .i64 x.cv)
  lt : p < W.heap.size
  fr : ∀ o, W.frozen? ⟨p, o, none⟩ = false
section
variable {W W' : World} {p g : Nat} {x y : Wk}
theorem Wb.start (w : World) (x : Wk) (t : TypeId) : Wb (w.alloc (.cells #[.int .i64 x.nx, .int .i64 x.cv] t)) w.heap.size x := ⟨by simp [go_sem], by simp [go_sem], by simp, fun o => by simp [go_sem]⟩
theorem Wb.up (h : Wb W p x) (hb : Below W.heap.size W W') : Wb W' p x := ⟨(hb.cell (p := ⟨p, 0, none⟩) h.lt).trans h.c0, (hb.cell (p := ⟨p, 1, none⟩) h.lt).trans h.c1, Nat.lt_of_lt_of_le h.lt hb.size, fun o => (hb.frozen (p := ⟨p, o, none⟩) h.lt).trans (h.fr o)⟩
theorem Wb.grown (h : Wb W p x) (hg : W.grownBy W' (some g)) (hne : p ≠ g) : Wb W' p x := ⟨(hg.cell_far ⟨p, 0, none⟩ h.lt (fun e => by injection e with e; exact hne e)).trans h.c0, (hg.cell_far ⟨p, 1, none⟩ h.lt (fun e => by injection e with e; exact hne e)).trans h.c1, Nat.lt_of_lt_of_le h.lt hg.size, fun o => (hg.frozen_far ⟨p, o, none⟩ h.lt (fun e => by injection e with e; exact hne e)).trans (h.fr o)⟩
theorem Wb.other (h : Wb W p x) {a : Addr} (hne : a.block ≠ p) (v : Value) : Wb (W.setCell a v) p x := by
  have h0 : a ≠ ⟨p, 0, none⟩ := fun e => hne (by rw [e])
  have h1 : a ≠ ⟨p, 1, none⟩ := fun e => hne (by rw [e])
  exact ⟨(World.cell?_setCell_other W _ _ _ h0).trans h.c0, (World.cell?_setCell_other W _ _ _ h1).trans h.c1, by simpa using h.lt, fun o => by rw [World.frozen?_setCell]; exact h.fr o⟩
theorem Wb.set (h : Wb W p x) (y : Wk) : Wb ((W.setCell ⟨p, 0, none⟩ (.int .i64 y.nx)).setCell ⟨p, 1, none⟩ (.int .i64 y.cv)) p y := ⟨by simp [go_sem, h.c0], by simp [go_sem, h.c1], by simpa using h.lt, fun o => by rw [World.frozen?_setCell, World.frozen?_setCell]; exact h.fr o⟩
theorem Wb.all (h : Wb W p x) : W.cell? ⟨p, 0, none⟩ = some (.int .i64 x.nx) ∧ W.cell? ⟨p, 1, none⟩ = some (.int .i64 x.cv) ∧ p < W.heap.size ∧ W.frozen? ⟨p, 0, none⟩ = false ∧ W.frozen? ⟨p, 1, none⟩ = false := ⟨h.c0, h.c1, h.lt, h.fr 0, h.fr 1⟩
end
/-- A walk and an error as results. -/
def WkP (w : World) (x : Wk) (k : Int) (e : Ending) (w' : World) : Prop := e = .returned (.tuple #[x.v, .int .i64 k]) ∧ Below w.heap.size w w'
theorem bel_set2 {w W : World} {r : Nat} (hb : Below w.heap.size w W) (hr : w.heap.size ≤ r) (u v : Value) : Below w.heap.size w ((W.setCell ⟨r, 0, none⟩ u).setCell ⟨r, 1, none⟩ v) := Below.setCell (Below.setCell hb (show w.heap.size ≤ (⟨r, 0, none⟩ : Addr).block from hr) u) (show w.heap.size ≤ (⟨r, 1, none⟩ : Addr).block from hr) v
theorem nxW_of {hi : Int} (h1 : 0 ≤ hi) (h2 : hi ≤ 65535) : nxW hi = if hi = 65535 then 0 else hi + 1 := by
  unfold nxW
  by_cases h : hi = 65535
  · subst h; rfl
  · rw [if_neg h, Int.tmod_eq_emod_of_nonneg (by omega)]; omega
theorem bgW_y {r : Int} (h : wki r 0 65535 = true) : bgW r = ⟨r, 0⟩ ∧ bgWE r = 0 := ⟨if_pos h, if_pos h⟩
theorem bgW_n {r : Int} (h : wki r 0 65535 = false) : bgW r = zWk ∧ bgWE r = 1 := ⟨if_neg (by rw [h]; decide), if_neg (by rw [h]; decide)⟩
theorem adW_y {x : Wk} {lo hi : Int} (h : adB x lo hi = true) : adW x lo hi = ⟨nxW hi, x.cv + hi - x.nx + 1⟩ ∧ adWE x lo hi = 0 := ⟨if_pos h, if_pos h⟩
theorem adW_n {x : Wk} {lo hi : Int} (h : adB x lo hi = false) : adW x lo hi = zWk ∧ adWE x lo hi = 1 := ⟨if_neg (by rw [h]; decide), if_neg (by rw [h]; decide)⟩

theorem wwithin_any (n lo hi : Int) (w : World) : Calls Try.prog 18 #[.int .i64 n, .int .i64 lo, .int .i64 hi] w fun e w' => e = .returned (.bool (wki n lo hi)) ∧ w = w' := by
  by_cases h1 : lo ≤ n
  · by_cases h2 : n ≤ hi
    · have H := Lib.hid (wki_t h1 h2)
      go_enter Try.func18, Try.ntmps18
      go_wp2
      go_ret
      exact ⟨by rw [H.out]; rfl, rfl⟩
    · have H := Lib.hid (show wki n lo hi = false from decide_eq_false (fun h => h2 h.2))
      go_enter Try.func18, Try.ntmps18
      go_wp2
      go_ret
      exact ⟨by rw [H.out]; rfl, rfl⟩
  · have H := Lib.hid (show wki n lo hi = false from decide_eq_false (fun h => h1 h.1))
    go_enter Try.func18, Try.ntmps18
    go_wp2
    go_ret
    exact ⟨by rw [H.out]; rfl, rfl⟩
set_option maxHeartbeats 2000000 in
set_option maxRecDepth 20000 in
theorem wbegin_any (x : Int) (w : World) : Calls Try.prog 7 #[.int .i64 x] w (WkP w (bgW x) (bgWE x)) := by
  have HR := Lib.hid (Wb.start w zWk 23)
  have HB := Lib.hid ((Below.refl w.heap.size w).alloc (Nat.le_refl _) (.cells #[.int .i64 0, .int .i64 0] 23))
  obtain ⟨r, hr⟩ : ∃ r, r = w.heap.size := ⟨_, rfl⟩
  have HN := Lib.hid hr
  rw [← hr] at HR
  clear hr
  cases hb : wki x 0 65535 with
  | true =>
    have HQ := Lib.hid (bgW_y hb)
    have HW := Lib.hid (fun W => wwithin_any x 0 65535 W)
    rw [hb] at HW
    clear hb
    go_enter Try.func7, Try.ntmps7
    go_upto_region 1 with (fail)
    rw [← HN.out] at ⊢
    generalize w.alloc (.cells #[.int .i64 0, .int .i64 0] 23) = w1 at *
    have HF := Lib.hid (show WkP w (bgW x) (bgWE x) (.returned (.tuple #[.agg #[.int .i64 x, .int .i64 0], .int .i64 0])) ((w1.setCell ⟨r, 0, none⟩ (.int .i64 x)).setCell ⟨r, 1, none⟩ (.int .i64 0)) from ⟨by rw [HQ.out.1, HQ.out.2], bel_set2 HB.out (by rw [HN.out]; exact Nat.le_refl _) _ _⟩)
    obtain ⟨x0, x1, xl, f0, f1⟩ := HR.out.all
    clear HR
    go_wp2_with fail
    refine (HW.out _).mono ?_
    rintro e w2 ⟨rfl, rfl⟩
    go_wp2
    exact bodyPost_ret (v := .tuple #[.agg #[.int .i64 x, .int .i64 0], .int .i64 0]) (by simp only [results, Try.results7]; go_simp <;> rfl) rfl HF.out
  | false =>
    have HQ := Lib.hid (bgW_n hb)
    have HW := Lib.hid (fun W => wwithin_any x 0 65535 W)
    rw [hb] at HW
    clear hb
    go_enter Try.func7, Try.ntmps7
    go_upto_region 1 with (fail)
    rw [← HN.out] at ⊢
    generalize w.alloc (.cells #[.int .i64 0, .int .i64 0] 23) = w1 at *
    have HF := Lib.hid (show WkP w (bgW x) (bgWE x) (.returned (.tuple #[.agg #[.int .i64 0, .int .i64 0], .int .i64 1])) ((w1.setCell ⟨r, 0, none⟩ (.int .i64 0)).setCell ⟨r, 1, none⟩ (.int .i64 0)) from ⟨by rw [HQ.out.1, HQ.out.2], bel_set2 HB.out (by rw [HN.out]; exact Nat.le_refl _) _ _⟩)
    obtain ⟨x0, x1, xl, f0, f1⟩ := HR.out.all
    clear HR
    go_wp2_with fail
    refine (HW.out _).mono ?_
    rintro e w2 ⟨rfl, rfl⟩
    go_wp2
    exact bodyPost_ret (v := .tuple #[.agg #[.int .i64 0, .int .i64 0], .int .i64 1]) (by simp only [results, Try.results7]; go_simp <;> rfl) rfl HF.out
set_option maxHeartbeats 2000000 in
set_option maxRecDepth 20000 in
theorem rbegin16_any (x : Int) (w : World) : Calls Try.prog 8 #[.int .i64 x] w (WkP w (bgW x) (bgWE x)) := by
  have HR := Lib.hid (Wb.start w zWk 23)
  have HB := Lib.hid ((Below.refl w.heap.size w).alloc (Nat.le_refl _) (.cells #[.int .i64 0, .int .i64 0] 23))
  obtain ⟨r, hr⟩ : ∃ r, r = w.heap.size := ⟨_, rfl⟩
  have HN := Lib.hid hr
  rw [← hr] at HR
  clear hr
  cases hb : wki x 0 65535 with
  | true =>
    have HQ := Lib.hid (bgW_y hb)
    obtain ⟨h1, h2⟩ := wki_of hb
    have h3 : ¬ x < 0 := by omega
    have h4 : ¬ 65536 ≤ x := by omega
    clear hb h1 h2
    go_enter Try.func8, Try.ntmps8
    go_upto_region 1 with (fail)
    rw [← HN.out] at ⊢
    generalize w.alloc (.cells #[.int .i64 0, .int .i64 0] 23) = w1 at *
    have HF := Lib.hid (show WkP w (bgW x) (bgWE x) (.returned (.tuple #[.agg #[.int .i64 x, .int .i64 0], .int .i64 0])) ((w1.setCell ⟨r, 0, none⟩ (.int .i64 x)).setCell ⟨r, 1, none⟩ (.int .i64 0)) from ⟨by rw [HQ.out.1, HQ.out.2], bel_set2 HB.out (by rw [HN.out]; exact Nat.le_refl _) _ _⟩)
    obtain ⟨x0, x1, xl, f0, f1⟩ := HR.out.all
    clear HR
    go_wp2
    exact bodyPost_ret (v := .tuple #[.agg #[.int .i64 x, .int .i64 0], .int .i64 0]) (by simp only [results, Try.results8]; go_simp <;> rfl) rfl HF.out
  | false =>
    have HQ := Lib.hid (bgW_n hb)
    have h1 := wki_f hb
    clear hb
    by_cases h3 : x < 0
    · clear h1
      go_enter Try.func8, Try.ntmps8
      go_upto_region 1 with (fail)
      rw [← HN.out] at ⊢
      generalize w.alloc (.cells #[.int .i64 0, .int .i64 0] 23) = w1 at *
      have HF := Lib.hid (show WkP w (bgW x) (bgWE x) (.returned (.tuple #[.agg #[.int .i64 0, .int .i64 0], .int .i64 1])) ((w1.setCell ⟨r, 0, none⟩ (.int .i64 0)).setCell ⟨r, 1, none⟩ (.int .i64 0)) from ⟨by rw [HQ.out.1, HQ.out.2], bel_set2 HB.out (by rw [HN.out]; exact Nat.le_refl _) _ _⟩)
      obtain ⟨x0, x1, xl, f0, f1⟩ := HR.out.all
      clear HR
      go_wp2
      exact bodyPost_ret (v := .tuple #[.agg #[.int .i64 0, .int .i64 0], .int .i64 1]) (by simp only [results, Try.results8]; go_simp <;> rfl) rfl HF.out
    · have h4 : 65536 ≤ x := by omega
      clear h1
      go_enter Try.func8, Try.ntmps8
      go_upto_region 1 with (fail)
      rw [← HN.out] at ⊢
      generalize w.alloc (.cells #[.int .i64 0, .int .i64 0] 23) = w1 at *
      have HF := Lib.hid (show WkP w (bgW x) (bgWE x) (.returned (.tuple #[.agg #[.int .i64 0, .int .i64 0], .int .i64 1])) ((w1.setCell ⟨r, 0, none⟩ (.int .i64 0)).setCell ⟨r, 1, none⟩ (.int .i64 0)) from ⟨by rw [HQ.out.1, HQ.out.2], bel_set2 HB.out (by rw [HN.out]; exact Nat.le_refl _) _ _⟩)
      obtain ⟨x0, x1, xl, f0, f1⟩ := HR.out.all
      clear HR
      go_wp2
      exact bodyPost_ret (v := .tuple #[.agg #[.int .i64 0, .int .i64 0], .int .i64 1]) (by simp only [results, Try.results8]; go_simp <;> rfl) rfl HF.out
set_option maxHeartbeats 2000000 in
set_option maxRecDepth 20000 in
theorem wadvance_any (x : Wk) (lo hi : Int) (w : World) : Calls Try.prog 9 #[x.v, .int .i64 lo, .int .i64 hi] w (WkP w (adW x lo hi) (adWE x lo hi)) := by
  have HP := Lib.hid ((Wb.start w x 23).up ((Below.refl _ _).alloc (Nat.le_refl _) (.cells #[.int .i64 0, .int .i64 0] 23)))
  have HR := Lib.hid (Wb.start (w.alloc (.cells #[.int .i64 x.nx, .int .i64 x.cv] 23)) zWk 23)
  have HB := Lib.hid (((Below.refl w.heap.size w).alloc (Nat.le_refl _) (.cells #[.int .i64 x.nx, .int .i64 x.cv] 23)).alloc (by simp) (.cells #[.int .i64 0, .int .i64 0] 23))
  obtain ⟨p, hp⟩ : ∃ p, p = w.heap.size := ⟨_, rfl⟩
  obtain ⟨r, hr⟩ : ∃ r, r = w.heap.size + 1 := ⟨_, rfl⟩
  have HN := Lib.hid (And.intro hp hr)
  rw [show (w.alloc (.cells #[.int .i64 x.nx, .int .i64 x.cv] 23)).heap.size = r by rw [hr]; simp] at HR
  rw [← hp] at HP
  clear hp hr
  have HW1 := Lib.hid (fun W => wwithin_any lo 0 x.nx W)
  have HW2 := Lib.hid (fun W => wwithin_any hi x.nx 65535 W)
  have HW3 := Lib.hid (fun W => wwithin_any x.cv 0 65535 W)
  cases b1 : wki lo 0 x.nx with
  | false =>
    have HQ := Lib.hid (adW_n (x := x) (lo := lo) (hi := hi) (by unfold adB; rw [b1]; rfl))
    rw [b1] at HW1
    clear b1
    go_enter Try.func9, Try.ntmps9
    go_upto_region 1 with (fail)
    rw [← HN.out.2, ← HN.out.1]
    generalize (w.alloc (.cells #[.int .i64 x.nx, .int .i64 x.cv] 23)).alloc (.cells #[.int .i64 0, .int .i64 0] 23) = w1 at *
    have HF := Lib.hid (show WkP w (adW x lo hi) (adWE x lo hi) (.returned (.tuple #[.agg #[.int .i64 0, .int .i64 0], .int .i64 1])) ((w1.setCell ⟨r, 0, none⟩ (.int .i64 0)).setCell ⟨r, 1, none⟩ (.int .i64 0)) from ⟨by rw [HQ.out.1, HQ.out.2], bel_set2 HB.out (by rw [HN.out.2]; omega) _ _⟩)
    have hpr : ¬ p = r := by have h1 := HN.out.1; have h2 := HN.out.2; omega
    have hrp : ¬ r = p := fun e => hpr e.symm
    obtain ⟨p0, p1, pl, g0, g1⟩ := HP.out.all
    obtain ⟨r0, r1, rl, f0, f1⟩ := HR.out.all
    clear HP HR HB
    go_wp2_with fail
    refine (HW1.out _).mono ?_
    rintro e w2 ⟨rfl, rfl⟩
    go_wp2
    exact bodyPost_ret (v := .tuple #[.agg #[.int .i64 0, .int .i64 0], .int .i64 1]) (by simp only [results, Try.results9]; go_simp <;> rfl) rfl HF.out
  | true =>
    cases b2 : wki hi x.nx 65535 with
    | false =>
      have HQ := Lib.hid (adW_n (x := x) (lo := lo) (hi := hi) (by unfold adB; rw [b1, b2]; rfl))
      rw [b1] at HW1
      rw [b2] at HW2
      clear b1 b2
      go_enter Try.func9, Try.ntmps9
      go_upto_region 1 with (fail)
      rw [← HN.out.2, ← HN.out.1]
      generalize (w.alloc (.cells #[.int .i64 x.nx, .int .i64 x.cv] 23)).alloc (.cells #[.int .i64 0, .int .i64 0] 23) = w1 at *
      have HF := Lib.hid (show WkP w (adW x lo hi) (adWE x lo hi) (.returned (.tuple #[.agg #[.int .i64 0, .int .i64 0], .int .i64 1])) ((w1.setCell ⟨r, 0, none⟩ (.int .i64 0)).setCell ⟨r, 1, none⟩ (.int .i64 0)) from ⟨by rw [HQ.out.1, HQ.out.2], bel_set2 HB.out (by rw [HN.out.2]; omega) _ _⟩)
      have hpr : ¬ p = r := by have h1 := HN.out.1; have h2 := HN.out.2; omega
      have hrp : ¬ r = p := fun e => hpr e.symm
      obtain ⟨p0, p1, pl, g0, g1⟩ := HP.out.all
      obtain ⟨r0, r1, rl, f0, f1⟩ := HR.out.all
      clear HP HR HB
      go_wp2_with fail
      refine (HW1.out _).mono ?_
      rintro e w2 ⟨rfl, rfl⟩
      go_wp2_with fail
      refine (HW2.out _).mono ?_
      rintro e w2 ⟨rfl, rfl⟩
      go_wp2
      exact bodyPost_ret (v := .tuple #[.agg #[.int .i64 0, .int .i64 0], .int .i64 1]) (by simp only [results, Try.results9]; go_simp <;> rfl) rfl HF.out
    | true =>
      cases b3 : wki x.cv 0 65535 with
      | false =>
        have HQ := Lib.hid (adW_n (x := x) (lo := lo) (hi := hi) (by unfold adB; rw [b1, b2, b3]; rfl))
        rw [b1] at HW1
        rw [b2] at HW2
        rw [b3] at HW3
        clear b1 b2 b3
        go_enter Try.func9, Try.ntmps9
        go_upto_region 1 with (fail)
        rw [← HN.out.2, ← HN.out.1]
        generalize (w.alloc (.cells #[.int .i64 x.nx, .int .i64 x.cv] 23)).alloc (.cells #[.int .i64 0, .int .i64 0] 23) = w1 at *
        have HF := Lib.hid (show WkP w (adW x lo hi) (adWE x lo hi) (.returned (.tuple #[.agg #[.int .i64 0, .int .i64 0], .int .i64 1])) ((w1.setCell ⟨r, 0, none⟩ (.int .i64 0)).setCell ⟨r, 1, none⟩ (.int .i64 0)) from ⟨by rw [HQ.out.1, HQ.out.2], bel_set2 HB.out (by rw [HN.out.2]; omega) _ _⟩)
        have hpr : ¬ p = r := by have h1 := HN.out.1; have h2 := HN.out.2; omega
        have hrp : ¬ r = p := fun e => hpr e.symm
        obtain ⟨p0, p1, pl, g0, g1⟩ := HP.out.all
        obtain ⟨r0, r1, rl, f0, f1⟩ := HR.out.all
        clear HP HR HB
        go_wp2_with fail
        refine (HW1.out _).mono ?_
        rintro e w2 ⟨rfl, rfl⟩
        go_wp2_with fail
        refine (HW2.out _).mono ?_
        rintro e w2 ⟨rfl, rfl⟩
        go_wp2_with fail
        refine (HW3.out _).mono ?_
        rintro e w2 ⟨rfl, rfl⟩
        go_wp2
        exact bodyPost_ret (v := .tuple #[.agg #[.int .i64 0, .int .i64 0], .int .i64 1]) (by simp only [results, Try.results9]; go_simp <;> rfl) rfl HF.out
      | true =>
        have HQ := Lib.hid (adW_y (x := x) (lo := lo) (hi := hi) (by unfold adB; rw [b1, b2, b3]; rfl))
        have h1 := wki_of b1
        have h2 := wki_of b2
        have h3 := wki_of b3
        have hw1 : IntKind.i64.wrap (hi + 1) = hi + 1 := IntWalk.i64_in _ (by omega)
        have hw2 : IntKind.i64.wrap (x.cv + hi) = x.cv + hi := IntWalk.i64_in _ (by omega)
        have hw3 : IntKind.i64.wrap (x.cv + hi - x.nx) = x.cv + hi - x.nx := IntWalk.i64_in _ (by omega)
        have hw4 : IntKind.i64.wrap (x.cv + hi - x.nx + 1) = x.cv + hi - x.nx + 1 := IntWalk.i64_in _ (by omega)
        have hw5 : IntKind.i64.wrap ((hi + 1).tmod 65536) = nxW hi := by
          have e := nxW_of (hi := hi) (by omega) h2.2
          have e2 : (hi + 1).tmod 65536 = nxW hi := rfl
          rw [e2, e]
          split
          · rfl
          · exact IntWalk.i64_in _ (by omega)
        have hw6 : (hi + 1).tmod 65536 = nxW hi := rfl
        rw [b1] at HW1
        rw [b2] at HW2
        rw [b3] at HW3
        clear b1 b2 b3 h1 h2 h3
        go_enter Try.func9, Try.ntmps9
        go_upto_region 1 with (fail)
        rw [← HN.out.2, ← HN.out.1]
        generalize (w.alloc (.cells #[.int .i64 x.nx, .int .i64 x.cv] 23)).alloc (.cells #[.int .i64 0, .int .i64 0] 23) = w1 at *
        have HF := Lib.hid (show WkP w (adW x lo hi) (adWE x lo hi) (.returned (.tuple #[.agg #[.int .i64 (nxW hi), .int .i64 (x.cv + hi - x.nx + 1)], .int .i64 0])) ((w1.setCell ⟨r, 0, none⟩ (.int .i64 (nxW hi))).setCell ⟨r, 1, none⟩ (.int .i64 (x.cv + hi - x.nx + 1))) from ⟨by rw [HQ.out.1, HQ.out.2], bel_set2 HB.out (by rw [HN.out.2]; omega) _ _⟩)
        have hpr : ¬ p = r := by have h1 := HN.out.1; have h2 := HN.out.2; omega
        have hrp : ¬ r = p := fun e => hpr e.symm
        obtain ⟨p0, p1, pl, g0, g1⟩ := HP.out.all
        obtain ⟨r0, r1, rl, f0, f1⟩ := HR.out.all
        clear HP HR HB
        go_wp2_with fail
        refine (HW1.out _).mono ?_
        rintro e w2 ⟨rfl, rfl⟩
        go_wp2_with fail
        refine (HW2.out _).mono ?_
        rintro e w2 ⟨rfl, rfl⟩
        go_wp2_with fail
        refine (HW3.out _).mono ?_
        rintro e w2 ⟨rfl, rfl⟩
        go_wp2
        exact bodyPost_ret (v := .tuple #[.agg #[.int .i64 (nxW hi), .int .i64 (x.cv + hi - x.nx + 1)], .int .i64 0]) (by simp only [results, Try.results9]; go_simp <;> rfl) rfl HF.out
set_option maxHeartbeats 2000000 in
set_option maxRecDepth 20000 in
theorem radvance16_any (x : Wk) (lo hi : Int) (w : World) : Calls Try.prog 10 #[x.v, .int .i64 lo, .int .i64 hi] w (WkP w (adW x lo hi) (adWE x lo hi)) := by
  have HP := Lib.hid ((Wb.start w x 23).up ((Below.refl _ _).alloc (Nat.le_refl _) (.cells #[.int .i64 0, .int .i64 0] 23)))
  have HR := Lib.hid (Wb.start (w.alloc (.cells #[.int .i64 x.nx, .int .i64 x.cv] 23)) zWk 23)
  have HB := Lib.hid (((Below.refl w.heap.size w).alloc (Nat.le_refl _) (.cells #[.int .i64 x.nx, .int .i64 x.cv] 23)).alloc (by simp) (.cells #[.int .i64 0, .int .i64 0] 23))
  obtain ⟨p, hp⟩ : ∃ p, p = w.heap.size := ⟨_, rfl⟩
  obtain ⟨r, hr⟩ : ∃ r, r = w.heap.size + 1 := ⟨_, rfl⟩
  have HN := Lib.hid (And.intro hp hr)
  rw [show (w.alloc (.cells #[.int .i64 x.nx, .int .i64 x.cv] 23)).heap.size = r by rw [hr]; simp] at HR
  rw [← hp] at HP
  clear hp hr
  cases b1 : adB x lo hi with
  | true =>
    have HQ := Lib.hid (adW_y (x := x) (lo := lo) (hi := hi) b1)
    have hb : ((wki lo 0 x.nx = true ∧ wki hi x.nx 65535 = true) ∧ wki x.cv 0 65535 = true) := by
      have := b1
      unfold adB at this
      simpa only [Bool.and_eq_true] using this
    have h1 := wki_of hb.1.1
    have h2 := wki_of hb.1.2
    have h3 := wki_of hb.2
    have hw1 : IntKind.i64.wrap (hi + 1) = hi + 1 := IntWalk.i64_in _ (by omega)
    have hw2 : IntKind.i64.wrap (x.cv + hi) = x.cv + hi := IntWalk.i64_in _ (by omega)
    have hw3 : IntKind.i64.wrap (x.cv + hi - x.nx) = x.cv + hi - x.nx := IntWalk.i64_in _ (by omega)
    have hw4 : IntKind.i64.wrap (x.cv + hi - x.nx + 1) = x.cv + hi - x.nx + 1 := IntWalk.i64_in _ (by omega)
    have hw6 : (hi + 1).tmod 65536 = nxW hi := rfl
    have hw5 : IntKind.i64.wrap ((hi + 1).tmod 65536) = nxW hi := by
      have e := nxW_of (hi := hi) (by omega) h2.2
      rw [hw6, e]
      split
      · rfl
      · exact IntWalk.i64_in _ (by omega)
    have n1 : ¬ lo < 0 := by omega
    have n2 : ¬ x.nx < lo := by omega
    have n3 : ¬ hi < x.nx := by omega
    have n4 : ¬ 65536 ≤ hi := by omega
    have n5 : ¬ x.cv < 0 := by omega
    have n6 : ¬ 65536 ≤ x.cv := by omega
    clear b1 hb h1 h2 h3
    go_enter Try.func10, Try.ntmps10
    go_upto_region 1 with (fail)
    rw [← HN.out.2, ← HN.out.1]
    generalize (w.alloc (.cells #[.int .i64 x.nx, .int .i64 x.cv] 23)).alloc (.cells #[.int .i64 0, .int .i64 0] 23) = w1 at *
    have HF := Lib.hid (show WkP w (adW x lo hi) (adWE x lo hi) (.returned (.tuple #[.agg #[.int .i64 (nxW hi), .int .i64 (x.cv + hi - x.nx + 1)], .int .i64 0])) ((w1.setCell ⟨r, 0, none⟩ (.int .i64 (nxW hi))).setCell ⟨r, 1, none⟩ (.int .i64 (x.cv + hi - x.nx + 1))) from ⟨by rw [HQ.out.1, HQ.out.2], bel_set2 HB.out (by rw [HN.out.2]; omega) _ _⟩)
    have hpr : ¬ p = r := by have h1 := HN.out.1; have h2 := HN.out.2; omega
    have hrp : ¬ r = p := fun e => hpr e.symm
    obtain ⟨p0, p1, pl, g0, g1⟩ := HP.out.all
    obtain ⟨r0, r1, rl, f0, f1⟩ := HR.out.all
    clear HP HR HB
    go_wp2
    exact bodyPost_ret (v := .tuple #[.agg #[.int .i64 (nxW hi), .int .i64 (x.cv + hi - x.nx + 1)], .int .i64 0]) (by simp only [results, Try.results10]; go_simp <;> rfl) rfl HF.out
  | false =>
    have HQ := Lib.hid (adW_n (x := x) (lo := lo) (hi := hi) b1)
    have hb : lo < 0 ∨ x.nx < lo ∨ hi < x.nx ∨ 65536 ≤ hi ∨ x.cv < 0 ∨ 65536 ≤ x.cv := by
      by_cases h : lo < 0 ∨ x.nx < lo ∨ hi < x.nx ∨ 65536 ≤ hi ∨ x.cv < 0 ∨ 65536 ≤ x.cv
      · exact h
      · exfalso
        have : adB x lo hi = true := by
          unfold adB
          rw [wki_t (by omega) (by omega), wki_t (by omega) (by omega), wki_t (by omega) (by omega)]
          rfl
        rw [this] at b1
        cases b1
    clear b1
    by_cases n1 : lo < 0
    · clear hb
      go_enter Try.func10, Try.ntmps10
      go_upto_region 1 with (fail)
      rw [← HN.out.2, ← HN.out.1]
      generalize (w.alloc (.cells #[.int .i64 x.nx, .int .i64 x.cv] 23)).alloc (.cells #[.int .i64 0, .int .i64 0] 23) = w1 at *
      have HF := Lib.hid (show WkP w (adW x lo hi) (adWE x lo hi) (.returned (.tuple #[.agg #[.int .i64 0, .int .i64 0], .int .i64 1])) ((w1.setCell ⟨r, 0, none⟩ (.int .i64 0)).setCell ⟨r, 1, none⟩ (.int .i64 0)) from ⟨by rw [HQ.out.1, HQ.out.2], bel_set2 HB.out (by rw [HN.out.2]; omega) _ _⟩)
      have hpr : ¬ p = r := by have h1 := HN.out.1; have h2 := HN.out.2; omega
      have hrp : ¬ r = p := fun e => hpr e.symm
      obtain ⟨p0, p1, pl, g0, g1⟩ := HP.out.all
      obtain ⟨r0, r1, rl, f0, f1⟩ := HR.out.all
      clear HP HR HB
      go_wp2
      exact bodyPost_ret (v := .tuple #[.agg #[.int .i64 0, .int .i64 0], .int .i64 1]) (by simp only [results, Try.results10]; go_simp <;> rfl) rfl HF.out
    · have hb := hb.resolve_left n1
      by_cases n2 : x.nx < lo
      · clear hb
        go_enter Try.func10, Try.ntmps10
        go_upto_region 1 with (fail)
        rw [← HN.out.2, ← HN.out.1]
        generalize (w.alloc (.cells #[.int .i64 x.nx, .int .i64 x.cv] 23)).alloc (.cells #[.int .i64 0, .int .i64 0] 23) = w1 at *
        have HF := Lib.hid (show WkP w (adW x lo hi) (adWE x lo hi) (.returned (.tuple #[.agg #[.int .i64 0, .int .i64 0], .int .i64 1])) ((w1.setCell ⟨r, 0, none⟩ (.int .i64 0)).setCell ⟨r, 1, none⟩ (.int .i64 0)) from ⟨by rw [HQ.out.1, HQ.out.2], bel_set2 HB.out (by rw [HN.out.2]; omega) _ _⟩)
        have hpr : ¬ p = r := by have h1 := HN.out.1; have h2 := HN.out.2; omega
        have hrp : ¬ r = p := fun e => hpr e.symm
        obtain ⟨p0, p1, pl, g0, g1⟩ := HP.out.all
        obtain ⟨r0, r1, rl, f0, f1⟩ := HR.out.all
        clear HP HR HB
        go_wp2
        exact bodyPost_ret (v := .tuple #[.agg #[.int .i64 0, .int .i64 0], .int .i64 1]) (by simp only [results, Try.results10]; go_simp <;> rfl) rfl HF.out
      · have hb := hb.resolve_left n2
        by_cases n3 : hi < x.nx
        · clear hb
          go_enter Try.func10, Try.ntmps10
          go_upto_region 1 with (fail)
          rw [← HN.out.2, ← HN.out.1]
          generalize (w.alloc (.cells #[.int .i64 x.nx, .int .i64 x.cv] 23)).alloc (.cells #[.int .i64 0, .int .i64 0] 23) = w1 at *
          have HF := Lib.hid (show WkP w (adW x lo hi) (adWE x lo hi) (.returned (.tuple #[.agg #[.int .i64 0, .int .i64 0], .int .i64 1])) ((w1.setCell ⟨r, 0, none⟩ (.int .i64 0)).setCell ⟨r, 1, none⟩ (.int .i64 0)) from ⟨by rw [HQ.out.1, HQ.out.2], bel_set2 HB.out (by rw [HN.out.2]; omega) _ _⟩)
          have hpr : ¬ p = r := by have h1 := HN.out.1; have h2 := HN.out.2; omega
          have hrp : ¬ r = p := fun e => hpr e.symm
          obtain ⟨p0, p1, pl, g0, g1⟩ := HP.out.all
          obtain ⟨r0, r1, rl, f0, f1⟩ := HR.out.all
          clear HP HR HB
          go_wp2
          exact bodyPost_ret (v := .tuple #[.agg #[.int .i64 0, .int .i64 0], .int .i64 1]) (by simp only [results, Try.results10]; go_simp <;> rfl) rfl HF.out
        · have hb := hb.resolve_left n3
          by_cases n4 : 65536 ≤ hi
          · clear hb
            go_enter Try.func10, Try.ntmps10
            go_upto_region 1 with (fail)
            rw [← HN.out.2, ← HN.out.1]
            generalize (w.alloc (.cells #[.int .i64 x.nx, .int .i64 x.cv] 23)).alloc (.cells #[.int .i64 0, .int .i64 0] 23) = w1 at *
            have HF := Lib.hid (show WkP w (adW x lo hi) (adWE x lo hi) (.returned (.tuple #[.agg #[.int .i64 0, .int .i64 0], .int .i64 1])) ((w1.setCell ⟨r, 0, none⟩ (.int .i64 0)).setCell ⟨r, 1, none⟩ (.int .i64 0)) from ⟨by rw [HQ.out.1, HQ.out.2], bel_set2 HB.out (by rw [HN.out.2]; omega) _ _⟩)
            have hpr : ¬ p = r := by have h1 := HN.out.1; have h2 := HN.out.2; omega
            have hrp : ¬ r = p := fun e => hpr e.symm
            obtain ⟨p0, p1, pl, g0, g1⟩ := HP.out.all
            obtain ⟨r0, r1, rl, f0, f1⟩ := HR.out.all
            clear HP HR HB
            go_wp2
            exact bodyPost_ret (v := .tuple #[.agg #[.int .i64 0, .int .i64 0], .int .i64 1]) (by simp only [results, Try.results10]; go_simp <;> rfl) rfl HF.out
          · have hb := hb.resolve_left n4
            by_cases n5 : x.cv < 0
            · clear hb
              go_enter Try.func10, Try.ntmps10
              go_upto_region 1 with (fail)
              rw [← HN.out.2, ← HN.out.1]
              generalize (w.alloc (.cells #[.int .i64 x.nx, .int .i64 x.cv] 23)).alloc (.cells #[.int .i64 0, .int .i64 0] 23) = w1 at *
              have HF := Lib.hid (show WkP w (adW x lo hi) (adWE x lo hi) (.returned (.tuple #[.agg #[.int .i64 0, .int .i64 0], .int .i64 1])) ((w1.setCell ⟨r, 0, none⟩ (.int .i64 0)).setCell ⟨r, 1, none⟩ (.int .i64 0)) from ⟨by rw [HQ.out.1, HQ.out.2], bel_set2 HB.out (by rw [HN.out.2]; omega) _ _⟩)
              have hpr : ¬ p = r := by have h1 := HN.out.1; have h2 := HN.out.2; omega
              have hrp : ¬ r = p := fun e => hpr e.symm
              obtain ⟨p0, p1, pl, g0, g1⟩ := HP.out.all
              obtain ⟨r0, r1, rl, f0, f1⟩ := HR.out.all
              clear HP HR HB
              go_wp2
              exact bodyPost_ret (v := .tuple #[.agg #[.int .i64 0, .int .i64 0], .int .i64 1]) (by simp only [results, Try.results10]; go_simp <;> rfl) rfl HF.out
            · have hb := hb.resolve_left n5
              go_enter Try.func10, Try.ntmps10
              go_upto_region 1 with (fail)
              rw [← HN.out.2, ← HN.out.1]
              generalize (w.alloc (.cells #[.int .i64 x.nx, .int .i64 x.cv] 23)).alloc (.cells #[.int .i64 0, .int .i64 0] 23) = w1 at *
              have HF := Lib.hid (show WkP w (adW x lo hi) (adWE x lo hi) (.returned (.tuple #[.agg #[.int .i64 0, .int .i64 0], .int .i64 1])) ((w1.setCell ⟨r, 0, none⟩ (.int .i64 0)).setCell ⟨r, 1, none⟩ (.int .i64 0)) from ⟨by rw [HQ.out.1, HQ.out.2], bel_set2 HB.out (by rw [HN.out.2]; omega) _ _⟩)
              have hpr : ¬ p = r := by have h1 := HN.out.1; have h2 := HN.out.2; omega
              have hrp : ¬ r = p := fun e => hpr e.symm
              obtain ⟨p0, p1, pl, g0, g1⟩ := HP.out.all
              obtain ⟨r0, r1, rl, f0, f1⟩ := HR.out.all
              clear HP HR HB
              go_wp2
              exact bodyPost_ret (v := .tuple #[.agg #[.int .i64 0, .int .i64 0], .int .i64 1]) (by simp only [results, Try.results10]; go_simp <;> rfl) rfl HF.out
set_option maxHeartbeats 2000000 in
set_option maxRecDepth 20000 in
theorem wover_any (x : Wk) (w : World) : Calls Try.prog 14 #[x.v] w fun e w' => e = .returned (.bool (ovB x)) ∧ Below w.heap.size w w' := by
  have HP := Lib.hid (Wb.start w x 23)
  have HB := Lib.hid ((Below.refl w.heap.size w).alloc (Nat.le_refl _) (.cells #[.int .i64 x.nx, .int .i64 x.cv] 23))
  go_enter Try.func14, Try.ntmps14
  go_wp2
  go_ret
  exact ⟨rfl, HB.out⟩
set_option maxHeartbeats 2000000 in
set_option maxRecDepth 20000 in
theorem rover16_any (x : Wk) (w : World) : Calls Try.prog 15 #[x.v] w fun e w' => e = .returned (.bool (ovB x)) ∧ Below w.heap.size w w' := by
  have HP := Lib.hid (Wb.start w x 23)
  have HB := Lib.hid ((Below.refl w.heap.size w).alloc (Nat.le_refl _) (.cells #[.int .i64 x.nx, .int .i64 x.cv] 23))
  go_enter Try.func15, Try.ntmps15
  go_wp2
  go_ret
  exact ⟨rfl, HB.out⟩
end Go.Proofs.Ytkecnihgjepfeaa
