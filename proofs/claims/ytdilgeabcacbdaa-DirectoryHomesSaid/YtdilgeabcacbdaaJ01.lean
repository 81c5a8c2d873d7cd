/- What is proved here: lemmas on slices in memory that no particular program enters: a slice that reads as a list, an append of such a slice onto a row of the call's own, and its conversion to a string. Conditions: those that each lemma names; (plain) the source of numbers that the statements' base reads from: what lies at its block, and how it is kept; the cell of a byte in this program. -/
import Derived.Below
import Derived.Laws.OwnMore
import Derived.Deep.Draws
import Derived.Maps.AppendAt
import Derived.Lib.SlBytesRow
import Derived.Lib.AppendStr
import Derived.Lib.Hide
import Derived.OwnWalk
import Derived.Deep.AppendLies
import Derived.Test.YtdilgeabcacbdaaRows
import Derived.WalkKit
import Derived.Outline
import Derived.IntWalk
namespace Go.Proofs.Ytdilgeabcacbdaa
open Go.RowKit

/-- A byte as the cell that holds it. -/
def oct (x : UInt8) : Value := .int .u8 (x.toNat : Int)

theorem add_mk (b o j : Nat) : (⟨b, o, none⟩ : Addr).add j = ⟨b, o + j, none⟩ := by unfold Addr.add; split <;> simp_all

/-- The slice '.slice A n _' of elements of 'size' cells reads as the cells xs, and lies below block B. -/
def Rd (w : World) (B size : Nat) (A : Option Addr) (n : Nat) (xs : List Value) : Prop :=
  xs.length = n * size ∧ (0 < n → ∃ b o, A = some ⟨b, o, none⟩ ∧ b < B ∧ ∀ j u, xs[j]? = some u → w.cell? ⟨b, o + j, none⟩ = some u)

section
variable {w w' : World} {B B' size n : Nat} {A : Option Addr} {xs : List Value}
theorem Rd.nil (A : Option Addr) : Rd w B size A 0 [] := ⟨by simp, fun h => absurd h (by omega)⟩
theorem Rd.keep (h : Rd w B size A n xs) (hk : ∀ p : Addr, p.block < B → w'.cell? p = w.cell? p) : Rd w' B size A n xs :=
  ⟨h.1, fun hn => by
    obtain ⟨b, o, e, hb, hc⟩ := h.2 hn
    exact ⟨b, o, e, hb, fun j u hu => (hk _ hb).trans (hc j u hu)⟩⟩
theorem Rd.more (h : Rd w B size A n xs) (hB : B ≤ B') : Rd w B' size A n xs :=
  ⟨h.1, fun hn => by
    obtain ⟨b, o, e, hb, hc⟩ := h.2 hn
    exact ⟨b, o, e, by omega, hc⟩⟩
theorem Rd.below (h : Rd w B size A n xs) (hb : Below B w w') : Rd w' B size A n xs := h.keep fun _ hp => hb.cell hp
theorem Rd.drew (h : Rd w B size A n xs) : Rd w.drew B size A n xs := h
theorem Rd.drewN (h : Rd w B size A n xs) (k : Nat) : Rd (w.drewN k) B size A n xs := h
theorem Rd.alloc (h : Rd w B size A n xs) (hB : B ≤ w.heap.size) (o : Obj) : Rd (w.alloc o) B size A n xs := h.keep fun p hp => World.cell?_alloc_lt w o p (by omega)
theorem Rd.setCell (h : Rd w B size A n xs) {p : Addr} (hB : B ≤ p.block) (u : Value) : Rd (w.setCell p u) B size A n xs :=
  h.keep fun q hq => World.cell?_setCell_other w p q u (fun e => by subst e; omega)
theorem Rd.of_own {base : Nat} {e : TypeId} {c : Nat} (h : w.ownsRow base e size (.slice A n c) n xs) : Rd w w.heap.size size A n xs := by
  refine ⟨h.1, fun hn => ?_⟩
  rcases h.2 with ⟨hv, h0⟩ | ⟨g, cap, cur, hv, _, hh, _⟩
  · omega
  · injection hv with hA _ _
    subst hA
    exact ⟨g, 0, rfl, (Array.getElem?_eq_some_iff.1 hh).1, fun j u hu => by have := h.cells (g := g) rfl j u hu; rwa [add_mk] at this⟩
/-- A new row of cells. -/
theorem Rd.fresh (w : World) (cs : Array Value) (t : TypeId) : Rd (w.alloc (.cells cs t)) (w.heap.size + 1) 1 (some ⟨w.heap.size, 0, none⟩) cs.size cs.toList :=
  ⟨by simp, fun _ => ⟨_, _, rfl, by omega, fun j u hu => by
    rw [Nat.zero_add, World.cell?_alloc_new]
    simpa using hu⟩⟩
/-- What is owned from a block on is owned from every earlier one on. -/
theorem own_low {base base' : Nat} {e : TypeId} {v : Value} (h : w.ownsRow base e size v n xs) (hb : base' ≤ base) : w.ownsRow base' e size v n xs :=
  ⟨h.1, h.2.imp_right fun ⟨g, cap, cur, hv, hg, r⟩ => ⟨g, cap, cur, hv, Nat.le_trans hb hg, r⟩⟩
/-- What the call owns is a slice. -/
theorem own_form {base : Nat} {e : TypeId} {v : Value} (h : w.ownsRow base e size v n xs) : ∃ A c, v = .slice A n c := by
  rcases h.2 with ⟨rfl, rfl⟩ | ⟨g, cap, _, rfl, _⟩
  · exact ⟨none, 0, rfl⟩
  · exact ⟨_, cap, rfl⟩
end

/-- A value that is a slice, reads as the bytes bs and lies below B. -/
def Bs (w : World) (B : Nat) (v : Value) (bs : List UInt8) : Prop := ∃ A c, v = .slice A bs.length c ∧ bs.length ≤ c ∧ c ≤ maxLen ∧ Rd w B 1 A bs.length (bs.map oct)

section
variable {w w' : World} {B B' : Nat} {v : Value} {bs : List UInt8}
theorem Bs.nil : Bs w B (.slice none 0 0) [] := ⟨none, 0, rfl, Nat.le_refl _, Nat.zero_le _, Rd.nil none⟩
theorem Bs.keep (h : Bs w B v bs) (hk : ∀ p : Addr, p.block < B → w'.cell? p = w.cell? p) : Bs w' B v bs := by
  obtain ⟨A, c, e, hl, hm, h⟩ := h; exact ⟨A, c, e, hl, hm, h.keep hk⟩
theorem Bs.more (h : Bs w B v bs) (hB : B ≤ B') : Bs w B' v bs := by
  obtain ⟨A, c, e, hl, hm, h⟩ := h; exact ⟨A, c, e, hl, hm, h.more hB⟩
theorem Bs.below (h : Bs w B v bs) (hb : Below B w w') : Bs w' B v bs := h.keep fun _ hp => hb.cell hp
theorem Bs.alloc (h : Bs w B v bs) (hB : B ≤ w.heap.size) (o : Obj) : Bs (w.alloc o) B v bs := h.keep fun p hp => World.cell?_alloc_lt w o p (by omega)
theorem Bs.setCell (h : Bs w B v bs) {p : Addr} (hB : B ≤ p.block) (u : Value) : Bs (w.setCell p u) B v bs :=
  h.keep fun q hq => World.cell?_setCell_other w p q u (fun e => by subst e; omega)
theorem Bs.fresh (w : World) (bs : List UInt8) (t : TypeId) (hm : bs.length ≤ maxLen) : Bs (w.alloc (.cells (bs.map oct).toArray t)) (w.heap.size + 1) (.slice (some ⟨w.heap.size, 0, none⟩) bs.length bs.length) bs :=
  ⟨_, _, rfl, Nat.le_refl _, hm, by have := Rd.fresh w (bs.map oct).toArray t; simpa using this⟩
/-- From the way in which the guide opens a slice of bytes that came in. -/
theorem Bs.of_cells {a : Addr} {l c : Nat} {zs : List Int} (hl : l ≤ c) (hm : c ≤ maxLen) (hz : zs.length = c) (hc : ∀ i, i < zs.length → w.cell? (a.add i) = some (.int .u8 (zs.getD i 0))) (hw : ∀ n ∈ zs, (Lit.int .u8 n).wf = true) :
    ∃ bs, Bs w w.heap.size (.slice (some a) l c) bs := by
  have hlen : ((zs.take l).map fun n => UInt8.ofNat n.toNat).length = l := by simp; omega
  refine ⟨(zs.take l).map fun n => UInt8.ofNat n.toNat, some a, c, by rw [hlen], by omega, hm, by simp, fun hn => ?_⟩
  rw [hlen] at hn
  obtain ⟨b, o, spot⟩ := a
  have h0 := hc 0 (by omega)
  have hspot : spot = none := by simpa [Addr.add] using World.cell?_spot h0
  subst hspot
  refine ⟨b, o, rfl, World.block_lt_of_cell? w ⟨b, o, none⟩ (by simpa [Addr.add] using h0), fun j u hu => ?_⟩
  simp only [List.getElem?_map, Option.map_eq_some_iff] at hu
  obtain ⟨x, ⟨n, hn', rfl⟩, rfl⟩ := hu
  obtain ⟨hj, rfl⟩ := List.getElem?_eq_some_iff.1 hn'
  have hj' : j < zs.length := by simp at hj; omega
  have h := hc j hj'
  rw [add_mk] at h
  rw [h]
  have hm : zs[j] ∈ zs := List.getElem_mem hj'
  have hb := hw _ hm
  have hb2 : 0 ≤ zs[j] ∧ zs[j] ≤ 255 := by
    simp only [Lit.wf, Bool.and_eq_true, decide_eq_true_eq] at hb
    exact hb
  have e : (zs.take l)[j] = zs[j] := by simp
  rw [e]
  simp [oct, List.getD, hj']
  omega
theorem Bs.of_own {base : Nat} {e : TypeId} {n : Nat} (h : w.ownsRow base e 1 v n (bs.map oct)) : Bs w w.heap.size v bs := by
  have hl : n = bs.length := by have := h.1; simp at this; omega
  subst hl
  rcases h.2 with ⟨hv, h0⟩ | ⟨g, cap, cur, hv, _, _, hl, hm, _⟩
  · subst hv; exact ⟨none, 0, by rw [h0], by omega, Nat.zero_le _, by rw [show bs = [] from List.length_eq_zero_iff.1 h0]; exact Rd.nil _⟩
  · subst hv; exact ⟨_, cap, rfl, hl, hm, Rd.of_own h⟩
/-- The byte at place k, and where it lies. -/
theorem Bs.at_ {A : Option Addr} {n c k : Nat} (h : Bs w B (.slice A n c) bs) (hk : k < n) : ∃ b o, A = some ⟨b, o, none⟩ ∧ b < B ∧ ∃ hb : k < bs.length, w.cell? ⟨b, o + k, none⟩ = some (.int .u8 (bs[k].toNat : Int)) := by
  obtain ⟨A', c', e, _, _, h⟩ := h
  injection e with e1 e2 e3
  subst e1; subst e2
  obtain ⟨b, o, e, hb, hc⟩ := h.2 (by omega)
  exact ⟨b, o, e, hb, hk, hc k _ (by simp [hk, oct])⟩
theorem Bs.len {A : Option Addr} {n c : Nat} (h : Bs w B (.slice A n c) bs) : n = bs.length ∧ n ≤ c ∧ c ≤ maxLen := by
  obtain ⟨A', c', e, hl, hm, h⟩ := h
  injection e with e1 e2 e3
  subst e2; subst e3
  exact ⟨rfl, hl, hm⟩
theorem Bs.rd {A : Option Addr} {n c : Nat} (h : Bs w B (.slice A n c) bs) : Rd w B 1 A n (bs.map oct) := by
  obtain ⟨A', c', e, hl, hm, h⟩ := h
  injection e with e1 e2 e3
  subst e1; subst e2
  exact h
/-- A cut 's[k:]', as the model has its address. -/
theorem Bs.cut {A : Option Addr} {n c k : Nat} (h : Bs w B (.slice A n c) bs) (hk : k ≤ n) : Bs w B (.slice (if c = k then A else A.map (·.add k)) (n - k) (c - k)) (bs.drop k) := by
  obtain ⟨hn, hl, hm⟩ := h.len
  have hr := h.rd
  refine ⟨_, c - k, by rw [List.length_drop, hn], by simp; omega, by omega, by simp, fun h0 => ?_⟩
  rw [List.length_drop] at h0
  obtain ⟨b, o, rfl, hb, hc⟩ := hr.2 (by omega)
  rw [if_neg (by omega)]
  refine ⟨b, o + k, by rw [Option.map_some, add_mk], hb, fun j u hu => ?_⟩
  rw [Nat.add_assoc]
  exact hc _ u (by rw [← hu]; simp)
end

section
variable {P : Program} (w : World)

theorem run_append_empty (base : Nat) (t ty e : TypeId) (i : TypeInfo) (size : Nat) (ht : P.underlying t = some (.slice e)) (hi : P.info? e = some i)
    (v : Value) (n : Nat) (xs : List Value) (hown : w.ownsRow base e size v n xs) (c : Nat) : (Builtin.append_ #[t, t] ty #[v, .slice none 0 c]).run P w = .ok v w := by
  rcases hown.2 with ⟨rfl, rfl⟩ | ⟨g, cap, cur, rfl, _, _, hnc, _⟩
  · simp [Builtin.append_, run_underlying ht, sizeOf, typeInfo, hi, Builtin.lenOf, Builtin.firstCells]
  · simp [Builtin.append_, run_underlying ht, sizeOf, typeInfo, hi, Builtin.lenOf, Builtin.firstCells, hnc, storeCells]

theorem run_append_rd (base : Nat) (t ty e : TypeId) (i : TypeInfo) (z : Value) (size bytes : Nat) (ht : P.underlying t = some (.slice e)) (hi : P.info? e = some i) (hz : i.zero = some z)
    (hsize : i.size = size) (hby : i.bytes = bytes) (hzs : z.cells.size = size) (hsz : 0 < size)
    (v : Value) (n : Nat) (xs : List Value) (hown : w.ownsRow base e size v n xs)
    (B : Nat) (A : Option Addr) (m c : Nat) (news : List Value) (hr : Rd w B size A m news) (h1 : ∀ u ∈ news, u.oneCell' = true)
    (h63 : n + m ≤ maxLen) (hbytes : (n + m) * bytes ≤ 140737488355328) (hbase : base ≤ w.heap.size) :
    ∃ v' w', (Builtin.append_ #[t, t] ty #[v, .slice A m c]).run P w = .ok v' w' ∧ w'.ownsRow base e size v' (n + m) (xs ++ news) ∧ w.grownBy w' v.ownBlock ∧
      (v'.ownBlock = v.ownBlock ∨ v'.ownBlock = some w.heap.size) := by
  rcases A with _ | ad
  · have hm : m = 0 := by
      rcases Nat.eq_zero_or_pos m with h0 | h0
      · exact h0
      · obtain ⟨b, o, h, _⟩ := hr.2 h0
        cases h
    subst hm
    have hn : news = [] := List.eq_nil_of_length_eq_zero (by simpa using hr.1)
    subst hn
    exact ⟨v, w, run_append_empty w base t ty e i size ht hi v n xs hown c, by simpa using hown, World.grownBy.refl w _, .inl rfl⟩
  · have hcells : ∀ j u, news[j]? = some u → w.cell? (ad.add j) = some u := by
      intro j u hu
      rcases Nat.eq_zero_or_pos m with h0 | h0
      · subst h0
        have hn : news = [] := List.eq_nil_of_length_eq_zero (by simpa using hr.1)
        subst hn
        simp at hu
      · obtain ⟨b, o, h, _, hc⟩ := hr.2 h0
        injection h with h
        subst h
        rw [add_mk]
        exact hc j u hu
    obtain ⟨v', w', hrun, h2, h3, _, h5⟩ := run_append_own_at (P := P) w base t ty e i z size bytes ht hi hz hsize hby hzs hsz v n xs hown ad m c news hr.1 hcells h1 h63 hbytes hbase
    exact ⟨v', w', hrun, h2, h3, h5⟩

theorem wp_append_rd {o : Oper} {a : Act} {K : Act → World → Prop} {Q : Exit → Act → World → Prop} (s x : Operand) (t : TypeId)
    (ho : o.op = .call { callee := .builtin .append, args := #[s, x], argTypes := #[t, t] })
    (base : Nat) (e : TypeId) (i : TypeInfo) (z : Value) (size bytes : Nat) (ht : P.underlying t = some (.slice e)) (hi : P.info? e = some i) (hz : i.zero = some z)
    (hsize : i.size = size) (hby : i.bytes = bytes) (hzs : z.cells.size = size) (hsz : 0 < size)
    (v : Value) (n : Nat) (xs : List Value) (hs : a.eval s = v) (hown : w.ownsRow base e size v n xs)
    (B : Nat) (A : Option Addr) (m c : Nat) (news : List Value) (hx : a.eval x = .slice A m c) (hr : Rd w B size A m news) (h1 : ∀ u ∈ news, u.oneCell' = true)
    (h63 : n + m ≤ maxLen) (hbytes : (n + m) * bytes ≤ 140737488355328) (hbase : base ≤ w.heap.size)
    (h : ∀ v' w', w'.ownsRow base e size v' (n + m) (xs ++ news) → w.grownBy w' v.ownBlock → (v'.ownBlock = v.ownBlock ∨ v'.ownBlock = some w.heap.size) → K (a.put o.dst v') w') : o.wp P a w K Q := by
  obtain ⟨v', w', hrun, h2, h3, h4⟩ := run_append_rd (P := P) w base t o.type e i z size bytes ht hi hz hsize hby hzs hsz v n xs hown B A m c news hr h1 h63 hbytes hbase
  unfold Oper.wp execOp
  simp only [ho, resolve, invoke, builtin, Sem.run_bind, Sem.run_pure, Result.andThen_ok, List.map_toArray, List.map_cons, List.map_nil, hs, hx, hrun]
  exact h v' w' h2 h3 h4

/-- 'append(own, read...)': one way whether the source is nil, empty or neither. -/
theorem wpList_append_rd {ops : Array Oper} {rest : List Oper} {o : Oper} {a : Act} {Q : Exit → Act → World → Prop} (hgd : o.guard = none) (s x : Operand) (t : TypeId)
    (ho : o.op = .call { callee := .builtin .append, args := #[s, x], argTypes := #[t, t] })
    (base : Nat) (e : TypeId) (i : TypeInfo) (z : Value) (size bytes : Nat) (ht : P.underlying t = some (.slice e)) (hi : P.info? e = some i) (hz : i.zero = some z)
    (hsize : i.size = size) (hby : i.bytes = bytes) (hzs : z.cells.size = size) (hsz : 0 < size)
    (v : Value) (n : Nat) (xs : List Value) (hs : a.eval s = v) (hown : w.ownsRow base e size v n xs)
    (B : Nat) (A : Option Addr) (m c : Nat) (news : List Value) (hx : a.eval x = .slice A m c) (hr : Rd w B size A m news) (h1 : ∀ u ∈ news, u.oneCell' = true)
    (h63 : n + m ≤ maxLen) (hbytes : (n + m) * bytes ≤ 140737488355328) (hbase : base ≤ w.heap.size)
    (h : ∀ v' w', w'.ownsRow base e size v' (n + m) (xs ++ news) → w.grownBy w' v.ownBlock → (v'.ownBlock = v.ownBlock ∨ v'.ownBlock = some w.heap.size) → wpList P ops Q rest (a.put o.dst v') w') : wpList P ops Q (o :: rest) a w :=
  wpList_plain hgd fun _ hK => wp_append_rd w s x t ho base e i z size bytes ht hi hz hsize hby hzs hsz v n xs hs hown B A m c news hx hr h1 h63 hbytes hbase fun v' w' h2 h3 h4 => hK _ _ (h v' w' h2 h3 h4)
end

end Go.Proofs.Ytdilgeabcacbdaa
namespace Go.Proofs.Ytdilgeabcacbdaa
open Go.RowKit
set_option linter.unusedVariables false

/-- A number of 64 bits as a cell. -/
def i64v (z : Int) : Value := .int .i64 z

/-- Block g, from B on, is a source: a list that lies below B, and a position in it. -/
def SrcAt (W : World) (B g : Nat) : Prop := B ≤ g ∧ g < W.heap.size ∧ ∃ (A : Option Addr) (n c k : Nat) (zs : List Int),
  k ≤ n ∧ n ≤ 4000 ∧ n ≤ c ∧ c ≤ maxLen ∧ W.cell? ⟨g, 0, none⟩ = some (.slice A n c) ∧ W.cell? ⟨g, 1, none⟩ = some (.int .i64 k) ∧ W.frozen? ⟨g, 1, none⟩ = false ∧ Rd W B 1 A n (zs.map i64v) ∧ ∀ z ∈ zs, -9223372036854775808 ≤ z ∧ z ≤ 9223372036854775807

section
variable {W W' : World} {B g h : Nat}
theorem SrcAt.keep (s : SrcAt W B g) (hs : W.heap.size ≤ W'.heap.size) (h0 : ∀ o, W'.cell? ⟨g, o, none⟩ = W.cell? ⟨g, o, none⟩) (h1 : ∀ o, W'.frozen? ⟨g, o, none⟩ = W.frozen? ⟨g, o, none⟩) (hk : ∀ p : Addr, p.block < B → W'.cell? p = W.cell? p) : SrcAt W' B g := by
  obtain ⟨hB, hg, A, n, c, k, zs, a1, a2, a3, a4, a5, a6, a7, a8, a9⟩ := s
  exact ⟨hB, by omega, A, n, c, k, zs, a1, a2, a3, a4, (h0 0).trans a5, (h0 1).trans a6, (h1 1).trans a7, a8.keep hk, a9⟩
theorem SrcAt.grown (s : SrcAt W B g) (hg : W.grownBy W' (some h)) (hne : h ≠ g) (hB : B ≤ h) : SrcAt W' B g :=
  s.keep hg.size (fun o => hg.cell_far _ s.2.1 (fun e => hne (by injection e with e; exact e.symm))) (fun o => hg.frozen_far _ s.2.1 (fun e => hne (by injection e with e; exact e.symm)))
    (fun p hp => hg.cell_far p (by have := s.1; have := s.2.1; omega) (fun e => by injection e with e; omega))
theorem SrcAt.below (s : SrcAt W B g) (hb : Below W.heap.size W W') : SrcAt W' B g :=
  s.keep hb.size (fun o => hb.cell s.2.1) (fun o => hb.frozen s.2.1) (fun p hp => hb.cell (by have := s.1; have := s.2.1; omega))
theorem SrcAt.alloc (s : SrcAt W B g) (o : Obj) : SrcAt (W.alloc o) B g := s.below ((Below.refl _ _).alloc (Nat.le_refl _) o)
theorem SrcAt.drew (s : SrcAt W B g) : SrcAt W.drew B g := s
theorem SrcAt.drewN (s : SrcAt W B g) (n : Nat) : SrcAt (W.drewN n) B g := s
theorem SrcAt.other (s : SrcAt W B g) {p : Addr} (hp : p.block ≠ g) (hB : B ≤ p.block) (v : Value) : SrcAt (W.setCell p v) B g :=
  s.keep (by simp) (fun o => World.cell?_setCell_other W p _ v (fun e => hp (by rw [e]))) (fun o => by rw [World.frozen?_setCell]) (fun q hq => World.cell?_setCell_other W p q v (fun e => by rw [e] at hB; omega))

theorem SrcAt.next (s : SrcAt W B g) {A : Option Addr} {n c k : Nat} (h0 : W.cell? ⟨g, 0, none⟩ = some (.slice A n c)) (h1 : W.cell? ⟨g, 1, none⟩ = some (.int .i64 k)) (hk : k < n) : SrcAt (W.setCell ⟨g, 1, none⟩ (.int .i64 ((k : Int) + 1))) B g := by
  obtain ⟨hB, hg, A', n', c', k', zs, a1, a2, a3, a4, a5, a6, a7, a8, a9⟩ := s
  rw [h0] at a5
  injection a5 with a5
  injection a5 with e1 e2 e3
  subst e1; subst e2; subst e3
  refine ⟨hB, by simpa using hg, A, n, c, k + 1, zs, by omega, a2, a3, a4, (World.cell?_setCell_other W _ _ _ (fun e => by injection e; omega)).trans h0, ?_, by rw [World.frozen?_setCell]; exact a7, a8.setCell hB _, a9⟩
  simp [go_sem, h1]

theorem only_drewN {a w : World} {row : Option Nat} (h : a.grownBy w row) (n : Nat) : a.grownBy (w.drewN n) row := ⟨h.os, h.tape, h.output, h.size, h.block⟩
theorem only_alloc {a w : World} {row : Option Nat} (h : a.grownBy w row) (o : Obj) : a.grownBy (w.alloc o) row :=
  ⟨h.os, h.tape, h.output, Nat.le_trans h.size (by simp), fun i hi hne => (Below.heap_alloc w o i (Nat.lt_of_lt_of_le hi h.size)).trans (h.block i hi hne)⟩
theorem only_set {a w : World} {g : Nat} (h : a.grownBy w (some g)) {p : Addr} (hp : p.block = g ∨ a.heap.size ≤ p.block) (u : Value) : a.grownBy (w.setCell p u) (some g) :=
  ⟨h.os, h.tape, h.output, by simpa [World.setCell] using h.size, fun i hi hne => (Below.heap_setCell w p u i (by
    rintro rfl
    rcases hp with hp | hp
    · exact hne (by rw [hp])
    · omega)).trans (h.block i hi hne)⟩
theorem only_below {a w w' : World} {g : Nat} (h : a.grownBy w (some g)) (hb : Below w.heap.size w w') : a.grownBy w' (some g) :=
  ⟨hb.os.trans h.os, hb.tape.trans h.tape, hb.output.trans h.output, Nat.le_trans h.size hb.size, fun i hi hne => (hb.block i (Nat.lt_of_lt_of_le hi h.size)).trans (h.block i hi hne)⟩
end

/-- A call that reads a number of a source. -/
def SrInt (B g : Nat) (lo hi : Int) (w : World) (e : Ending) (w' : World) : Prop := ∃ x, e = .returned (.int .i64 x) ∧ lo ≤ x ∧ x ≤ hi ∧ SrcAt w' B g ∧ w.grownBy w' (some g)
end Go.Proofs.Ytdilgeabcacbdaa
namespace Go.Proofs.Ytdilgeabcacbdaa
open Go.RowKit
set_option linter.unusedVariables false

end Go.Proofs.Ytdilgeabcacbdaa
