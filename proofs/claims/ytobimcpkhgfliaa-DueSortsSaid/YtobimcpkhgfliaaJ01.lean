/- What is proved here: lemmas on slices in memory that no particular program enters: a slice that reads as a list, an append of such a slice onto a row of the call's own, and its conversion to a string. Conditions: those that each lemma names; the cell of a byte in this program; (plain) heaps of deadlines: sifting up and down keeps the elements and makes a heap. -/
import Derived.Below
import Derived.Laws.OwnMore
import Derived.Deep.Draws
import Derived.Maps.AppendAt
import Derived.Lib.SlBytesRow
import Derived.Lib.AppendStr
import Derived.Lib.Hide
import Derived.OwnWalk
import Derived.Test.YtobimcpkhgfliaaRows
import Derived.WalkKit
import Derived.Outline
import Derived.IntWalk
import Derived.ProofKit
namespace Go.Proofs.Ytobimcpkhgfliaa
open Go.RowKit

/-- A byte as the cell that holds it. -/
def oct (x : UInt8) : Value := .int .u8 (x.toNat : Int)

theorem add_mk (b o j : Nat) : (⟨b, o, none⟩ : Addr).add j = ⟨b, o + j, none⟩ := by unfold Addr.add; split <;> simp_all

/-- The slice '.slice A n _' of elements of 'size' cells reads as the cells xs, and lies below block B. -/
def Rd (w : World) (B size : Nat) (A : Option Addr) (n : Nat) (xs : List Value) : Prop :=
  xs.length = n * size ∧ (0 < n → ∃ b o, A = some ⟨b, o, none⟩ ∧ b < B ∧ ∀ j u, xs[j]? = some u → w.cell? ⟨b, o + j, none⟩ = some u)

section
variable {w w' : World} {B B' size n : Nat} {A : Option Addr} {xs : List Value}
theorem Rd.nil (A : Option Addr) : Rd w B size A 0 [] := ⟨by simp, fun h => absurd h (by omega)⟩
theorem Rd.keep (h : Rd w B size A n xs) (hk : ∀ p : Addr, p.block < B → w'.cell? p = w.cell? p) : Rd w' B size A n xs :=
  ⟨h.1, fun hn => by
    obtain ⟨b, o, e, hb, hc⟩ := h.2 hn
    exact ⟨b, o, e, hb, fun j u hu => (hk _ hb).trans (hc j u hu)⟩⟩
theorem Rd.more (h : Rd w B size A n xs) (hB : B ≤ B') : Rd w B' size A n xs :=
  ⟨h.1, fun hn => by
    obtain ⟨b, o, e, hb, hc⟩ := h.2 hn
    exact ⟨b, o, e, by omega, hc⟩⟩
theorem Rd.below (h : Rd w B size A n xs) (hb : Below B w w') : Rd w' B size A n xs := h.keep fun _ hp => hb.cell hp
theorem Rd.drew (h : Rd w B size A n xs) : Rd w.drew B size A n xs := h
theorem Rd.drewN (h : Rd w B size A n xs) (k : Nat) : Rd (w.drewN k) B size A n xs := h
theorem Rd.alloc (h : Rd w B size A n xs) (hB : B ≤ w.heap.size) (o : Obj) : Rd (w.alloc o) B size A n xs := h.keep fun p hp => World.cell?_alloc_lt w o p (by omega)
theorem Rd.setCell (h : Rd w B size A n xs) {p : Addr} (hB : B ≤ p.block) (u : Value) : Rd (w.setCell p u) B size A n xs :=
  h.keep fun q hq => World.cell?_setCell_other w p q u (fun e => by subst e; omega)
theorem Rd.of_own {base : Nat} {e : TypeId} {c : Nat} (h : w.ownsRow base e size (.slice A n c) n xs) : Rd w w.heap.size size A n xs := by
  refine ⟨h.1, fun hn => ?_⟩
  rcases h.2 with ⟨hv, h0⟩ | ⟨g, cap, cur, hv, _, hh, _⟩
  · omega
  · injection hv with hA _ _
    subst hA
    exact ⟨g, 0, rfl, (Array.getElem?_eq_some_iff.1 hh).1, fun j u hu => by have := h.cells (g := g) rfl j u hu; rwa [add_mk] at this⟩
/-- A new row of cells. -/
theorem Rd.fresh (w : World) (cs : Array Value) (t : TypeId) : Rd (w.alloc (.cells cs t)) (w.heap.size + 1) 1 (some ⟨w.heap.size, 0, none⟩) cs.size cs.toList :=
  ⟨by simp, fun _ => ⟨_, _, rfl, by omega, fun j u hu => by
    rw [Nat.zero_add, World.cell?_alloc_new]
    simpa using hu⟩⟩
/-- What is owned from a block on is owned from every earlier one on. -/
theorem own_low {base base' : Nat} {e : TypeId} {v : Value} (h : w.ownsRow base e size v n xs) (hb : base' ≤ base) : w.ownsRow base' e size v n xs :=
  ⟨h.1, h.2.imp_right fun ⟨g, cap, cur, hv, hg, r⟩ => ⟨g, cap, cur, hv, Nat.le_trans hb hg, r⟩⟩
/-- What the call owns is a slice. -/
theorem own_form {base : Nat} {e : TypeId} {v : Value} (h : w.ownsRow base e size v n xs) : ∃ A c, v = .slice A n c := by
  rcases h.2 with ⟨rfl, rfl⟩ | ⟨g, cap, _, rfl, _⟩
  · exact ⟨none, 0, rfl⟩
  · exact ⟨_, cap, rfl⟩
end

/-- A value that is a slice, reads as the bytes bs and lies below B. -/
def Bs (w : World) (B : Nat) (v : Value) (bs : List UInt8) : Prop := ∃ A c, v = .slice A bs.length c ∧ bs.length ≤ c ∧ c ≤ maxLen ∧ Rd w B 1 A bs.length (bs.map oct)

section
variable {w w' : World} {B B' : Nat} {v : Value} {bs : List UInt8}
theorem Bs.nil : Bs w B (.slice none 0 0) [] := ⟨none, 0, rfl, Nat.le_refl _, Nat.zero_le _, Rd.nil none⟩
theorem Bs.keep (h : Bs w B v bs) (hk : ∀ p : Addr, p.block < B → w'.cell? p = w.cell? p) : Bs w' B v bs := by
  obtain ⟨A, c, e, hl, hm, h⟩ := h; exact ⟨A, c, e, hl, hm, h.keep hk⟩
theorem Bs.more (h : Bs w B v bs) (hB : B ≤ B') : Bs w B' v bs := by
  obtain ⟨A, c, e, hl, hm, h⟩ := h; exact ⟨A, c, e, hl, hm, h.more hB⟩
theorem Bs.below (h : Bs w B v bs) (hb : Below B w w') : Bs w' B v bs := h.keep fun _ hp => hb.cell hp
theorem Bs.alloc (h : Bs w B v bs) (hB : B ≤ w.heap.size) (o : Obj) : Bs (w.alloc o) B v bs := h.keep fun p hp => World.cell?_alloc_lt w o p (by omega)
theorem Bs.setCell (h : Bs w B v bs) {p : Addr} (hB : B ≤ p.block) (u : Value) : Bs (w.setCell p u) B v bs :=
  h.keep fun q hq => World.cell?_setCell_other w p q u (fun e => by subst e; omega)
theorem Bs.fresh (w : World) (bs : List UInt8) (t : TypeId) (hm : bs.length ≤ maxLen) : Bs (w.alloc (.cells (bs.map oct).toArray t)) (w.heap.size + 1) (.slice (some ⟨w.heap.size, 0, none⟩) bs.length bs.length) bs :=
  ⟨_, _, rfl, Nat.le_refl _, hm, by have := Rd.fresh w (bs.map oct).toArray t; simpa using this⟩
/-- From the way in which the guide opens a slice of bytes that came in. -/
theorem Bs.of_cells {a : Addr} {l c : Nat} {zs : List Int} (hl : l ≤ c) (hm : c ≤ maxLen) (hz : zs.length = c) (hc : ∀ i, i < zs.length → w.cell? (a.add i) = some (.int .u8 (zs.getD i 0))) (hw : ∀ n ∈ zs, (Lit.int .u8 n).wf = true) :
    ∃ bs, Bs w w.heap.size (.slice (some a) l c) bs := by
  have hlen : ((zs.take l).map fun n => UInt8.ofNat n.toNat).length = l := by simp; omega
  refine ⟨(zs.take l).map fun n => UInt8.ofNat n.toNat, some a, c, by rw [hlen], by omega, hm, by simp, fun hn => ?_⟩
  rw [hlen] at hn
  obtain ⟨b, o, spot⟩ := a
  have h0 := hc 0 (by omega)
  have hspot : spot = none := by simpa [Addr.add] using World.cell?_spot h0
  subst hspot
  refine ⟨b, o, rfl, World.block_lt_of_cell? w ⟨b, o, none⟩ (by simpa [Addr.add] using h0), fun j u hu => ?_⟩
  simp only [List.getElem?_map, Option.map_eq_some_iff] at hu
  obtain ⟨x, ⟨n, hn', rfl⟩, rfl⟩ := hu
  obtain ⟨hj, rfl⟩ := List.getElem?_eq_some_iff.1 hn'
  have hj' : j < zs.length := by simp at hj; omega
  have h := hc j hj'
  rw [add_mk] at h
  rw [h]
  have hm : zs[j] ∈ zs := List.getElem_mem hj'
  have hb := hw _ hm
  have hb2 : 0 ≤ zs[j] ∧ zs[j] ≤ 255 := by
    simp only [Lit.wf, Bool.and_eq_true, decide_eq_true_eq] at hb
    exact hb
  have e : (zs.take l)[j] = zs[j] := by simp
  rw [e]
  simp [oct, List.getD, hj']
  omega
theorem Bs.of_own {base : Nat} {e : TypeId} {n : Nat} (h : w.ownsRow base e 1 v n (bs.map oct)) : Bs w w.heap.size v bs := by
  have hl : n = bs.length := by have := h.1; simp at this; omega
  subst hl
  rcases h.2 with ⟨hv, h0⟩ | ⟨g, cap, cur, hv, _, _, hl, hm, _⟩
  · subst hv; exact ⟨none, 0, by rw [h0], by omega, Nat.zero_le _, by rw [show bs = [] from List.length_eq_zero_iff.1 h0]; exact Rd.nil _⟩
  · subst hv; exact ⟨_, cap, rfl, hl, hm, Rd.of_own h⟩
/-- The byte at place k, and where it lies. -/
theorem Bs.at_ {A : Option Addr} {n c k : Nat} (h : Bs w B (.slice A n c) bs) (hk : k < n) : ∃ b o, A = some ⟨b, o, none⟩ ∧ b < B ∧ ∃ hb : k < bs.length, w.cell? ⟨b, o + k, none⟩ = some (.int .u8 (bs[k].toNat : Int)) := by
  obtain ⟨A', c', e, _, _, h⟩ := h
  injection e with e1 e2 e3
  subst e1; subst e2
  obtain ⟨b, o, e, hb, hc⟩ := h.2 (by omega)
  exact ⟨b, o, e, hb, hk, hc k _ (by simp [hk, oct])⟩
theorem Bs.len {A : Option Addr} {n c : Nat} (h : Bs w B (.slice A n c) bs) : n = bs.length ∧ n ≤ c ∧ c ≤ maxLen := by
  obtain ⟨A', c', e, hl, hm, h⟩ := h
  injection e with e1 e2 e3
  subst e2; subst e3
  exact ⟨rfl, hl, hm⟩
theorem Bs.rd {A : Option Addr} {n c : Nat} (h : Bs w B (.slice A n c) bs) : Rd w B 1 A n (bs.map oct) := by
  obtain ⟨A', c', e, hl, hm, h⟩ := h
  injection e with e1 e2 e3
  subst e1; subst e2
  exact h
/-- A cut 's[k:]', as the model has its address. -/
theorem Bs.cut {A : Option Addr} {n c k : Nat} (h : Bs w B (.slice A n c) bs) (hk : k ≤ n) : Bs w B (.slice (if c = k then A else A.map (·.add k)) (n - k) (c - k)) (bs.drop k) := by
  obtain ⟨hn, hl, hm⟩ := h.len
  have hr := h.rd
  refine ⟨_, c - k, by rw [List.length_drop, hn], by simp; omega, by omega, by simp, fun h0 => ?_⟩
  rw [List.length_drop] at h0
  obtain ⟨b, o, rfl, hb, hc⟩ := hr.2 (by omega)
  rw [if_neg (by omega)]
  refine ⟨b, o + k, by rw [Option.map_some, add_mk], hb, fun j u hu => ?_⟩
  rw [Nat.add_assoc]
  exact hc _ u (by rw [← hu]; simp)
end

section
variable {P : Program} (w : World)

theorem run_append_empty (base : Nat) (t ty e : TypeId) (i : TypeInfo) (size : Nat) (ht : P.underlying t = some (.slice e)) (hi : P.info? e = some i)
    (v : Value) (n : Nat) (xs : List Value) (hown : w.ownsRow base e size v n xs) (c : Nat) : (Builtin.append_ #[t, t] ty #[v, .slice none 0 c]).run P w = .ok v w := by
  rcases hown.2 with ⟨rfl, rfl⟩ | ⟨g, cap, cur, rfl, _, _, hnc, _⟩
  · simp [Builtin.append_, run_underlying ht, sizeOf, typeInfo, hi, Builtin.lenOf, Builtin.firstCells]
  · simp [Builtin.append_, run_underlying ht, sizeOf, typeInfo, hi, Builtin.lenOf, Builtin.firstCells, hnc, storeCells]

theorem run_append_rd (base : Nat) (t ty e : TypeId) (i : TypeInfo) (z : Value) (size bytes : Nat) (ht : P.underlying t = some (.slice e)) (hi : P.info? e = some i) (hz : i.zero = some z)
    (hsize : i.size = size) (hby : i.bytes = bytes) (hzs : z.cells.size = size) (hsz : 0 < size)
    (v : Value) (n : Nat) (xs : List Value) (hown : w.ownsRow base e size v n xs)
    (B : Nat) (A : Option Addr) (m c : Nat) (news : List Value) (hr : Rd w B size A m news) (h1 : ∀ u ∈ news, u.oneCell' = true)
    (h63 : n + m ≤ maxLen) (hbytes : (n + m) * bytes ≤ 140737488355328) (hbase : base ≤ w.heap.size) :
    ∃ v' w', (Builtin.append_ #[t, t] ty #[v, .slice A m c]).run P w = .ok v' w' ∧ w'.ownsRow base e size v' (n + m) (xs ++ news) ∧ w.grownBy w' v.ownBlock ∧
      (v'.ownBlock = v.ownBlock ∨ v'.ownBlock = some w.heap.size) := by
  rcases A with _ | ad
  · have hm : m = 0 := by
      rcases Nat.eq_zero_or_pos m with h0 | h0
      · exact h0
      · obtain ⟨b, o, h, _⟩ := hr.2 h0
        cases h
    subst hm
    have hn : news = [] := List.eq_nil_of_length_eq_zero (by simpa using hr.1)
    subst hn
    exact ⟨v, w, run_append_empty w base t ty e i size ht hi v n xs hown c, by simpa using hown, World.grownBy.refl w _, .inl rfl⟩
  · have hcells : ∀ j u, news[j]? = some u → w.cell? (ad.add j) = some u := by
      intro j u hu
      rcases Nat.eq_zero_or_pos m with h0 | h0
      · subst h0
        have hn : news = [] := List.eq_nil_of_length_eq_zero (by simpa using hr.1)
        subst hn
        simp at hu
      · obtain ⟨b, o, h, _, hc⟩ := hr.2 h0
        injection h with h
        subst h
        rw [add_mk]
        exact hc j u hu
    obtain ⟨v', w', hrun, h2, h3, _, h5⟩ := run_append_own_at (P := P) w base t ty e i z size bytes ht hi hz hsize hby hzs hsz v n xs hown ad m c news hr.1 hcells h1 h63 hbytes hbase
    exact ⟨v', w', hrun, h2, h3, h5⟩

theorem wp_append_rd {o : Oper} {a : Act} {K : Act → World → Prop} {Q : Exit → Act → World → Prop} (s x : Operand) (t : TypeId)
    (ho : o.op = .call { callee := .builtin .append, args := #[s, x], argTypes := #[t, t] })
    (base : Nat) (e : TypeId) (i : TypeInfo) (z : Value) (size bytes : Nat) (ht : P.underlying t = some (.slice e)) (hi : P.info? e = some i) (hz : i.zero = some z)
    (hsize : i.size = size) (hby : i.bytes = bytes) (hzs : z.cells.size = size) (hsz : 0 < size)
    (v : Value) (n : Nat) (xs : List Value) (hs : a.eval s = v) (hown : w.ownsRow base e size v n xs)
    (B : Nat) (A : Option Addr) (m c : Nat) (news : List Value) (hx : a.eval x = .slice A m c) (hr : Rd w B size A m news) (h1 : ∀ u ∈ news, u.oneCell' = true)
    (h63 : n + m ≤ maxLen) (hbytes : (n + m) * bytes ≤ 140737488355328) (hbase : base ≤ w.heap.size)
    (h : ∀ v' w', w'.ownsRow base e size v' (n + m) (xs ++ news) → w.grownBy w' v.ownBlock → (v'.ownBlock = v.ownBlock ∨ v'.ownBlock = some w.heap.size) → K (a.put o.dst v') w') : o.wp P a w K Q := by
  obtain ⟨v', w', hrun, h2, h3, h4⟩ := run_append_rd (P := P) w base t o.type e i z size bytes ht hi hz hsize hby hzs hsz v n xs hown B A m c news hr h1 h63 hbytes hbase
  unfold Oper.wp execOp
  simp only [ho, resolve, invoke, builtin, Sem.run_bind, Sem.run_pure, Result.andThen_ok, List.map_toArray, List.map_cons, List.map_nil, hs, hx, hrun]
  exact h v' w' h2 h3 h4

/-- 'append(own, read...)': one way whether the source is nil, empty or neither. -/
theorem wpList_append_rd {ops : Array Oper} {rest : List Oper} {o : Oper} {a : Act} {Q : Exit → Act → World → Prop} (hgd : o.guard = none) (s x : Operand) (t : TypeId)
    (ho : o.op = .call { callee := .builtin .append, args := #[s, x], argTypes := #[t, t] })
    (base : Nat) (e : TypeId) (i : TypeInfo) (z : Value) (size bytes : Nat) (ht : P.underlying t = some (.slice e)) (hi : P.info? e = some i) (hz : i.zero = some z)
    (hsize : i.size = size) (hby : i.bytes = bytes) (hzs : z.cells.size = size) (hsz : 0 < size)
    (v : Value) (n : Nat) (xs : List Value) (hs : a.eval s = v) (hown : w.ownsRow base e size v n xs)
    (B : Nat) (A : Option Addr) (m c : Nat) (news : List Value) (hx : a.eval x = .slice A m c) (hr : Rd w B size A m news) (h1 : ∀ u ∈ news, u.oneCell' = true)
    (h63 : n + m ≤ maxLen) (hbytes : (n + m) * bytes ≤ 140737488355328) (hbase : base ≤ w.heap.size)
    (h : ∀ v' w', w'.ownsRow base e size v' (n + m) (xs ++ news) → w.grownBy w' v.ownBlock → (v'.ownBlock = v.ownBlock ∨ v'.ownBlock = some w.heap.size) → wpList P ops Q rest (a.put o.dst v') w') : wpList P ops Q (o :: rest) a w :=
  wpList_plain hgd fun _ hK => wp_append_rd w s x t ho base e i z size bytes ht hi hz hsize hby hzs hsz v n xs hs hown B A m c news hx hr h1 h63 hbytes hbase fun v' w' h2 h3 h4 => hK _ _ (h v' w' h2 h3 h4)
end

/-- The run of 's[k:]': whatever the address is named, the cut reads as the rest. -/
theorem run_cut {P : Program} (t e : TypeId) (i : TypeInfo) (ht : P.underlying t = some (.slice e)) (hi : P.info? e = some i) (hs : i.size = 1) {w : World} {B : Nat} {A : Option Addr} {n c : Nat} {bs : List UInt8}
    (h : Bs w B (.slice A n c) bs) (kl : IntKind) (k : Nat) (hk : k ≤ n) :
    ∃ A', (∀ W, (Instr.slice t (.slice A n c) (some (.int kl (k : Int))) none none).run P W = .ok (.slice A' (n - k) (c - k)) W) ∧ Bs w B (.slice A' (n - k) (c - k)) (bs.drop k) := by
  have ht' : P.underlying t = some (.slice (P.elem t)) := by simp [Program.elem, ht]
  have he : P.elem t = e := by simp [Program.elem, ht]
  have hz : ∀ w, (Go.sizeOf e).run P w = .ok 1 w := fun w => by simp [Go.sizeOf, typeInfo, hi, hs]
  refine ⟨_, fun W => ?_, h.cut hk⟩
  rw [run_slice_l W t _ _ _ ht' kl _ (by omega) (by omega), he, hz]
  simp [Result.andThen, sliced]

/-- The run of 's[i:j]'. -/
theorem run_window {P : Program} (t e : TypeId) (i : TypeInfo) (ht : P.underlying t = some (.slice e)) (hi : P.info? e = some i) (hs : i.size = 1) {w : World} {B : Nat} {A : Option Addr} {n c : Nat} {bs : List UInt8}
    (h : Bs w B (.slice A n c) bs) (kl kh : IntKind) (l j : Nat) (hl : l ≤ j) (hj : j ≤ n) :
    ∃ A', (∀ W, (Instr.slice t (.slice A n c) (some (.int kl (l : Int))) (some (.int kh (j : Int))) none).run P W = .ok (.slice A' (j - l) (c - l)) W) ∧ Bs w B (.slice A' (j - l) (c - l)) ((bs.drop l).take (j - l)) := by
  have ht' : P.underlying t = some (.slice (P.elem t)) := by simp [Program.elem, ht]
  have he : P.elem t = e := by simp [Program.elem, ht]
  have hz : ∀ w, (Go.sizeOf e).run P w = .ok 1 w := fun w => by simp [Go.sizeOf, typeInfo, hi, hs]
  obtain ⟨hn, hlc, hm⟩ := h.len
  have hr := h.rd
  refine ⟨if c = l then A else A.map (·.add l), fun W => ?_, ?_⟩
  · rw [run_slice_lh W t _ _ _ ht' kl kh _ _ (by omega) (by omega) (by omega), he, hz]
    simp [Result.andThen, sliced]
  · have hlen : ((bs.drop l).take (j - l)).length = j - l := by simp; omega
    refine ⟨_, c - l, by rw [hlen], by rw [hlen]; omega, by omega, by simp, fun h0 => ?_⟩
    rw [hlen] at h0
    obtain ⟨b, o, rfl, hb, hc⟩ := hr.2 (by omega)
    rw [if_neg (by omega)]
    refine ⟨b, o + l, by rw [Option.map_some, add_mk], hb, fun k u hu => ?_⟩
    rw [Nat.add_assoc]
    refine hc (l + k) u ?_
    have hk : k < j - l := by
      have := (List.getElem?_eq_some_iff.1 hu).1
      simp at this; omega
    rw [← hu, List.map_take, List.map_drop, List.getElem?_take_of_lt hk, List.getElem?_drop]

/-- The run of 's[:j]'. -/
theorem run_upto {P : Program} (t e : TypeId) (i : TypeInfo) (ht : P.underlying t = some (.slice e)) (hi : P.info? e = some i) (hs : i.size = 1) {w : World} {B : Nat} {A : Option Addr} {n c : Nat} {bs : List UInt8}
    (h : Bs w B (.slice A n c) bs) (kh : IntKind) (j : Nat) (hj : j ≤ n) :
    ∃ A', (∀ W, (Instr.slice t (.slice A n c) none (some (.int kh (j : Int))) none).run P W = .ok (.slice A' j c) W) ∧ Bs w B (.slice A' j c) (bs.take j) := by
  have ht' : P.underlying t = some (.slice (P.elem t)) := by simp [Program.elem, ht]
  have he : P.elem t = e := by simp [Program.elem, ht]
  have hz : ∀ w, (Go.sizeOf e).run P w = .ok 1 w := fun w => by simp [Go.sizeOf, typeInfo, hi, hs]
  obtain ⟨hn, hlc, hm⟩ := h.len
  have hr := h.rd
  refine ⟨A, fun W => ?_, ?_⟩
  · rw [run_slice_h W t _ _ _ ht' kh _ (by omega) (by omega), he, hz]
    cases A <;> simp [Result.andThen, sliced, Addr.add]
  · have hlen : (bs.take j).length = j := by simp; omega
    refine ⟨A, c, by rw [hlen], by rw [hlen]; omega, by omega, by simp, fun h0 => ?_⟩
    rw [hlen] at h0
    obtain ⟨b, o, rfl, hb, hc⟩ := hr.2 (by omega)
    refine ⟨b, o, rfl, hb, fun k u hu => hc k u ?_⟩
    have hk : k < j := by
      have := (List.getElem?_eq_some_iff.1 hu).1
      simp at this; omega
    rw [← hu, List.map_take, List.getElem?_take_of_lt hk]

theorem oct_one (bs : List UInt8) : ∀ u ∈ bs.map oct, u.oneCell' = true := by
  intro u hu
  obtain ⟨x, _, rfl⟩ := List.mem_map.1 hu
  rfl

/-- 'string(b)' of a slice that reads as bytes. -/
theorem run_convert_bs {P : Program} (w : World) (src e dst : TypeId) (hs : P.underlying src = some (.slice e)) (he : P.underlying e = some (.int .u8)) (hd : P.underlying dst = some .string) {B : Nat} {v : Value} {bs : List UInt8}
    (h : Bs w B v bs) : (convert src dst v).run P w = .ok (.string ⟨bs.toArray⟩) w := by
  obtain ⟨A, c, rfl, _, _, h⟩ := h
  rcases Nat.eq_zero_or_pos bs.length with h0 | h0
  · obtain rfl : bs = [] := List.length_eq_zero_iff.1 h0
    cases A with
    | none => exact run_convert_bytes_nil (P := P) w src e hs he _ _ dst hd
    | some a =>
      rw [run_convert_bytes_string w src dst e _ _ c hs he hd]
      simp [Conv.bytesToString, loadCells, loadCellsFrom]
      rfl
  · obtain ⟨b, o, rfl, hb, hc⟩ := h.2 h0
    have hz : (⟨bs.toArray⟩ : ByteArray).size = bs.length := by simp [ByteArray.size]
    rw [← hz]
    refine Go.Lib.run_convert_whole (P := P) w src e dst hs he hd b o ⟨bs.toArray⟩ ?_ c
    intro i hi
    have hi' : i < bs.length := by have : (⟨bs.toArray⟩ : ByteArray).size = bs.length := by simp [ByteArray.size]
                                   omega
    have := hc i _ (show (bs.map oct)[i]? = some (oct bs[i]) by simp [hi'])
    exact this

/-- A result that is a slice of its own and an error beside it. -/
def Put2 (w : World) (bs : List UInt8) (x : Int) (e : Ending) (w' : World) : Prop := ∃ v, e = .returned (.tuple #[v, .int .i64 x]) ∧ Bs w' w'.heap.size v bs ∧ Below w.heap.size w w'
end Go.Proofs.Ytobimcpkhgfliaa
namespace Go.Proofs.Ytobimcpkhgfliaa
open Go.RowKit
set_option linter.unusedVariables false

theorem info_u8 : (Try.prog.info? 5).map (fun i => (i.zero, i.size, i.bytes)) = some (some (.int .u8 0), 1, 1) := by kernel_rfl
end Go.Proofs.Ytobimcpkhgfliaa
namespace Go.Proofs.Ytobimcpkhgfliaa
set_option linter.unusedVariables false

/-- An element. -/
structure Du where
  dl : Int
  id : Int
def zD : Du := ⟨0, 0⟩
/-- It is before another one. -/
def bef (a b : Du) : Bool := decide (a.dl < b.dl ∨ (a.dl = b.dl ∧ a.id < b.id))
theorem bef_iff {a b : Du} : bef a b = true ↔ a.dl < b.dl ∨ (a.dl = b.dl ∧ a.id < b.id) := by unfold bef; exact decide_eq_true_iff
theorem bef_no {a b : Du} : bef a b = false ↔ b.dl < a.dl ∨ (b.dl = a.dl ∧ b.id ≤ a.id) := by
  rw [← Bool.not_eq_true, bef_iff]; omega
theorem bef_irr (a : Du) : bef a a = false := bef_no.2 (by omega)
theorem bef_trans {a b c : Du} (h : bef a b = true) (k : bef b c = true) : bef a c = true := by
  rw [bef_iff] at *; omega
theorem bef_asym {a b : Du} (h : bef a b = true) : bef b a = false := by
  rw [bef_iff] at h; rw [bef_no]; omega
/-- Not before, along a chain. -/
theorem nbef_trans {a b c : Du} (h : bef a b = false) (k : bef b c = false) : bef a c = false := by
  rw [bef_no] at *; omega
theorem bef_nbef {a b c : Du} (h : bef a b = true) (k : bef c b = false) : bef c a = false := by
  rw [bef_iff] at h; rw [bef_no] at *; omega

/-- The element at a place. -/
def ge (h : List Du) (i : Nat) : Du := h.getD i zD
/-- Two elements are exchanged. -/
def swp (h : List Du) (i k : Nat) : List Du := (h.set i (ge h k)).set k (ge h i)
theorem swp_len (h : List Du) (i k : Nat) : (swp h i k).length = h.length := by simp [swp]
theorem ge_set (h : List Du) (i j : Nat) (x : Du) (hi : i < h.length) : ge (h.set i x) j = if j = i then x else ge h j := by
  unfold ge
  by_cases e : j = i
  · subst e; simp [List.getD, hi]
  · rw [if_neg e]
    simp [List.getD, Ne.symm e]
theorem ge_swp {h : List Du} {i k : Nat} (hi : i < h.length) (hk : k < h.length) (j : Nat) : ge (swp h i k) j = if j = k then ge h i else if j = i then ge h k else ge h j := by
  unfold swp
  rw [ge_set _ _ _ _ (by simpa using hk)]
  by_cases e : j = k
  · rw [if_pos e, if_pos e]
  · rw [if_neg e, if_neg e, ge_set _ _ _ _ hi]

/-- A heap: no element is before its parent. -/
def Hp (h : List Du) : Prop := ∀ j, 0 < j → j < h.length → bef (ge h j) (ge h ((j - 1) / 2)) = false

/-- Sifting up. -/
def upF (h : List Du) (i : Nat) : List Du :=
  if hc : 0 < i ∧ bef (ge h i) (ge h ((i - 1) / 2)) = true then upF (swp h i ((i - 1) / 2)) ((i - 1) / 2) else h
termination_by i
decreasing_by omega
/-- The child that comes first. -/
def chF (h : List Du) (i : Nat) : Nat := if 2 * i + 2 < h.length ∧ bef (ge h (2 * i + 2)) (ge h (2 * i + 1)) = true then 2 * i + 2 else 2 * i + 1
theorem chF_cases (h : List Du) (i : Nat) : chF h i = 2 * i + 1 ∨ chF h i = 2 * i + 2 := by unfold chF; split <;> simp
theorem chF_lt {h : List Du} {i : Nat} (hi : 2 * i + 1 < h.length) : i < chF h i ∧ chF h i < h.length := by
  unfold chF
  split
  · rename_i hc; omega
  · omega
/-- Sifting down. -/
def dnF (h : List Du) (i : Nat) : List Du :=
  if hc : 2 * i + 1 < h.length ∧ bef (ge h (chF h i)) (ge h i) = true then dnF (swp h i (chF h i)) (chF h i) else h
termination_by h.length - i
decreasing_by
  have := chF_lt hc.1
  rw [swp_len]
  omega

theorem perm_set_set {h : List Du} {i k : Nat} (hi : i < h.length) (hk : k < h.length) : (swp h i k).Perm h := by
  unfold swp ge
  rw [List.getD_eq_getElem?_getD, List.getD_eq_getElem?_getD, List.getElem?_eq_getElem hi, List.getElem?_eq_getElem hk]
  simp only [Option.getD_some]
  exact List.set_set_perm hi hk
theorem upF_len (h : List Du) (i : Nat) : (upF h i).length = h.length := by
  induction h, i using upF.induct with
  | case1 h i hc ih => rw [upF, dif_pos hc, ih, swp_len]
  | case2 h i hc => rw [upF, dif_neg hc]
theorem dnF_len (h : List Du) (i : Nat) : (dnF h i).length = h.length := by
  induction h, i using dnF.induct with
  | case1 h i hc ih => rw [dnF, dif_pos hc, ih, swp_len]
  | case2 h i hc => rw [dnF, dif_neg hc]
theorem upF_perm (h : List Du) (i : Nat) (hi : i < h.length) : (upF h i).Perm h := by
  induction h, i using upF.induct with
  | case1 h i hc ih =>
    rw [upF, dif_pos hc]
    exact (ih (by rw [swp_len]; omega)).trans (perm_set_set hi (by omega))
  | case2 h i hc => rw [upF, dif_neg hc]
theorem dnF_perm (h : List Du) (i : Nat) (hi : i < h.length) : (dnF h i).Perm h := by
  induction h, i using dnF.induct with
  | case1 h i hc ih =>
    have := chF_lt hc.1
    rw [dnF, dif_pos hc]
    exact (ih (by rw [swp_len]; omega)).trans (perm_set_set hi this.2)
  | case2 h i hc => rw [dnF, dif_neg hc]

/-- A heap but for the element i, which may be before its parent. -/
def UpOk (h : List Du) (i : Nat) : Prop := (∀ j, 0 < j → j < h.length → j ≠ i → bef (ge h j) (ge h ((j - 1) / 2)) = false) ∧ ∀ j, 0 < j → j < h.length → (j - 1) / 2 = i → 0 < i → bef (ge h j) (ge h ((i - 1) / 2)) = false
theorem upF_heap (h : List Du) (i : Nat) (hi : i < h.length) (hu : UpOk h i) : Hp (upF h i) := by
  induction h, i using upF.induct with
  | case1 h i hc ih =>
    obtain ⟨h0, hb⟩ := hc
    rw [upF, dif_pos ⟨h0, hb⟩]
    have hp : (i - 1) / 2 < h.length := by omega
    refine ih (by rw [swp_len]; exact hp) ⟨fun j j0 jl jn => ?_, fun j j0 jl je p0 => ?_⟩
    · rw [swp_len] at jl
      rw [ge_swp hi hp, ge_swp hi hp, if_neg jn]
      by_cases e : j = i
      · subst e
        rw [if_pos rfl, if_pos rfl]
        exact bef_asym hb
      · rw [if_neg e]
        by_cases e1 : (j - 1) / 2 = (i - 1) / 2
        · rw [if_pos e1]
          exact bef_nbef hb (by have := hu.1 j j0 jl e; rw [e1] at this; exact this)
        · rw [if_neg e1]
          by_cases e2 : (j - 1) / 2 = i
          · rw [if_pos e2]
            exact hu.2 j j0 jl e2 h0
          · rw [if_neg e2]
            exact hu.1 j j0 jl e
    · rw [swp_len] at jl
      have hne : (((i - 1) / 2) - 1) / 2 ≠ (i - 1) / 2 := by omega
      have hne2 : (((i - 1) / 2) - 1) / 2 ≠ i := by omega
      rw [ge_swp hi hp, ge_swp hi hp, if_neg hne, if_neg hne2, if_neg (by omega)]
      have hpp := hu.1 ((i - 1) / 2) p0 hp (by omega)
      by_cases e : j = i
      · rw [if_pos e]; exact hpp
      · rw [if_neg e]
        have := hu.1 j j0 jl e
        rw [je] at this
        exact nbef_trans this hpp
  | case2 h i hc =>
    rw [upF, dif_neg hc]
    intro j j0 jl
    by_cases e : j = i
    · subst e
      cases hb : bef (ge h j) (ge h ((j - 1) / 2)) with
      | false => rfl
      | true => exact absurd ⟨j0, hb⟩ hc
    · exact hu.1 j j0 jl e

/-- A heap but for the element i, which its children may be before. -/
def DnOk (h : List Du) (i : Nat) : Prop := (∀ j, 0 < j → j < h.length → (j - 1) / 2 ≠ i → bef (ge h j) (ge h ((j - 1) / 2)) = false) ∧ ∀ j, 0 < j → j < h.length → (j - 1) / 2 = i → 0 < i → bef (ge h j) (ge h ((i - 1) / 2)) = false
theorem dnF_heap (h : List Du) (i : Nat) (hi : i < h.length) (hd : DnOk h i) : Hp (dnF h i) := by
  induction h, i using dnF.induct with
  | case1 h i hc ih =>
    obtain ⟨hl, hb⟩ := hc
    have hk := chF_lt hl
    rw [dnF, dif_pos ⟨hl, hb⟩]
    have hcc := chF_cases h i
    have hpar : (chF h i - 1) / 2 = i := by omega
    -- the other child is not before the chosen one
    have hoth : ∀ j, 0 < j → j < h.length → (j - 1) / 2 = i → bef (ge h j) (ge h (chF h i)) = false := by
      intro j j0 jl je
      by_cases e : j = chF h i
      · rw [e]; exact bef_irr _
      · unfold chF at e ⊢
        by_cases hx : 2 * i + 2 < h.length ∧ bef (ge h (2 * i + 2)) (ge h (2 * i + 1)) = true
        · rw [if_pos hx] at e ⊢
          have : j = 2 * i + 1 := by omega
          rw [this]
          exact bef_asym hx.2
        · rw [if_neg hx] at e ⊢
          have e2 : j = 2 * i + 2 := by omega
          rw [e2] at jl ⊢
          cases hb2 : bef (ge h (2 * i + 2)) (ge h (2 * i + 1)) with
          | false => rfl
          | true => exact absurd ⟨jl, hb2⟩ hx
    generalize chF h i = k at *
    refine ih (by rw [swp_len]; omega) ⟨fun j j0 jl jn => ?_, fun j j0 jl je p0 => ?_⟩
    · rw [swp_len] at jl
      rw [ge_swp hi hk.2, ge_swp hi hk.2]
      by_cases e : j = k
      · subst e
        rw [if_pos rfl, hpar, if_neg (by omega), if_pos rfl]
        exact bef_asym hb
      · rw [if_neg e, if_neg jn]
        by_cases e1 : j = i
        · subst e1
          rw [if_pos rfl, if_neg (by omega)]
          exact hd.2 k (by omega) hk.2 hpar j0
        · rw [if_neg e1]
          by_cases e2 : (j - 1) / 2 = i
          · rw [if_pos e2]
            exact hoth j j0 jl e2
          · rw [if_neg e2]
            exact hd.1 j j0 jl e2
    · rw [swp_len] at jl
      rw [ge_swp hi hk.2, ge_swp hi hk.2, if_neg (by omega), if_neg (by omega), hpar, if_neg (by omega), if_pos rfl]
      have := hd.1 j j0 jl (by omega)
      rw [je] at this
      exact this
  | case2 h i hc =>
    rw [dnF, dif_neg hc]
    intro j j0 jl
    by_cases e : (j - 1) / 2 = i
    · rw [e]
      have hl : 2 * i + 1 < h.length := by omega
      have hk : bef (ge h (chF h i)) (ge h i) = false := by
        cases hb : bef (ge h (chF h i)) (ge h i) with
        | false => rfl
        | true => exact absurd ⟨hl, hb⟩ hc
      unfold chF at hk
      by_cases hx : 2 * i + 2 < h.length ∧ bef (ge h (2 * i + 2)) (ge h (2 * i + 1)) = true
      · rw [if_pos hx] at hk
        by_cases e2 : j = 2 * i + 2
        · rw [e2]; exact hk
        · rw [show j = 2 * i + 1 by omega]
          exact nbef_trans (bef_asym hx.2) hk
      · rw [if_neg hx] at hk
        by_cases e2 : j = 2 * i + 1
        · rw [e2]; exact hk
        · have e3 : j = 2 * i + 2 := by omega
          rw [e3] at jl ⊢
          have : bef (ge h (2 * i + 2)) (ge h (2 * i + 1)) = false := by
            cases hb2 : bef (ge h (2 * i + 2)) (ge h (2 * i + 1)) with
            | false => rfl
            | true => exact absurd ⟨jl, hb2⟩ hx
          exact nbef_trans this hk
    · exact hd.1 j j0 jl e
/-- The root is before all others, or the same. -/
theorem hp_root {h : List Du} (hh : Hp h) : ∀ j, j < h.length → bef (ge h j) (ge h 0) = false := by
  intro j
  induction j using Nat.strongRecOn with
  | ind j ih =>
    intro jl
    rcases Nat.eq_zero_or_pos j with e | j0
    · subst e; exact bef_irr _
    · exact nbef_trans (hh j j0 jl) (ih ((j - 1) / 2) (by omega) (by omega))
theorem ge_take {h : List Du} {n j : Nat} (hj : j < n) : ge (h.take n) j = ge h j := by
  unfold ge
  rw [List.getD_eq_getElem?_getD, List.getD_eq_getElem?_getD, List.getElem?_take, if_pos hj]
theorem hp_take {h : List Du} (hh : Hp h) (n : Nat) : Hp (h.take n) := by
  intro j j0 jl
  rw [List.length_take] at jl
  rw [ge_take (by omega), ge_take (by omega)]
  exact hh j j0 (by omega)
/-- The element i is removed: the last one takes its place. -/
def cuF (h : List Du) (i : Nat) : List Du :=
  if i = h.length - 1 then h.take (h.length - 1)
  else if 0 < i ∧ bef (ge ((h.take (h.length - 1)).set i (ge h (h.length - 1))) i) (ge ((h.take (h.length - 1)).set i (ge h (h.length - 1))) ((i - 1) / 2)) = true then upF ((h.take (h.length - 1)).set i (ge h (h.length - 1))) i
  else dnF ((h.take (h.length - 1)).set i (ge h (h.length - 1))) i
theorem cuF_len {h : List Du} {i : Nat} (hi : i < h.length) : (cuF h i).length = h.length - 1 := by
  unfold cuF
  split
  · rw [List.length_take]; omega
  · split
    · rw [upF_len, List.length_set, List.length_take]; omega
    · rw [dnF_len, List.length_set, List.length_take]; omega
theorem take_last {h : List Du} (h0 : 0 < h.length) : h = h.take (h.length - 1) ++ [ge h (h.length - 1)] := by
  have e : ge h (h.length - 1) = h[h.length - 1]'(by omega) := by
    unfold ge; rw [List.getD_eq_getElem?_getD, List.getElem?_eq_getElem (by omega)]; rfl
  have k := List.take_append_getElem (l := h) (i := h.length - 1) (by omega)
  rw [e, k, List.take_of_length_le (by omega)]
theorem set_perm (x : Du) : ∀ (ys : List Du) (i : Nat), i < ys.length → (ys.set i x).Perm (x :: ys.eraseIdx i)
  | [], i, h => by simp at h
  | a :: ys, 0, _ => by simp
  | a :: ys, i + 1, h => by
    simp only [List.set_cons_succ, List.eraseIdx_cons_succ]
    exact ((set_perm x ys i (by simpa using h)).cons a).trans (List.Perm.swap _ _ _)
theorem cuF_perm {h : List Du} {i : Nat} (hi : i < h.length) : (cuF h i).Perm (h.eraseIdx i) := by
  have ht := take_last (h := h) (by omega)
  have hl : (h.take (h.length - 1)).length = h.length - 1 := by rw [List.length_take]; omega
  unfold cuF
  by_cases e : i = h.length - 1
  · rw [if_pos e, e, List.eraseIdx_eq_take_drop_succ, List.drop_eq_nil_of_le (by omega), List.append_nil]
  · rw [if_neg e]
    have hs : ((h.take (h.length - 1)).set i (ge h (h.length - 1))).Perm (h.eraseIdx i) := by
      have h1 := set_perm (ge h (h.length - 1)) (h.take (h.length - 1)) i (by omega)
      refine h1.trans ?_
      have h2 : h.eraseIdx i = (h.take (h.length - 1)).eraseIdx i ++ [ge h (h.length - 1)] := by
        have this : h.eraseIdx i = (h.take (h.length - 1) ++ [ge h (h.length - 1)]).eraseIdx i := congrArg (fun x => List.eraseIdx x i) ht
        rw [this, List.eraseIdx_append_of_lt_length (by omega)]
      rw [h2]
      exact (List.perm_append_singleton _ _).symm
    have hsl : i < ((h.take (h.length - 1)).set i (ge h (h.length - 1))).length := by rw [List.length_set]; omega
    split
    · exact (upF_perm _ _ hsl).trans hs
    · exact (dnF_perm _ _ hsl).trans hs
theorem cuF_heap {h : List Du} {i : Nat} (hi : i < h.length) (hh : Hp h) : Hp (cuF h i) := by
  have hl : (h.take (h.length - 1)).length = h.length - 1 := by rw [List.length_take]; omega
  unfold cuF
  by_cases e : i = h.length - 1
  · rw [if_pos e]; exact hp_take hh _
  · rw [if_neg e]
    have hi1 : i < h.length - 1 := by omega
    obtain ⟨y, hy⟩ : ∃ y, y = (h.take (h.length - 1)).set i (ge h (h.length - 1)) := ⟨_, rfl⟩
    have hyl : y.length = h.length - 1 := by rw [hy, List.length_set, hl]
    have hg : ∀ j, j < h.length - 1 → ge y j = if j = i then ge h (h.length - 1) else ge h j := fun j hj => by
      rw [hy, ge_set _ _ _ _ (by omega)]
      split
      · rfl
      · exact ge_take hj
    rw [← hy]
    by_cases hc : 0 < i ∧ bef (ge y i) (ge y ((i - 1) / 2)) = true
    · rw [if_pos hc]
      obtain ⟨h0, hb⟩ := hc
      rw [hg i hi1, if_pos rfl, hg _ (by omega), if_neg (by omega)] at hb
      refine upF_heap y i (by omega) ⟨fun j j0 jl jn => ?_, fun j j0 jl je p0 => ?_⟩
      · rw [hg j (by omega), if_neg jn, hg _ (by omega)]
        by_cases e1 : (j - 1) / 2 = i
        · rw [if_pos e1]
          have k1 := hh j j0 (by omega)
          rw [e1] at k1
          exact bef_nbef hb (nbef_trans k1 (hh i h0 (by omega)))
        · rw [if_neg e1]; exact hh j j0 (by omega)
      · rw [hg j (by omega), if_neg (by omega), hg _ (by omega), if_neg (by omega)]
        have k1 := hh j j0 (by omega)
        rw [je] at k1
        exact nbef_trans k1 (hh i h0 (by omega))
    · rw [if_neg hc]
      refine dnF_heap y i (by omega) ⟨fun j j0 jl jn => ?_, fun j j0 jl je p0 => ?_⟩
      · rw [hg _ (show (j - 1) / 2 < h.length - 1 by omega), if_neg jn]
        by_cases e1 : j = i
        · rw [e1]
          rw [e1] at j0 jn
          cases hb : bef (ge y i) (ge h ((i - 1) / 2)) with
          | false => rfl
          | true => exact absurd ⟨j0, by rw [hg _ (show (i - 1) / 2 < h.length - 1 by omega), if_neg (by omega)]; exact hb⟩ hc
        · rw [hg j (by omega), if_neg e1]
          exact hh j j0 (by omega)
      · rw [hg j (by omega), if_neg (by omega), hg _ (show (i - 1) / 2 < h.length - 1 by omega), if_neg (by omega)]
        have k1 := hh j j0 (by omega)
        rw [je] at k1
        exact nbef_trans k1 (hh i p0 (by omega))
/-- Adding an element. -/
def puF (h : List Du) (d : Du) : List Du := upF (h ++ [d]) h.length
theorem puF_len (h : List Du) (d : Du) : (puF h d).length = h.length + 1 := by unfold puF; rw [upF_len]; simp
theorem puF_perm (h : List Du) (d : Du) : (puF h d).Perm (d :: h) := (upF_perm _ _ (by simp)).trans (List.perm_append_singleton _ _)
theorem ge_snoc {h : List Du} {d : Du} {j : Nat} (hj : j < h.length) : ge (h ++ [d]) j = ge h j := by
  unfold ge
  simp [List.getD, List.getElem?_append_left hj]
theorem puF_heap {h : List Du} (hh : Hp h) (d : Du) : Hp (puF h d) := by
  refine upF_heap _ _ (by simp) ⟨fun j j0 jl jn => ?_, fun j j0 jl je p0 => ?_⟩
  · simp at jl
    rw [ge_snoc (by omega), ge_snoc (by omega)]
    exact hh j j0 (by omega)
  · simp at jl
    omega
/-- The IDs of the elements that are due, in order: as they are popped. -/
def unF (h : List Du) (now : Int) : List Int :=
  if hc : 0 < h.length ∧ (ge h 0).dl ≤ now then (ge h 0).id :: unF (cuF h 0) now else []
termination_by h.length
decreasing_by
  rw [cuF_len hc.1]
  omega
theorem ge_zero {h : List Du} (h0 : 0 < h.length) : h = ge h 0 :: h.eraseIdx 0 := by
  cases h with
  | nil => simp at h0
  | cons a l => rfl
theorem ge_mem {h : List Du} {d : Du} (hd : d ∈ h) : ∃ j, j < h.length ∧ ge h j = d := by
  obtain ⟨j, hj, e⟩ := List.getElem_of_mem hd
  exact ⟨j, hj, by unfold ge; rw [List.getD_eq_getElem?_getD, List.getElem?_eq_getElem hj]; exact e⟩
theorem mem_ge {h : List Du} {j : Nat} (hj : j < h.length) : ge h j ∈ h := by
  unfold ge
  rw [List.getD_eq_getElem?_getD, List.getElem?_eq_getElem hj]
  exact List.getElem_mem hj
/-- If the root is not due, nothing is. -/
theorem hp_late {h : List Du} (hh : Hp h) {now : Int} (hl : now < (ge h 0).dl) {d : Du} (hd : d ∈ h) : now < d.dl := by
  obtain ⟨j, hj, rfl⟩ := ge_mem hd
  have := bef_no.1 (hp_root hh j hj)
  omega
theorem unF_perm (h : List Du) (now : Int) : Hp h → (unF h now).Perm ((h.filter (fun d => decide (d.dl ≤ now))).map Du.id) := by
  induction h using unF.induct (now := now) with
  | case1 h hc ih =>
    intro hh
    rw [unF, dif_pos hc]
    have h1 := ih (cuF_heap hc.1 hh)
    have h2 : ((cuF h 0).filter (fun d => decide (d.dl ≤ now))).Perm ((h.eraseIdx 0).filter (fun d => decide (d.dl ≤ now))) := (cuF_perm hc.1).filter _
    have h3 := ge_zero hc.1
    have h4 : h.filter (fun d => decide (d.dl ≤ now)) = ge h 0 :: (h.eraseIdx 0).filter (fun d => decide (d.dl ≤ now)) := by
      have e : h.filter (fun d => decide (d.dl ≤ now)) = (ge h 0 :: h.eraseIdx 0).filter (fun d => decide (d.dl ≤ now)) := congrArg (List.filter _) h3
      rw [e, List.filter_cons_of_pos (by simpa using hc.2)]
    rw [h4]
    exact (h1.trans (h2.map _)).cons _
  | case2 h hc =>
    intro hh
    rw [unF, dif_neg hc]
    have : h.filter (fun d => decide (d.dl ≤ now)) = [] := by
      rw [List.filter_eq_nil_iff]
      intro d hd
      have h0 : 0 < h.length := List.length_pos_of_mem hd
      have := hp_late hh (now := now) (by have : ¬ (ge h 0).dl ≤ now := fun k => hc ⟨h0, k⟩; omega) hd
      simp
      omega
    rw [this]
    exact List.Perm.refl _
theorem unF_mem {h : List Du} (hh : Hp h) (now x : Int) : x ∈ unF h now ↔ ∃ d ∈ h, d.dl ≤ now ∧ d.id = x := by
  rw [(unF_perm h now hh).mem_iff]
  simp only [List.mem_map, List.mem_filter, decide_eq_true_eq]
  exact ⟨fun ⟨d, ⟨h1, h2⟩, h3⟩ => ⟨d, h1, h2, h3⟩, fun ⟨d, h1, h2, h3⟩ => ⟨d, ⟨h1, h2⟩, h3⟩⟩
theorem unF_len {h : List Du} (hh : Hp h) (now : Int) : (unF h now).length = (h.filter (fun d => decide (d.dl ≤ now))).length := by
  rw [(unF_perm h now hh).length_eq, List.length_map]

/-- An element in range. -/
def snd (d : Du) : Bool := decide (0 ≤ d.dl ∧ d.dl ≤ 1073741824 ∧ 1 ≤ d.id ∧ d.id ≤ 1073741824)
/-- Two elements have the same ID. -/
def dupD (h : List Du) : Prop := ∃ (i j : Nat), i < j ∧ j < h.length ∧ (ge h i).id = (ge h j).id
open Classical in
/-- The first error of a heap. -/
noncomputable def vaF (h : List Du) : Int :=
  if 12 < h.length then 2 else if ¬ (∀ j, j < h.length → snd (ge h j) = true) then 1 else if dupD h then 10 else if ¬ Hp h then 11 else 0
theorem vaF_zero {h : List Du} (e : vaF h = 0) : h.length ≤ 12 ∧ (∀ j, j < h.length → snd (ge h j) = true) ∧ ¬ dupD h ∧ Hp h := by
  unfold vaF at e
  by_cases h1 : 12 < h.length
  · rw [if_pos h1] at e; exact absurd e (by decide)
  · rw [if_neg h1] at e
    by_cases h2 : ∀ j, j < h.length → snd (ge h j) = true
    · rw [if_neg (by simpa using h2)] at e
      by_cases h3 : dupD h
      · rw [if_pos h3] at e; exact absurd e (by decide)
      · rw [if_neg h3] at e
        by_cases h4 : Hp h
        · exact ⟨by omega, h2, h3, h4⟩
        · rw [if_pos h4] at e; exact absurd e (by decide)
    · rw [if_pos h2] at e; exact absurd e (by decide)
theorem vaF_ok {h : List Du} (h1 : h.length ≤ 12) (h2 : ∀ j, j < h.length → snd (ge h j) = true) (h3 : ¬ dupD h) (h4 : Hp h) : vaF h = 0 := by
  unfold vaF
  rw [if_neg (by omega), if_neg (by simpa using h2), if_neg h3, if_neg (by simpa using h4)]
/-- In the words of lists: so that a permutation keeps it. -/
theorem dupD_iff (h : List Du) : ¬ dupD h ↔ (h.map Du.id).Nodup := by
  rw [List.nodup_iff_pairwise_ne, List.pairwise_map, List.pairwise_iff_getElem]
  have e : ∀ i (hi : i < h.length), ge h i = h[i] := fun i hi => by unfold ge; rw [List.getD_eq_getElem?_getD, List.getElem?_eq_getElem hi]; rfl
  constructor
  · intro k i j hi hj hij he; exact k ⟨i, j, hij, hj, by rw [e i hi, e j hj]; exact he⟩
  · rintro k ⟨i, j, hij, hj, he⟩; exact k i j (by omega) hj hij (by rw [← e i (by omega), ← e j hj]; exact he)
theorem snd_iff (h : List Du) : (∀ j, j < h.length → snd (ge h j) = true) ↔ ∀ d ∈ h, snd d = true :=
  ⟨fun k d hd => by obtain ⟨j, hj, rfl⟩ := ge_mem hd; exact k j hj, fun k j hj => k _ (mem_ge hj)⟩
/-- What adding a new element in range, and removing one, give: valid heaps. -/
theorem vaF_push {h : List Du} {d : Du} (hv : vaF h = 0) (hd : snd d = true) (hl : h.length < 12) (hi : ∀ x ∈ h, x.id ≠ d.id) : vaF (puF h d) = 0 := by
  obtain ⟨h1, h2, h3, h4⟩ := vaF_zero hv
  have hp := puF_perm h d
  refine vaF_ok (by rw [puF_len]; omega) ((snd_iff _).2 fun x hx => ?_) ((dupD_iff _).2 ?_) (puF_heap h4 d)
  · rcases List.mem_cons.1 (hp.mem_iff.1 hx) with e | e
    · rw [e]; exact hd
    · exact (snd_iff h).1 h2 x e
  · rw [(hp.map Du.id).nodup_iff, List.map_cons, List.nodup_cons]
    refine ⟨fun k => ?_, (dupD_iff h).1 h3⟩
    obtain ⟨x, hx, e⟩ := List.mem_map.1 k
    exact hi x hx e
theorem vaF_cut {h : List Du} {i : Nat} (hv : vaF h = 0) (hi : i < h.length) : vaF (cuF h i) = 0 := by
  obtain ⟨h1, h2, h3, h4⟩ := vaF_zero hv
  have hp := cuF_perm hi
  refine vaF_ok (by rw [cuF_len hi]; omega) ((snd_iff _).2 fun x hx => ?_) ((dupD_iff _).2 ?_) (cuF_heap hi h4)
  · exact (snd_iff h).1 h2 x ((List.eraseIdx_sublist h i).subset (hp.mem_iff.1 hx))
  · rw [(hp.map Du.id).nodup_iff]
    exact ((dupD_iff h).1 h3).sublist ((List.eraseIdx_sublist h i).map _)
end Go.Proofs.Ytobimcpkhgfliaa
