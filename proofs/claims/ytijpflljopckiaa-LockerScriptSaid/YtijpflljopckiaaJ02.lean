/- What is proved here: lemmas on slices in memory that no particular program enters: a slice that reads as a list, an append of such a slice onto a row of the call's own, and its conversion to a string. Conditions: those that each lemma names; message.Validate and its reference return the first error of a message, both by one plain function; the same for checked, New; (plain functions) the zero message, what checked returns, what a valid message's numbers are; what is kept below; (plain functions) the groups of seven bits of a number, and how they are read back; (plain functions) what Decode reads; a message that lies in a block. -/
import Derived.Below
import Derived.Laws.OwnMore
import Derived.Deep.Draws
import Derived.Maps.AppendAt
import Derived.Lib.SlBytesRow
import Derived.Lib.AppendStr
import Derived.Lib.Hide
import Derived.OwnWalk
import Derived.Test.YtijpflljopckiaaRows
import Derived.WalkKit
import Derived.Outline
import Derived.IntWalk
import Derived.Laws.BitsAllLaws
import Derived.Laws.BitsLemmas
import Derived.Laws.Bits128
import Derived.Lib.ConvBytes
import Derived.Deep.AppendLies
namespace Go.Proofs.Ytijpflljopckiaa
open Go.RowKit

/-- A byte as the cell that holds it. -/
def oct (x : UInt8) : Value := .int .u8 (x.toNat : Int)

theorem add_mk (b o j : Nat) : (⟨b, o, none⟩ : Addr).add j = ⟨b, o + j, none⟩ := by unfold Addr.add; split <;> simp_all

/-- The slice '.slice A n _' of elements of 'size' cells reads as the cells xs, and lies below block B. -/
def Rd (w : World) (B size : Nat) (A : Option Addr) (n : Nat) (xs : List Value) : Prop :=
  xs.length = n * size ∧ (0 < n → ∃ b o, A = some ⟨b, o, none⟩ ∧ b < B ∧ ∀ j u, xs[j]? = some u → w.cell? ⟨b, o + j, none⟩ = some u)

section
variable {w w' : World} {B B' size n : Nat} {A : Option Addr} {xs : List Value}
theorem Rd.nil (A : Option Addr) : Rd w B size A 0 [] := ⟨by simp, fun h => absurd h (by omega)⟩
theorem Rd.keep (h : Rd w B size A n xs) (hk : ∀ p : Addr, p.block < B → w'.cell? p = w.cell? p) : Rd w' B size A n xs :=
  ⟨h.1, fun hn => by
    obtain ⟨b, o, e, hb, hc⟩ := h.2 hn
    exact ⟨b, o, e, hb, fun j u hu => (hk _ hb).trans (hc j u hu)⟩⟩
theorem Rd.more (h : Rd w B size A n xs) (hB : B ≤ B') : Rd w B' size A n xs :=
  ⟨h.1, fun hn => by
    obtain ⟨b, o, e, hb, hc⟩ := h.2 hn
    exact ⟨b, o, e, by omega, hc⟩⟩
theorem Rd.below (h : Rd w B size A n xs) (hb : Below B w w') : Rd w' B size A n xs := h.keep fun _ hp => hb.cell hp
theorem Rd.drew (h : Rd w B size A n xs) : Rd w.drew B size A n xs := h
theorem Rd.drewN (h : Rd w B size A n xs) (k : Nat) : Rd (w.drewN k) B size A n xs := h
theorem Rd.alloc (h : Rd w B size A n xs) (hB : B ≤ w.heap.size) (o : Obj) : Rd (w.alloc o) B size A n xs := h.keep fun p hp => World.cell?_alloc_lt w o p (by omega)
theorem Rd.setCell (h : Rd w B size A n xs) {p : Addr} (hB : B ≤ p.block) (u : Value) : Rd (w.setCell p u) B size A n xs :=
  h.keep fun q hq => World.cell?_setCell_other w p q u (fun e => by subst e; omega)
theorem Rd.of_own {base : Nat} {e : TypeId} {c : Nat} (h : w.ownsRow base e size (.slice A n c) n xs) : Rd w w.heap.size size A n xs := by
  refine ⟨h.1, fun hn => ?_⟩
  rcases h.2 with ⟨hv, h0⟩ | ⟨g, cap, cur, hv, _, hh, _⟩
  · omega
  · injection hv with hA _ _
    subst hA
    exact ⟨g, 0, rfl, (Array.getElem?_eq_some_iff.1 hh).1, fun j u hu => by have := h.cells (g := g) rfl j u hu; rwa [add_mk] at this⟩
/-- A new row of cells. -/
theorem Rd.fresh (w : World) (cs : Array Value) (t : TypeId) : Rd (w.alloc (.cells cs t)) (w.heap.size + 1) 1 (some ⟨w.heap.size, 0, none⟩) cs.size cs.toList :=
  ⟨by simp, fun _ => ⟨_, _, rfl, by omega, fun j u hu => by
    rw [Nat.zero_add, World.cell?_alloc_new]
    simpa using hu⟩⟩
/-- What is owned from a block on is owned from every earlier one on. -/
theorem own_low {base base' : Nat} {e : TypeId} {v : Value} (h : w.ownsRow base e size v n xs) (hb : base' ≤ base) : w.ownsRow base' e size v n xs :=
  ⟨h.1, h.2.imp_right fun ⟨g, cap, cur, hv, hg, r⟩ => ⟨g, cap, cur, hv, Nat.le_trans hb hg, r⟩⟩
/-- What the call owns is a slice. -/
theorem own_form {base : Nat} {e : TypeId} {v : Value} (h : w.ownsRow base e size v n xs) : ∃ A c, v = .slice A n c := by
  rcases h.2 with ⟨rfl, rfl⟩ | ⟨g, cap, _, rfl, _⟩
  · exact ⟨none, 0, rfl⟩
  · exact ⟨_, cap, rfl⟩
end

/-- A value that is a slice, reads as the bytes bs and lies below B. -/
def Bs (w : World) (B : Nat) (v : Value) (bs : List UInt8) : Prop := ∃ A c, v = .slice A bs.length c ∧ bs.length ≤ c ∧ c ≤ maxLen ∧ Rd w B 1 A bs.length (bs.map oct)

section
variable {w w' : World} {B B' : Nat} {v : Value} {bs : List UInt8}
theorem Bs.nil : Bs w B (.slice none 0 0) [] := ⟨none, 0, rfl, Nat.le_refl _, Nat.zero_le _, Rd.nil none⟩
theorem Bs.keep (h : Bs w B v bs) (hk : ∀ p : Addr, p.block < B → w'.cell? p = w.cell? p) : Bs w' B v bs := by
  obtain ⟨A, c, e, hl, hm, h⟩ := h; exact ⟨A, c, e, hl, hm, h.keep hk⟩
theorem Bs.more (h : Bs w B v bs) (hB : B ≤ B') : Bs w B' v bs := by
  obtain ⟨A, c, e, hl, hm, h⟩ := h; exact ⟨A, c, e, hl, hm, h.more hB⟩
theorem Bs.below (h : Bs w B v bs) (hb : Below B w w') : Bs w' B v bs := h.keep fun _ hp => hb.cell hp
theorem Bs.alloc (h : Bs w B v bs) (hB : B ≤ w.heap.size) (o : Obj) : Bs (w.alloc o) B v bs := h.keep fun p hp => World.cell?_alloc_lt w o p (by omega)
theorem Bs.setCell (h : Bs w B v bs) {p : Addr} (hB : B ≤ p.block) (u : Value) : Bs (w.setCell p u) B v bs :=
  h.keep fun q hq => World.cell?_setCell_other w p q u (fun e => by subst e; omega)
theorem Bs.fresh (w : World) (bs : List UInt8) (t : TypeId) (hm : bs.length ≤ maxLen) : Bs (w.alloc (.cells (bs.map oct).toArray t)) (w.heap.size + 1) (.slice (some ⟨w.heap.size, 0, none⟩) bs.length bs.length) bs :=
  ⟨_, _, rfl, Nat.le_refl _, hm, by have := Rd.fresh w (bs.map oct).toArray t; simpa using this⟩
/-- From the way in which the guide opens a slice of bytes that came in. -/
theorem Bs.of_cells {a : Addr} {l c : Nat} {zs : List Int} (hl : l ≤ c) (hm : c ≤ maxLen) (hz : zs.length = c) (hc : ∀ i, i < zs.length → w.cell? (a.add i) = some (.int .u8 (zs.getD i 0))) (hw : ∀ n ∈ zs, (Lit.int .u8 n).wf = true) :
    ∃ bs, Bs w w.heap.size (.slice (some a) l c) bs := by
  have hlen : ((zs.take l).map fun n => UInt8.ofNat n.toNat).length = l := by simp; omega
  refine ⟨(zs.take l).map fun n => UInt8.ofNat n.toNat, some a, c, by rw [hlen], by omega, hm, by simp, fun hn => ?_⟩
  rw [hlen] at hn
  obtain ⟨b, o, spot⟩ := a
  have h0 := hc 0 (by omega)
  have hspot : spot = none := by simpa [Addr.add] using World.cell?_spot h0
  subst hspot
  refine ⟨b, o, rfl, World.block_lt_of_cell? w ⟨b, o, none⟩ (by simpa [Addr.add] using h0), fun j u hu => ?_⟩
  simp only [List.getElem?_map, Option.map_eq_some_iff] at hu
  obtain ⟨x, ⟨n, hn', rfl⟩, rfl⟩ := hu
  obtain ⟨hj, rfl⟩ := List.getElem?_eq_some_iff.1 hn'
  have hj' : j < zs.length := by simp at hj; omega
  have h := hc j hj'
  rw [add_mk] at h
  rw [h]
  have hm : zs[j] ∈ zs := List.getElem_mem hj'
  have hb := hw _ hm
  have hb2 : 0 ≤ zs[j] ∧ zs[j] ≤ 255 := by
    simp only [Lit.wf, Bool.and_eq_true, decide_eq_true_eq] at hb
    exact hb
  have e : (zs.take l)[j] = zs[j] := by simp
  rw [e]
  simp [oct, List.getD, hj']
  omega
theorem Bs.of_own {base : Nat} {e : TypeId} {n : Nat} (h : w.ownsRow base e 1 v n (bs.map oct)) : Bs w w.heap.size v bs := by
  have hl : n = bs.length := by have := h.1; simp at this; omega
  subst hl
  rcases h.2 with ⟨hv, h0⟩ | ⟨g, cap, cur, hv, _, _, hl, hm, _⟩
  · subst hv; exact ⟨none, 0, by rw [h0], by omega, Nat.zero_le _, by rw [show bs = [] from List.length_eq_zero_iff.1 h0]; exact Rd.nil _⟩
  · subst hv; exact ⟨_, cap, rfl, hl, hm, Rd.of_own h⟩
/-- The byte at place k, and where it lies. -/
theorem Bs.at_ {A : Option Addr} {n c k : Nat} (h : Bs w B (.slice A n c) bs) (hk : k < n) : ∃ b o, A = some ⟨b, o, none⟩ ∧ b < B ∧ ∃ hb : k < bs.length, w.cell? ⟨b, o + k, none⟩ = some (.int .u8 (bs[k].toNat : Int)) := by
  obtain ⟨A', c', e, _, _, h⟩ := h
  injection e with e1 e2 e3
  subst e1; subst e2
  obtain ⟨b, o, e, hb, hc⟩ := h.2 (by omega)
  exact ⟨b, o, e, hb, hk, hc k _ (by simp [hk, oct])⟩
theorem Bs.len {A : Option Addr} {n c : Nat} (h : Bs w B (.slice A n c) bs) : n = bs.length ∧ n ≤ c ∧ c ≤ maxLen := by
  obtain ⟨A', c', e, hl, hm, h⟩ := h
  injection e with e1 e2 e3
  subst e2; subst e3
  exact ⟨rfl, hl, hm⟩
theorem Bs.rd {A : Option Addr} {n c : Nat} (h : Bs w B (.slice A n c) bs) : Rd w B 1 A n (bs.map oct) := by
  obtain ⟨A', c', e, hl, hm, h⟩ := h
  injection e with e1 e2 e3
  subst e1; subst e2
  exact h
/-- A cut 's[k:]', as the model has its address. -/
theorem Bs.cut {A : Option Addr} {n c k : Nat} (h : Bs w B (.slice A n c) bs) (hk : k ≤ n) : Bs w B (.slice (if c = k then A else A.map (·.add k)) (n - k) (c - k)) (bs.drop k) := by
  obtain ⟨hn, hl, hm⟩ := h.len
  have hr := h.rd
  refine ⟨_, c - k, by rw [List.length_drop, hn], by simp; omega, by omega, by simp, fun h0 => ?_⟩
  rw [List.length_drop] at h0
  obtain ⟨b, o, rfl, hb, hc⟩ := hr.2 (by omega)
  rw [if_neg (by omega)]
  refine ⟨b, o + k, by rw [Option.map_some, add_mk], hb, fun j u hu => ?_⟩
  rw [Nat.add_assoc]
  exact hc _ u (by rw [← hu]; simp)
end

section
variable {P : Program} (w : World)

theorem run_append_empty (base : Nat) (t ty e : TypeId) (i : TypeInfo) (size : Nat) (ht : P.underlying t = some (.slice e)) (hi : P.info? e = some i)
    (v : Value) (n : Nat) (xs : List Value) (hown : w.ownsRow base e size v n xs) (c : Nat) : (Builtin.append_ #[t, t] ty #[v, .slice none 0 c]).run P w = .ok v w := by
  rcases hown.2 with ⟨rfl, rfl⟩ | ⟨g, cap, cur, rfl, _, _, hnc, _⟩
  · simp [Builtin.append_, run_underlying ht, sizeOf, typeInfo, hi, Builtin.lenOf, Builtin.firstCells]
  · simp [Builtin.append_, run_underlying ht, sizeOf, typeInfo, hi, Builtin.lenOf, Builtin.firstCells, hnc, storeCells]

theorem run_append_rd (base : Nat) (t ty e : TypeId) (i : TypeInfo) (z : Value) (size bytes : Nat) (ht : P.underlying t = some (.slice e)) (hi : P.info? e = some i) (hz : i.zero = some z)
    (hsize : i.size = size) (hby : i.bytes = bytes) (hzs : z.cells.size = size) (hsz : 0 < size)
    (v : Value) (n : Nat) (xs : List Value) (hown : w.ownsRow base e size v n xs)
    (B : Nat) (A : Option Addr) (m c : Nat) (news : List Value) (hr : Rd w B size A m news) (h1 : ∀ u ∈ news, u.oneCell' = true)
    (h63 : n + m ≤ maxLen) (hbytes : (n + m) * bytes ≤ 140737488355328) (hbase : base ≤ w.heap.size) :
    ∃ v' w', (Builtin.append_ #[t, t] ty #[v, .slice A m c]).run P w = .ok v' w' ∧ w'.ownsRow base e size v' (n + m) (xs ++ news) ∧ w.grownBy w' v.ownBlock ∧
      (v'.ownBlock = v.ownBlock ∨ v'.ownBlock = some w.heap.size) := by
  rcases A with _ | ad
  · have hm : m = 0 := by
      rcases Nat.eq_zero_or_pos m with h0 | h0
      · exact h0
      · obtain ⟨b, o, h, _⟩ := hr.2 h0
        cases h
    subst hm
    have hn : news = [] := List.eq_nil_of_length_eq_zero (by simpa using hr.1)
    subst hn
    exact ⟨v, w, run_append_empty w base t ty e i size ht hi v n xs hown c, by simpa using hown, World.grownBy.refl w _, .inl rfl⟩
  · have hcells : ∀ j u, news[j]? = some u → w.cell? (ad.add j) = some u := by
      intro j u hu
      rcases Nat.eq_zero_or_pos m with h0 | h0
      · subst h0
        have hn : news = [] := List.eq_nil_of_length_eq_zero (by simpa using hr.1)
        subst hn
        simp at hu
      · obtain ⟨b, o, h, _, hc⟩ := hr.2 h0
        injection h with h
        subst h
        rw [add_mk]
        exact hc j u hu
    obtain ⟨v', w', hrun, h2, h3, _, h5⟩ := run_append_own_at (P := P) w base t ty e i z size bytes ht hi hz hsize hby hzs hsz v n xs hown ad m c news hr.1 hcells h1 h63 hbytes hbase
    exact ⟨v', w', hrun, h2, h3, h5⟩

theorem wp_append_rd {o : Oper} {a : Act} {K : Act → World → Prop} {Q : Exit → Act → World → Prop} (s x : Operand) (t : TypeId)
    (ho : o.op = .call { callee := .builtin .append, args := #[s, x], argTypes := #[t, t] })
    (base : Nat) (e : TypeId) (i : TypeInfo) (z : Value) (size bytes : Nat) (ht : P.underlying t = some (.slice e)) (hi : P.info? e = some i) (hz : i.zero = some z)
    (hsize : i.size = size) (hby : i.bytes = bytes) (hzs : z.cells.size = size) (hsz : 0 < size)
    (v : Value) (n : Nat) (xs : List Value) (hs : a.eval s = v) (hown : w.ownsRow base e size v n xs)
    (B : Nat) (A : Option Addr) (m c : Nat) (news : List Value) (hx : a.eval x = .slice A m c) (hr : Rd w B size A m news) (h1 : ∀ u ∈ news, u.oneCell' = true)
    (h63 : n + m ≤ maxLen) (hbytes : (n + m) * bytes ≤ 140737488355328) (hbase : base ≤ w.heap.size)
    (h : ∀ v' w', w'.ownsRow base e size v' (n + m) (xs ++ news) → w.grownBy w' v.ownBlock → (v'.ownBlock = v.ownBlock ∨ v'.ownBlock = some w.heap.size) → K (a.put o.dst v') w') : o.wp P a w K Q := by
  obtain ⟨v', w', hrun, h2, h3, h4⟩ := run_append_rd (P := P) w base t o.type e i z size bytes ht hi hz hsize hby hzs hsz v n xs hown B A m c news hr h1 h63 hbytes hbase
  unfold Oper.wp execOp
  simp only [ho, resolve, invoke, builtin, Sem.run_bind, Sem.run_pure, Result.andThen_ok, List.map_toArray, List.map_cons, List.map_nil, hs, hx, hrun]
  exact h v' w' h2 h3 h4

/-- 'append(own, read...)': one way whether the source is nil, empty or neither. -/
theorem wpList_append_rd {ops : Array Oper} {rest : List Oper} {o : Oper} {a : Act} {Q : Exit → Act → World → Prop} (hgd : o.guard = none) (s x : Operand) (t : TypeId)
    (ho : o.op = .call { callee := .builtin .append, args := #[s, x], argTypes := #[t, t] })
    (base : Nat) (e : TypeId) (i : TypeInfo) (z : Value) (size bytes : Nat) (ht : P.underlying t = some (.slice e)) (hi : P.info? e = some i) (hz : i.zero = some z)
    (hsize : i.size = size) (hby : i.bytes = bytes) (hzs : z.cells.size = size) (hsz : 0 < size)
    (v : Value) (n : Nat) (xs : List Value) (hs : a.eval s = v) (hown : w.ownsRow base e size v n xs)
    (B : Nat) (A : Option Addr) (m c : Nat) (news : List Value) (hx : a.eval x = .slice A m c) (hr : Rd w B size A m news) (h1 : ∀ u ∈ news, u.oneCell' = true)
    (h63 : n + m ≤ maxLen) (hbytes : (n + m) * bytes ≤ 140737488355328) (hbase : base ≤ w.heap.size)
    (h : ∀ v' w', w'.ownsRow base e size v' (n + m) (xs ++ news) → w.grownBy w' v.ownBlock → (v'.ownBlock = v.ownBlock ∨ v'.ownBlock = some w.heap.size) → wpList P ops Q rest (a.put o.dst v') w') : wpList P ops Q (o :: rest) a w :=
  wpList_plain hgd fun _ hK => wp_append_rd w s x t ho base e i z size bytes ht hi hz hsize hby hzs hsz v n xs hs hown B A m c news hx hr h1 h63 hbytes hbase fun v' w' h2 h3 h4 => hK _ _ (h v' w' h2 h3 h4)
end

end Go.Proofs.Ytijpflljopckiaa
namespace Go.Proofs.Ytijpflljopckiaa
open Go.RowKit
set_option linter.unusedVariables false

/-- A message: the numbers and the body. -/
structure Msg where
  id : Int
  rt : Int
  ep : Int
  ct : Int
  gn : Int
  st : Int
  bd : ByteArray

/-- The message as a value. -/
abbrev Msg.v (M : Msg) : Value := .agg #[.int .i64 M.id, .int .i64 M.rt, .int .i64 M.ep, .int .i64 M.ct, .int .i64 M.gn, .int .i64 M.st, .string M.bd]
abbrev Msg.cs (M : Msg) : Array Value := #[.int .i64 M.id, .int .i64 M.rt, .int .i64 M.ep, .int .i64 M.ct, .int .i64 M.gn, .int .i64 M.st, .string M.bd]

/-- A number is from lo to hi. -/
def wi (n lo hi : Int) : Bool := decide (lo ≤ n ∧ n ≤ hi)
theorem wi_true {n lo hi : Int} (h1 : lo ≤ n) (h2 : n ≤ hi) : wi n lo hi = true := decide_eq_true ⟨h1, h2⟩
theorem wi_low {n lo hi : Int} (h1 : n < lo) : wi n lo hi = false := decide_eq_false (by omega)
theorem wi_high {n lo hi : Int} (h1 : hi < n) : wi n lo hi = false := decide_eq_false (by omega)
theorem wi_of {n lo hi : Int} (h : wi n lo hi = true) : lo ≤ n ∧ n ≤ hi := of_decide_eq_true h

/-- The numbers of a message are in their ranges. -/
def hv (M : Msg) : Bool := wi M.id 1 1073741824 && (wi M.rt 0 65535 && (wi M.ep 0 65536 && (wi M.ct 0 8 && (wi M.gn M.ct 65536 && wi M.st 0 1073741824))))

/-- The first error of a message. -/
def vf (M : Msg) : Int := if hv M = true then (if (16 : Int) < (M.bd.size : Int) then 2 else 0) else 1

end Go.Proofs.Ytijpflljopckiaa
namespace Go.Proofs.Ytijpflljopckiaa
open Go.RowKit
set_option linter.unusedVariables false

def zM : Msg := ⟨0, 0, 0, 0, 0, 0, ByteArray.empty⟩
end Go.Proofs.Ytijpflljopckiaa
namespace Go.Proofs.Ytijpflljopckiaa
open Go.RowKit
set_option linter.unusedVariables false

/-- The groups of seven bits of n, the lowest first, at most f + 1 of them. -/
def groups : Nat → Nat → List UInt8
  | 0, n => [UInt8.ofNat n]
  | f + 1, n => if n < 128 then [UInt8.ofNat n] else UInt8.ofNat (n % 128 + 128) :: groups f (n / 128)

end Go.Proofs.Ytijpflljopckiaa
namespace Go.Proofs.Ytijpflljopckiaa
open Go.RowKit
set_option linter.unusedVariables false

/-- Block g holds a message. -/
def MAt (w : World) (g : Nat) (f : Nat → Int) (b : ByteArray) : Prop :=
  g < w.heap.size ∧ (∀ j, j < 6 → w.cell? ⟨g, j, none⟩ = some (.int .i64 (f j))) ∧ w.cell? ⟨g, 6, none⟩ = some (.string b) ∧ ∀ o, o < 7 → w.frozen? ⟨g, o, none⟩ = false

section
variable {w w' : World} {g B : Nat} {f : Nat → Int} {b : ByteArray}
theorem MAt.fresh (w : World) (x0 x1 x2 x3 x4 x5 : Int) (b : ByteArray) (t : TypeId) (h0 : f 0 = x0) (h1 : f 1 = x1) (h2 : f 2 = x2) (h3 : f 3 = x3) (h4 : f 4 = x4) (h5 : f 5 = x5) : MAt (w.alloc (.cells #[.int .i64 x0, .int .i64 x1, .int .i64 x2, .int .i64 x3, .int .i64 x4, .int .i64 x5, .string b] t)) w.heap.size f b := by
  subst h0; subst h1; subst h2; subst h3; subst h4; subst h5
  refine ⟨by simp, fun j hj => ?_, by simp [go_sem], fun o ho => by simp [go_sem]⟩
  match j, hj with
  | 0, _ => simp [go_sem]
  | 1, _ => simp [go_sem]
  | 2, _ => simp [go_sem]
  | 3, _ => simp [go_sem]
  | 4, _ => simp [go_sem]
  | 5, _ => simp [go_sem]
theorem MAt.below (h : MAt w g f b) (hb : Below B w w') (hg : g < B) : MAt w' g f b :=
  ⟨Nat.lt_of_lt_of_le h.1 hb.size, fun j hj => (hb.cell (p := ⟨g, j, none⟩) hg).trans (h.2.1 j hj), (hb.cell (p := ⟨g, 6, none⟩) hg).trans h.2.2.1, fun o ho => (hb.frozen (p := ⟨g, o, none⟩) hg).trans (h.2.2.2 o ho)⟩
theorem MAt.grown (h : MAt w g f b) {r : Nat} (hg : w.grownBy w' (some r)) (hne : g ≠ r) : MAt w' g f b :=
  ⟨Nat.lt_of_lt_of_le h.1 hg.size, fun j hj => (hg.cell_far ⟨g, j, none⟩ h.1 (fun e => hne (by injection e))).trans (h.2.1 j hj), (hg.cell_far ⟨g, 6, none⟩ h.1 (fun e => hne (by injection e))).trans h.2.2.1, fun o ho => (hg.frozen_far ⟨g, o, none⟩ h.1 (fun e => hne (by injection e))).trans (h.2.2.2 o ho)⟩
theorem MAt.alloc (h : MAt w g f b) (o : Obj) : MAt (w.alloc o) g f b := h.below (w' := w.alloc o) ((Below.refl w.heap.size w).alloc (Nat.le_refl _) o) h.1
theorem MAt.other (h : MAt w g f b) {p : Addr} (hp : p.block ≠ g) (v : Value) : MAt (w.setCell p v) g f b :=
  ⟨by simpa using h.1, fun j hj => (World.cell?_setCell_other w p ⟨g, j, none⟩ v (fun e => hp (by rw [e]))).trans (h.2.1 j hj), (World.cell?_setCell_other w p ⟨g, 6, none⟩ v (fun e => hp (by rw [e]))).trans h.2.2.1, fun o ho => by rw [World.frozen?_setCell]; exact h.2.2.2 o ho⟩
theorem MAt.put (h : MAt w g f b) (k : Nat) (hk : k < 6) (n : Int) : MAt (w.setCell ⟨g, k, none⟩ (.int .i64 n)) g (fun j => if j = k then n else f j) b := by
  refine ⟨by simpa using h.1, fun j hj => ?_, ?_, fun o ho => by rw [World.frozen?_setCell]; exact h.2.2.2 o ho⟩
  · by_cases e : j = k
    · subst e
      have := h.2.1 j hj
      simp [go_sem, this]
    · show _ = some (Value.int .i64 (if j = k then n else f j))
      rw [if_neg e]
      exact (World.cell?_setCell_other w _ _ _ (fun he => by injection he; omega)).trans (h.2.1 j hj)
  · exact (World.cell?_setCell_other w _ _ _ (fun he => by injection he; omega)).trans h.2.2.1
theorem MAt.body (h : MAt w g f b) (s : ByteArray) : MAt (w.setCell ⟨g, 6, none⟩ (.string s)) g f s := by
  refine ⟨by simpa using h.1, fun j hj => (World.cell?_setCell_other w _ _ _ (fun he => by injection he; omega)).trans (h.2.1 j hj), ?_, fun o ho => by rw [World.frozen?_setCell]; exact h.2.2.2 o ho⟩
  have := h.2.2.1
  simp [go_sem, this]
/-- All that the walk asks of it. -/
theorem MAt.facts (h : MAt w g f b) : (w.cell? ⟨g, 0, none⟩ = some (.int .i64 (f 0)) ∧ w.cell? ⟨g, 1, none⟩ = some (.int .i64 (f 1)) ∧ w.cell? ⟨g, 2, none⟩ = some (.int .i64 (f 2)) ∧ w.cell? ⟨g, 3, none⟩ = some (.int .i64 (f 3)) ∧ w.cell? ⟨g, 4, none⟩ = some (.int .i64 (f 4)) ∧ w.cell? ⟨g, 5, none⟩ = some (.int .i64 (f 5)) ∧ w.cell? ⟨g, 6, none⟩ = some (.string b)) ∧
    (w.frozen? ⟨g, 0, none⟩ = false ∧ w.frozen? ⟨g, 1, none⟩ = false ∧ w.frozen? ⟨g, 2, none⟩ = false ∧ w.frozen? ⟨g, 3, none⟩ = false ∧ w.frozen? ⟨g, 4, none⟩ = false ∧ w.frozen? ⟨g, 5, none⟩ = false ∧ w.frozen? ⟨g, 6, none⟩ = false) :=
  ⟨⟨h.2.1 0 (by omega), h.2.1 1 (by omega), h.2.1 2 (by omega), h.2.1 3 (by omega), h.2.1 4 (by omega), h.2.1 5 (by omega), h.2.2.1⟩, h.2.2.2 0 (by omega), h.2.2.2 1 (by omega), h.2.2.2 2 (by omega), h.2.2.2 3 (by omega), h.2.2.2 4 (by omega), h.2.2.2 5 (by omega), h.2.2.2 6 (by omega)⟩
/-- Block g holds six numbers. -/
def NAt (w : World) (g : Nat) (f : Nat → Int) : Prop :=
  g < w.heap.size ∧ (∀ j, j < 6 → w.cell? ⟨g, j, none⟩ = some (.int .i64 (f j))) ∧ ∀ o, o < 6 → w.frozen? ⟨g, o, none⟩ = false
theorem NAt.fresh (w : World) (t : TypeId) : NAt (w.alloc (.cells #[.int .i64 0, .int .i64 0, .int .i64 0, .int .i64 0, .int .i64 0, .int .i64 0] t)) w.heap.size (fun _ => 0) := by
  refine ⟨by simp, fun j hj => ?_, fun o ho => by simp [go_sem]⟩
  match j, hj with
  | 0, _ => simp [go_sem]
  | 1, _ => simp [go_sem]
  | 2, _ => simp [go_sem]
  | 3, _ => simp [go_sem]
  | 4, _ => simp [go_sem]
  | 5, _ => simp [go_sem]
theorem NAt.below (h : NAt w g f) (hb : Below B w w') (hg : g < B) : NAt w' g f :=
  ⟨Nat.lt_of_lt_of_le h.1 hb.size, fun j hj => (hb.cell (p := ⟨g, j, none⟩) hg).trans (h.2.1 j hj), fun o ho => (hb.frozen (p := ⟨g, o, none⟩) hg).trans (h.2.2 o ho)⟩
theorem NAt.alloc (h : NAt w g f) (o : Obj) : NAt (w.alloc o) g f := h.below (w' := w.alloc o) ((Below.refl w.heap.size w).alloc (Nat.le_refl _) o) h.1
theorem NAt.put (h : NAt w g f) (k : Nat) (hk : k < 6) (n : Int) : NAt (w.setCell ⟨g, k, none⟩ (.int .i64 n)) g (fun j => if j = k then n else f j) := by
  refine ⟨by simpa using h.1, fun j hj => ?_, fun o ho => by rw [World.frozen?_setCell]; exact h.2.2 o ho⟩
  by_cases e : j = k
  · subst e
    have := h.2.1 j hj
    simp [go_sem, this]
  · show _ = some (Value.int .i64 (if j = k then n else f j))
    rw [if_neg e]
    exact (World.cell?_setCell_other w _ _ _ (fun he => by injection he; omega)).trans (h.2.1 j hj)
theorem NAt.facts (h : NAt w g f) : w.cell? ⟨g, 0, none⟩ = some (.int .i64 (f 0)) ∧ w.cell? ⟨g, 1, none⟩ = some (.int .i64 (f 1)) ∧ w.cell? ⟨g, 2, none⟩ = some (.int .i64 (f 2)) ∧ w.cell? ⟨g, 3, none⟩ = some (.int .i64 (f 3)) ∧ w.cell? ⟨g, 4, none⟩ = some (.int .i64 (f 4)) ∧ w.cell? ⟨g, 5, none⟩ = some (.int .i64 (f 5)) :=
  ⟨h.2.1 0 (by omega), h.2.1 1 (by omega), h.2.1 2 (by omega), h.2.1 3 (by omega), h.2.1 4 (by omega), h.2.1 5 (by omega)⟩
end

end Go.Proofs.Ytijpflljopckiaa
