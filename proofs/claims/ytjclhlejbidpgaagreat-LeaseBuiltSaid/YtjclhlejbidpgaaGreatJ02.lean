/- What is proved here: Tbe; lemmas on slices in memory that no particular program enters: a slice that reads as a list, an append of such a slice onto a row of the call's own, and its conversion to a string. Conditions: those that each lemma names; the cell of a byte in this program. -/
import Derived.Test.YtjclhlejbidpgaaGreatJ01
import Derived.Below
import Derived.Laws.OwnMore
import Derived.Deep.Draws
import Derived.Maps.AppendAt
import Derived.Lib.SlBytesRow
import Derived.Lib.AppendStr
import Derived.Lib.Hide
import Derived.OwnWalk
import Derived.Test.YtjclhlejbidpgaaGreatRows
import Derived.WalkKit
import Derived.Outline
import Derived.IntWalk
/- Plain: tables: a list of deadlines in ascending order of the IDs, and a heap that consists of its elements. -/
namespace Go.Proofs.YtjclhlejbidpgaaGreat
set_option linter.unusedVariables false

theorem du_ext {a b : Du} (h1 : a.dl = b.dl) (h2 : a.id = b.id) : a = b := by cases a; cases b; cases h1; cases h2; rfl
instance : DecidableEq Du := fun a b => if h : a.dl = b.dl ∧ a.id = b.id then isTrue (du_ext h.1 h.2) else isFalse fun e => h (by subst e; exact ⟨rfl, rfl⟩)
/-- A list without duplicates whose elements are all in another one that is not longer is that one, in some order. -/
theorem perm_of_sub : ∀ {h K : List Du}, h.Nodup → (∀ d ∈ h, d ∈ K) → K.length ≤ h.length → h.Perm K
  | [], K, _, _, hl => by
    have : K = [] := List.eq_nil_of_length_eq_zero (Nat.le_zero.1 hl)
    subst this; exact List.Perm.refl _
  | d :: h, K, hn, hs, hl => by
    have hd := hs d (List.mem_cons_self ..)
    have hp := List.perm_cons_erase hd
    obtain ⟨h1, h2⟩ := List.nodup_cons.1 hn
    have hk : (K.erase d).length + 1 = K.length := hp.length_eq.symm
    have ih := perm_of_sub (h := h) (K := K.erase d) h2 (fun x hx => (List.mem_erase_of_ne (fun e => by subst e; exact h1 hx)).2 (hs x (List.mem_cons_of_mem _ hx))) (by simp only [List.length_cons] at hl; omega)
    exact (ih.cons d).trans hp.symm
/-- The heap consists of the list's elements. -/
def ofT (K h : List Du) : Bool := decide (h.length = K.length ∧ ∀ d ∈ h, d ∈ K)
theorem ofT_iff {K h : List Du} : ofT K h = true ↔ h.length = K.length ∧ ∀ d ∈ h, d ∈ K := decide_eq_true_iff
theorem nodup_of_ids {h : List Du} (hn : (h.map Du.id).Nodup) : h.Nodup := (List.pairwise_map.1 hn).imp fun h e => h (by rw [e])
theorem ofT_perm {K h : List Du} (hn : (h.map Du.id).Nodup) : ofT K h = true ↔ h.Perm K := by
  refine ofT_iff.trans ⟨fun ⟨h1, h2⟩ => perm_of_sub (nodup_of_ids hn) h2 (by omega), fun h => ⟨h.length_eq, fun d hd => h.mem_iff.1 hd⟩⟩
/-- A pair is in the list just if the search finds its ID with its deadline. -/
theorem mem_kFi {K : List Du} (hK : Asc Du.id K) (d : Du) : d ∈ K ↔ ∃ (k : Nat) (hk : k < K.length), kFi Du.id K d.id = k ∧ K[k].dl = d.dl := by
  constructor
  · intro hd
    obtain ⟨k, hk, e⟩ := List.mem_iff_getElem.1 hd
    exact ⟨k, hk, hK.hit hk (by rw [e]), by rw [e]⟩
  · rintro ⟨k, hk, e1, e2⟩
    rcases kFi_cases Du.id K d.id with ⟨e, _⟩ | ⟨k', hk', e, e3, _⟩
    · rw [e] at e1; omega
    · obtain rfl : k = k' := by rw [e] at e1; omega
      rw [← du_ext e2 e3]; exact List.getElem_mem hk
theorem not_mem_kFi {K : List Du} (hK : Asc Du.id K) {d : Du} (h : kFi Du.id K d.id < 0) : ¬ d ∈ K := fun hd => by
  obtain ⟨k, _, e, _⟩ := (mem_kFi hK d).1 hd
  omega

/-! ### What the functions of a table make of its heap -/
theorem tb_push {K h : List Du} (hp : h.Perm K) (d : Du) : (hpu h d).Perm (kIns Du.id K d) := (puF_perm h d).trans ((hp.cons d).trans (kIns_perm K d).symm)
theorem erase_perm {l : List Du} {i : Nat} (hi : i < l.length) : l.Perm (l[i] :: l.eraseIdx i) := by
  have h := set_perm l[i] l i hi
  rwa [List.set_getElem_self] at h
theorem tb_cut {K h : List Du} (hp : h.Perm K) {i k : Nat} (hi : i < h.length) (hk : k < K.length) (e : ge h i = K[k]) : (cuF h i).Perm (K.eraseIdx k) := by
  refine (cuF_perm hi).trans (List.Perm.cons_inv (a := K[k]) ?_)
  have h1 := erase_perm hi
  rw [ge_get hi, e] at h1
  exact h1.symm.trans (hp.trans (erase_perm hk))
theorem tb_set {K h : List Du} (hp : h.Perm K) {i k : Nat} (hi : i < h.length) (hk : k < K.length) (e : ge h i = K[k]) (d : Du) : (hpu (cuF h i) d).Perm (K.set k d) :=
  (puF_perm _ d).trans (((tb_cut hp hi hk e).cons d).trans (set_perm d K k hk).symm)
/-- Where an element of the list lies in the heap. -/
theorem tb_at {K h : List Du} (hp : h.Perm K) {k : Nat} (hk : k < K.length) (hn : (h.map Du.id).Nodup) : ∃ i, i < h.length ∧ ge h i = K[k] ∧ ixD h K[k].id = i := by
  obtain ⟨i, hi, e⟩ := List.mem_iff_getElem.1 (hp.mem_iff.2 (List.getElem_mem hk))
  rw [ge_get hi] at e
  refine ⟨i, hi, e, ixD_hit hi (by rw [e]) fun j hj e' => ?_⟩
  rw [← e] at e'
  have := (List.pairwise_map.1 hn)
  have h2 := List.pairwise_iff_getElem.1 this j i (by omega) hi hj
  rw [ge_get (by omega), ge_get hi] at h2
  exact h2 e'
theorem tb_no {K h : List Du} (hp : h.Perm K) {x : Int} (hx : kFi Du.id K x < 0) : ixD h x = -1 := by
  refine ixD_neg fun h0 => ?_
  obtain ⟨d, hd, e⟩ := (ixD_ge h x).1 h0
  have := kFi_ge.2 ⟨d, hp.mem_iff.1 hd, e⟩
  omega

/-! ### Lapsed -/
/-- The IDs of what is due, without those that do not count. -/
def laF (h : List Du) (now : Int) (p : Int → Bool) : List Int := (unF h now).filter p
theorem laF_mem {K h : List Du} (hp : h.Perm K) (hh : Hp h) (hK : Asc Du.id K) (now : Int) (p : Int → Bool) {d : Du} (hd : d ∈ K) : d.id ∈ laF h now p ↔ d.dl ≤ now ∧ p d.id = true := by
  unfold laF
  rw [List.mem_filter, unF_mem hh]
  refine and_congr_left fun _ => ⟨fun ⟨x, hx, h1, h2⟩ => ?_, fun h1 => ⟨d, hp.mem_iff.2 hd, h1, rfl⟩⟩
  obtain ⟨i, hi, e1⟩ := List.mem_iff_getElem.1 (hp.mem_iff.1 hx)
  obtain ⟨j, hj, e2⟩ := List.mem_iff_getElem.1 hd
  have := hK.inj hi hj (by rw [e1, e2, h2])
  subst this
  rw [← e2, e1]; exact h1
theorem laF_len {K h : List Du} (hp : h.Perm K) (hh : Hp h) (now : Int) (p : Int → Bool) : (laF h now p).length = (K.filter (fun d => decide (d.dl ≤ now) && p d.id)).length := by
  unfold laF
  rw [((unF_perm h now hh).filter p).length_eq, List.filter_map, List.length_map, List.filter_filter]
  refine ((hp.filter _).length_eq).trans (congrArg List.length ?_)
  congr 1
  funext d
  exact Bool.and_comm _ _
/-- The same of the first i elements: what a loop over the list counts. -/
def laN (K : List Du) (now : Int) (p : Int → Bool) (i : Nat) : Nat := ((K.take i).filter (fun d => decide (d.dl ≤ now) && p d.id)).length
theorem laN_zero (K : List Du) (now : Int) (p : Int → Bool) : laN K now p 0 = 0 := by simp [laN]
theorem laN_succ {K : List Du} {now : Int} {p : Int → Bool} {i : Nat} (hi : i < K.length) : laN K now p (i + 1) = laN K now p i + if K[i].dl ≤ now ∧ p K[i].id = true then 1 else 0 := by
  unfold laN
  rw [← List.take_append_getElem hi, List.filter_append, List.length_append]
  congr 1
  by_cases h : K[i].dl ≤ now ∧ p K[i].id = true
  · rw [if_pos h]; simp [h.1, h.2]
  · rw [if_neg h, List.filter_cons_of_neg (by simpa using h)]; rfl
theorem laN_all {K h : List Du} (hp : h.Perm K) (hh : Hp h) (now : Int) (p : Int → Bool) : laN K now p K.length = (laF h now p).length := by
  rw [laF_len hp hh]; unfold laN; rw [List.take_length]
end Go.Proofs.YtjclhlejbidpgaaGreat
namespace Go.Proofs.YtjclhlejbidpgaaGreat
open Go.RowKit

/-- A byte as the cell that holds it. -/
def oct (x : UInt8) : Value := .int .u8 (x.toNat : Int)

theorem add_mk (b o j : Nat) : (⟨b, o, none⟩ : Addr).add j = ⟨b, o + j, none⟩ := by unfold Addr.add; split <;> simp_all

/-- The slice '.slice A n _' of elements of 'size' cells reads as the cells xs, and lies below block B. -/
def Rd (w : World) (B size : Nat) (A : Option Addr) (n : Nat) (xs : List Value) : Prop :=
  xs.length = n * size ∧ (0 < n → ∃ b o, A = some ⟨b, o, none⟩ ∧ b < B ∧ ∀ j u, xs[j]? = some u → w.cell? ⟨b, o + j, none⟩ = some u)

section
variable {w w' : World} {B B' size n : Nat} {A : Option Addr} {xs : List Value}
theorem Rd.nil (A : Option Addr) : Rd w B size A 0 [] := ⟨by simp, fun h => absurd h (by omega)⟩
theorem Rd.keep (h : Rd w B size A n xs) (hk : ∀ p : Addr, p.block < B → w'.cell? p = w.cell? p) : Rd w' B size A n xs :=
  ⟨h.1, fun hn => by
    obtain ⟨b, o, e, hb, hc⟩ := h.2 hn
    exact ⟨b, o, e, hb, fun j u hu => (hk _ hb).trans (hc j u hu)⟩⟩
theorem Rd.more (h : Rd w B size A n xs) (hB : B ≤ B') : Rd w B' size A n xs :=
  ⟨h.1, fun hn => by
    obtain ⟨b, o, e, hb, hc⟩ := h.2 hn
    exact ⟨b, o, e, by omega, hc⟩⟩
theorem Rd.below (h : Rd w B size A n xs) (hb : Below B w w') : Rd w' B size A n xs := h.keep fun _ hp => hb.cell hp
theorem Rd.drew (h : Rd w B size A n xs) : Rd w.drew B size A n xs := h
theorem Rd.drewN (h : Rd w B size A n xs) (k : Nat) : Rd (w.drewN k) B size A n xs := h
theorem Rd.alloc (h : Rd w B size A n xs) (hB : B ≤ w.heap.size) (o : Obj) : Rd (w.alloc o) B size A n xs := h.keep fun p hp => World.cell?_alloc_lt w o p (by omega)
theorem Rd.setCell (h : Rd w B size A n xs) {p : Addr} (hB : B ≤ p.block) (u : Value) : Rd (w.setCell p u) B size A n xs :=
  h.keep fun q hq => World.cell?_setCell_other w p q u (fun e => by subst e; omega)
theorem Rd.of_own {base : Nat} {e : TypeId} {c : Nat} (h : w.ownsRow base e size (.slice A n c) n xs) : Rd w w.heap.size size A n xs := by
  refine ⟨h.1, fun hn => ?_⟩
  rcases h.2 with ⟨hv, h0⟩ | ⟨g, cap, cur, hv, _, hh, _⟩
  · omega
  · injection hv with hA _ _
    subst hA
    exact ⟨g, 0, rfl, (Array.getElem?_eq_some_iff.1 hh).1, fun j u hu => by have := h.cells (g := g) rfl j u hu; rwa [add_mk] at this⟩
/-- A new row of cells. -/
theorem Rd.fresh (w : World) (cs : Array Value) (t : TypeId) : Rd (w.alloc (.cells cs t)) (w.heap.size + 1) 1 (some ⟨w.heap.size, 0, none⟩) cs.size cs.toList :=
  ⟨by simp, fun _ => ⟨_, _, rfl, by omega, fun j u hu => by
    rw [Nat.zero_add, World.cell?_alloc_new]
    simpa using hu⟩⟩
/-- What is owned from a block on is owned from every earlier one on. -/
theorem own_low {base base' : Nat} {e : TypeId} {v : Value} (h : w.ownsRow base e size v n xs) (hb : base' ≤ base) : w.ownsRow base' e size v n xs :=
  ⟨h.1, h.2.imp_right fun ⟨g, cap, cur, hv, hg, r⟩ => ⟨g, cap, cur, hv, Nat.le_trans hb hg, r⟩⟩
/-- What the call owns is a slice. -/
theorem own_form {base : Nat} {e : TypeId} {v : Value} (h : w.ownsRow base e size v n xs) : ∃ A c, v = .slice A n c := by
  rcases h.2 with ⟨rfl, rfl⟩ | ⟨g, cap, _, rfl, _⟩
  · exact ⟨none, 0, rfl⟩
  · exact ⟨_, cap, rfl⟩
end

/-- A value that is a slice, reads as the bytes bs and lies below B. -/
def Bs (w : World) (B : Nat) (v : Value) (bs : List UInt8) : Prop := ∃ A c, v = .slice A bs.length c ∧ bs.length ≤ c ∧ c ≤ maxLen ∧ Rd w B 1 A bs.length (bs.map oct)

section
variable {w w' : World} {B B' : Nat} {v : Value} {bs : List UInt8}
theorem Bs.nil : Bs w B (.slice none 0 0) [] := ⟨none, 0, rfl, Nat.le_refl _, Nat.zero_le _, Rd.nil none⟩
theorem Bs.keep (h : Bs w B v bs) (hk : ∀ p : Addr, p.block < B → w'.cell? p = w.cell? p) : Bs w' B v bs := by
  obtain ⟨A, c, e, hl, hm, h⟩ := h; exact ⟨A, c, e, hl, hm, h.keep hk⟩
theorem Bs.more (h : Bs w B v bs) (hB : B ≤ B') : Bs w B' v bs := by
  obtain ⟨A, c, e, hl, hm, h⟩ := h; exact ⟨A, c, e, hl, hm, h.more hB⟩
theorem Bs.below (h : Bs w B v bs) (hb : Below B w w') : Bs w' B v bs := h.keep fun _ hp => hb.cell hp
theorem Bs.alloc (h : Bs w B v bs) (hB : B ≤ w.heap.size) (o : Obj) : Bs (w.alloc o) B v bs := h.keep fun p hp => World.cell?_alloc_lt w o p (by omega)
theorem Bs.setCell (h : Bs w B v bs) {p : Addr} (hB : B ≤ p.block) (u : Value) : Bs (w.setCell p u) B v bs :=
  h.keep fun q hq => World.cell?_setCell_other w p q u (fun e => by subst e; omega)
theorem Bs.fresh (w : World) (bs : List UInt8) (t : TypeId) (hm : bs.length ≤ maxLen) : Bs (w.alloc (.cells (bs.map oct).toArray t)) (w.heap.size + 1) (.slice (some ⟨w.heap.size, 0, none⟩) bs.length bs.length) bs :=
  ⟨_, _, rfl, Nat.le_refl _, hm, by have := Rd.fresh w (bs.map oct).toArray t; simpa using this⟩
/-- From the way in which the guide opens a slice of bytes that came in. -/
theorem Bs.of_cells {a : Addr} {l c : Nat} {zs : List Int} (hl : l ≤ c) (hm : c ≤ maxLen) (hz : zs.length = c) (hc : ∀ i, i < zs.length → w.cell? (a.add i) = some (.int .u8 (zs.getD i 0))) (hw : ∀ n ∈ zs, (Lit.int .u8 n).wf = true) :
    ∃ bs, Bs w w.heap.size (.slice (some a) l c) bs := by
  have hlen : ((zs.take l).map fun n => UInt8.ofNat n.toNat).length = l := by simp; omega
  refine ⟨(zs.take l).map fun n => UInt8.ofNat n.toNat, some a, c, by rw [hlen], by omega, hm, by simp, fun hn => ?_⟩
  rw [hlen] at hn
  obtain ⟨b, o, spot⟩ := a
  have h0 := hc 0 (by omega)
  have hspot : spot = none := by simpa [Addr.add] using World.cell?_spot h0
  subst hspot
  refine ⟨b, o, rfl, World.block_lt_of_cell? w ⟨b, o, none⟩ (by simpa [Addr.add] using h0), fun j u hu => ?_⟩
  simp only [List.getElem?_map, Option.map_eq_some_iff] at hu
  obtain ⟨x, ⟨n, hn', rfl⟩, rfl⟩ := hu
  obtain ⟨hj, rfl⟩ := List.getElem?_eq_some_iff.1 hn'
  have hj' : j < zs.length := by simp at hj; omega
  have h := hc j hj'
  rw [add_mk] at h
  rw [h]
  have hm : zs[j] ∈ zs := List.getElem_mem hj'
  have hb := hw _ hm
  have hb2 : 0 ≤ zs[j] ∧ zs[j] ≤ 255 := by
    simp only [Lit.wf, Bool.and_eq_true, decide_eq_true_eq] at hb
    exact hb
  have e : (zs.take l)[j] = zs[j] := by simp
  rw [e]
  simp [oct, List.getD, hj']
  omega
theorem Bs.of_own {base : Nat} {e : TypeId} {n : Nat} (h : w.ownsRow base e 1 v n (bs.map oct)) : Bs w w.heap.size v bs := by
  have hl : n = bs.length := by have := h.1; simp at this; omega
  subst hl
  rcases h.2 with ⟨hv, h0⟩ | ⟨g, cap, cur, hv, _, _, hl, hm, _⟩
  · subst hv; exact ⟨none, 0, by rw [h0], by omega, Nat.zero_le _, by rw [show bs = [] from List.length_eq_zero_iff.1 h0]; exact Rd.nil _⟩
  · subst hv; exact ⟨_, cap, rfl, hl, hm, Rd.of_own h⟩
/-- The byte at place k, and where it lies. -/
theorem Bs.at_ {A : Option Addr} {n c k : Nat} (h : Bs w B (.slice A n c) bs) (hk : k < n) : ∃ b o, A = some ⟨b, o, none⟩ ∧ b < B ∧ ∃ hb : k < bs.length, w.cell? ⟨b, o + k, none⟩ = some (.int .u8 (bs[k].toNat : Int)) := by
  obtain ⟨A', c', e, _, _, h⟩ := h
  injection e with e1 e2 e3
  subst e1; subst e2
  obtain ⟨b, o, e, hb, hc⟩ := h.2 (by omega)
  exact ⟨b, o, e, hb, hk, hc k _ (by simp [hk, oct])⟩
theorem Bs.len {A : Option Addr} {n c : Nat} (h : Bs w B (.slice A n c) bs) : n = bs.length ∧ n ≤ c ∧ c ≤ maxLen := by
  obtain ⟨A', c', e, hl, hm, h⟩ := h
  injection e with e1 e2 e3
  subst e2; subst e3
  exact ⟨rfl, hl, hm⟩
theorem Bs.rd {A : Option Addr} {n c : Nat} (h : Bs w B (.slice A n c) bs) : Rd w B 1 A n (bs.map oct) := by
  obtain ⟨A', c', e, hl, hm, h⟩ := h
  injection e with e1 e2 e3
  subst e1; subst e2
  exact h
/-- A cut 's[k:]', as the model has its address. -/
theorem Bs.cut {A : Option Addr} {n c k : Nat} (h : Bs w B (.slice A n c) bs) (hk : k ≤ n) : Bs w B (.slice (if c = k then A else A.map (·.add k)) (n - k) (c - k)) (bs.drop k) := by
  obtain ⟨hn, hl, hm⟩ := h.len
  have hr := h.rd
  refine ⟨_, c - k, by rw [List.length_drop, hn], by simp; omega, by omega, by simp, fun h0 => ?_⟩
  rw [List.length_drop] at h0
  obtain ⟨b, o, rfl, hb, hc⟩ := hr.2 (by omega)
  rw [if_neg (by omega)]
  refine ⟨b, o + k, by rw [Option.map_some, add_mk], hb, fun j u hu => ?_⟩
  rw [Nat.add_assoc]
  exact hc _ u (by rw [← hu]; simp)
end

section
variable {P : Program} (w : World)

theorem run_append_empty (base : Nat) (t ty e : TypeId) (i : TypeInfo) (size : Nat) (ht : P.underlying t = some (.slice e)) (hi : P.info? e = some i)
    (v : Value) (n : Nat) (xs : List Value) (hown : w.ownsRow base e size v n xs) (c : Nat) : (Builtin.append_ #[t, t] ty #[v, .slice none 0 c]).run P w = .ok v w := by
  rcases hown.2 with ⟨rfl, rfl⟩ | ⟨g, cap, cur, rfl, _, _, hnc, _⟩
  · simp [Builtin.append_, run_underlying ht, sizeOf, typeInfo, hi, Builtin.lenOf, Builtin.firstCells]
  · simp [Builtin.append_, run_underlying ht, sizeOf, typeInfo, hi, Builtin.lenOf, Builtin.firstCells, hnc, storeCells]

theorem run_append_rd (base : Nat) (t ty e : TypeId) (i : TypeInfo) (z : Value) (size bytes : Nat) (ht : P.underlying t = some (.slice e)) (hi : P.info? e = some i) (hz : i.zero = some z)
    (hsize : i.size = size) (hby : i.bytes = bytes) (hzs : z.cells.size = size) (hsz : 0 < size)
    (v : Value) (n : Nat) (xs : List Value) (hown : w.ownsRow base e size v n xs)
    (B : Nat) (A : Option Addr) (m c : Nat) (news : List Value) (hr : Rd w B size A m news) (h1 : ∀ u ∈ news, u.oneCell' = true)
    (h63 : n + m ≤ maxLen) (hbytes : (n + m) * bytes ≤ 140737488355328) (hbase : base ≤ w.heap.size) :
    ∃ v' w', (Builtin.append_ #[t, t] ty #[v, .slice A m c]).run P w = .ok v' w' ∧ w'.ownsRow base e size v' (n + m) (xs ++ news) ∧ w.grownBy w' v.ownBlock ∧
      (v'.ownBlock = v.ownBlock ∨ v'.ownBlock = some w.heap.size) := by
  rcases A with _ | ad
  · have hm : m = 0 := by
      rcases Nat.eq_zero_or_pos m with h0 | h0
      · exact h0
      · obtain ⟨b, o, h, _⟩ := hr.2 h0
        cases h
    subst hm
    have hn : news = [] := List.eq_nil_of_length_eq_zero (by simpa using hr.1)
    subst hn
    exact ⟨v, w, run_append_empty w base t ty e i size ht hi v n xs hown c, by simpa using hown, World.grownBy.refl w _, .inl rfl⟩
  · have hcells : ∀ j u, news[j]? = some u → w.cell? (ad.add j) = some u := by
      intro j u hu
      rcases Nat.eq_zero_or_pos m with h0 | h0
      · subst h0
        have hn : news = [] := List.eq_nil_of_length_eq_zero (by simpa using hr.1)
        subst hn
        simp at hu
      · obtain ⟨b, o, h, _, hc⟩ := hr.2 h0
        injection h with h
        subst h
        rw [add_mk]
        exact hc j u hu
    obtain ⟨v', w', hrun, h2, h3, _, h5⟩ := run_append_own_at (P := P) w base t ty e i z size bytes ht hi hz hsize hby hzs hsz v n xs hown ad m c news hr.1 hcells h1 h63 hbytes hbase
    exact ⟨v', w', hrun, h2, h3, h5⟩

theorem wp_append_rd {o : Oper} {a : Act} {K : Act → World → Prop} {Q : Exit → Act → World → Prop} (s x : Operand) (t : TypeId)
    (ho : o.op = .call { callee := .builtin .append, args := #[s, x], argTypes := #[t, t] })
    (base : Nat) (e : TypeId) (i : TypeInfo) (z : Value) (size bytes : Nat) (ht : P.underlying t = some (.slice e)) (hi : P.info? e = some i) (hz : i.zero = some z)
    (hsize : i.size = size) (hby : i.bytes = bytes) (hzs : z.cells.size = size) (hsz : 0 < size)
    (v : Value) (n : Nat) (xs : List Value) (hs : a.eval s = v) (hown : w.ownsRow base e size v n xs)
    (B : Nat) (A : Option Addr) (m c : Nat) (news : List Value) (hx : a.eval x = .slice A m c) (hr : Rd w B size A m news) (h1 : ∀ u ∈ news, u.oneCell' = true)
    (h63 : n + m ≤ maxLen) (hbytes : (n + m) * bytes ≤ 140737488355328) (hbase : base ≤ w.heap.size)
    (h : ∀ v' w', w'.ownsRow base e size v' (n + m) (xs ++ news) → w.grownBy w' v.ownBlock → (v'.ownBlock = v.ownBlock ∨ v'.ownBlock = some w.heap.size) → K (a.put o.dst v') w') : o.wp P a w K Q := by
  obtain ⟨v', w', hrun, h2, h3, h4⟩ := run_append_rd (P := P) w base t o.type e i z size bytes ht hi hz hsize hby hzs hsz v n xs hown B A m c news hr h1 h63 hbytes hbase
  unfold Oper.wp execOp
  simp only [ho, resolve, invoke, builtin, Sem.run_bind, Sem.run_pure, Result.andThen_ok, List.map_toArray, List.map_cons, List.map_nil, hs, hx, hrun]
  exact h v' w' h2 h3 h4

/-- 'append(own, read...)': one way whether the source is nil, empty or neither. -/
theorem wpList_append_rd {ops : Array Oper} {rest : List Oper} {o : Oper} {a : Act} {Q : Exit → Act → World → Prop} (hgd : o.guard = none) (s x : Operand) (t : TypeId)
    (ho : o.op = .call { callee := .builtin .append, args := #[s, x], argTypes := #[t, t] })
    (base : Nat) (e : TypeId) (i : TypeInfo) (z : Value) (size bytes : Nat) (ht : P.underlying t = some (.slice e)) (hi : P.info? e = some i) (hz : i.zero = some z)
    (hsize : i.size = size) (hby : i.bytes = bytes) (hzs : z.cells.size = size) (hsz : 0 < size)
    (v : Value) (n : Nat) (xs : List Value) (hs : a.eval s = v) (hown : w.ownsRow base e size v n xs)
    (B : Nat) (A : Option Addr) (m c : Nat) (news : List Value) (hx : a.eval x = .slice A m c) (hr : Rd w B size A m news) (h1 : ∀ u ∈ news, u.oneCell' = true)
    (h63 : n + m ≤ maxLen) (hbytes : (n + m) * bytes ≤ 140737488355328) (hbase : base ≤ w.heap.size)
    (h : ∀ v' w', w'.ownsRow base e size v' (n + m) (xs ++ news) → w.grownBy w' v.ownBlock → (v'.ownBlock = v.ownBlock ∨ v'.ownBlock = some w.heap.size) → wpList P ops Q rest (a.put o.dst v') w') : wpList P ops Q (o :: rest) a w :=
  wpList_plain hgd fun _ hK => wp_append_rd w s x t ho base e i z size bytes ht hi hz hsize hby hzs hsz v n xs hs hown B A m c news hx hr h1 h63 hbytes hbase fun v' w' h2 h3 h4 => hK _ _ (h v' w' h2 h3 h4)
end

/-- The run of 's[k:]': whatever the address is named, the cut reads as the rest. -/
theorem run_cut {P : Program} (t e : TypeId) (i : TypeInfo) (ht : P.underlying t = some (.slice e)) (hi : P.info? e = some i) (hs : i.size = 1) {w : World} {B : Nat} {A : Option Addr} {n c : Nat} {bs : List UInt8}
    (h : Bs w B (.slice A n c) bs) (kl : IntKind) (k : Nat) (hk : k ≤ n) :
    ∃ A', (∀ W, (Instr.slice t (.slice A n c) (some (.int kl (k : Int))) none none).run P W = .ok (.slice A' (n - k) (c - k)) W) ∧ Bs w B (.slice A' (n - k) (c - k)) (bs.drop k) := by
  have ht' : P.underlying t = some (.slice (P.elem t)) := by simp [Program.elem, ht]
  have he : P.elem t = e := by simp [Program.elem, ht]
  have hz : ∀ w, (Go.sizeOf e).run P w = .ok 1 w := fun w => by simp [Go.sizeOf, typeInfo, hi, hs]
  refine ⟨_, fun W => ?_, h.cut hk⟩
  rw [run_slice_l W t _ _ _ ht' kl _ (by omega) (by omega), he, hz]
  simp [Result.andThen, sliced]

/-- The run of 's[i:j]'. -/
theorem run_window {P : Program} (t e : TypeId) (i : TypeInfo) (ht : P.underlying t = some (.slice e)) (hi : P.info? e = some i) (hs : i.size = 1) {w : World} {B : Nat} {A : Option Addr} {n c : Nat} {bs : List UInt8}
    (h : Bs w B (.slice A n c) bs) (kl kh : IntKind) (l j : Nat) (hl : l ≤ j) (hj : j ≤ n) :
    ∃ A', (∀ W, (Instr.slice t (.slice A n c) (some (.int kl (l : Int))) (some (.int kh (j : Int))) none).run P W = .ok (.slice A' (j - l) (c - l)) W) ∧ Bs w B (.slice A' (j - l) (c - l)) ((bs.drop l).take (j - l)) := by
  have ht' : P.underlying t = some (.slice (P.elem t)) := by simp [Program.elem, ht]
  have he : P.elem t = e := by simp [Program.elem, ht]
  have hz : ∀ w, (Go.sizeOf e).run P w = .ok 1 w := fun w => by simp [Go.sizeOf, typeInfo, hi, hs]
  obtain ⟨hn, hlc, hm⟩ := h.len
  have hr := h.rd
  refine ⟨if c = l then A else A.map (·.add l), fun W => ?_, ?_⟩
  · rw [run_slice_lh W t _ _ _ ht' kl kh _ _ (by omega) (by omega) (by omega), he, hz]
    simp [Result.andThen, sliced]
  · have hlen : ((bs.drop l).take (j - l)).length = j - l := by simp; omega
    refine ⟨_, c - l, by rw [hlen], by rw [hlen]; omega, by omega, by simp, fun h0 => ?_⟩
    rw [hlen] at h0
    obtain ⟨b, o, rfl, hb, hc⟩ := hr.2 (by omega)
    rw [if_neg (by omega)]
    refine ⟨b, o + l, by rw [Option.map_some, add_mk], hb, fun k u hu => ?_⟩
    rw [Nat.add_assoc]
    refine hc (l + k) u ?_
    have hk : k < j - l := by
      have := (List.getElem?_eq_some_iff.1 hu).1
      simp at this; omega
    rw [← hu, List.map_take, List.map_drop, List.getElem?_take_of_lt hk, List.getElem?_drop]

/-- The run of 's[:j]'. -/
theorem run_upto {P : Program} (t e : TypeId) (i : TypeInfo) (ht : P.underlying t = some (.slice e)) (hi : P.info? e = some i) (hs : i.size = 1) {w : World} {B : Nat} {A : Option Addr} {n c : Nat} {bs : List UInt8}
    (h : Bs w B (.slice A n c) bs) (kh : IntKind) (j : Nat) (hj : j ≤ n) :
    ∃ A', (∀ W, (Instr.slice t (.slice A n c) none (some (.int kh (j : Int))) none).run P W = .ok (.slice A' j c) W) ∧ Bs w B (.slice A' j c) (bs.take j) := by
  have ht' : P.underlying t = some (.slice (P.elem t)) := by simp [Program.elem, ht]
  have he : P.elem t = e := by simp [Program.elem, ht]
  have hz : ∀ w, (Go.sizeOf e).run P w = .ok 1 w := fun w => by simp [Go.sizeOf, typeInfo, hi, hs]
  obtain ⟨hn, hlc, hm⟩ := h.len
  have hr := h.rd
  refine ⟨A, fun W => ?_, ?_⟩
  · rw [run_slice_h W t _ _ _ ht' kh _ (by omega) (by omega), he, hz]
    cases A <;> simp [Result.andThen, sliced, Addr.add]
  · have hlen : (bs.take j).length = j := by simp; omega
    refine ⟨A, c, by rw [hlen], by rw [hlen]; omega, by omega, by simp, fun h0 => ?_⟩
    rw [hlen] at h0
    obtain ⟨b, o, rfl, hb, hc⟩ := hr.2 (by omega)
    refine ⟨b, o, rfl, hb, fun k u hu => hc k u ?_⟩
    have hk : k < j := by
      have := (List.getElem?_eq_some_iff.1 hu).1
      simp at this; omega
    rw [← hu, List.map_take, List.getElem?_take_of_lt hk]

theorem oct_one (bs : List UInt8) : ∀ u ∈ bs.map oct, u.oneCell' = true := by
  intro u hu
  obtain ⟨x, _, rfl⟩ := List.mem_map.1 hu
  rfl

/-- 'string(b)' of a slice that reads as bytes. -/
theorem run_convert_bs {P : Program} (w : World) (src e dst : TypeId) (hs : P.underlying src = some (.slice e)) (he : P.underlying e = some (.int .u8)) (hd : P.underlying dst = some .string) {B : Nat} {v : Value} {bs : List UInt8}
    (h : Bs w B v bs) : (convert src dst v).run P w = .ok (.string ⟨bs.toArray⟩) w := by
  obtain ⟨A, c, rfl, _, _, h⟩ := h
  rcases Nat.eq_zero_or_pos bs.length with h0 | h0
  · obtain rfl : bs = [] := List.length_eq_zero_iff.1 h0
    cases A with
    | none => exact run_convert_bytes_nil (P := P) w src e hs he _ _ dst hd
    | some a =>
      rw [run_convert_bytes_string w src dst e _ _ c hs he hd]
      simp [Conv.bytesToString, loadCells, loadCellsFrom]
      rfl
  · obtain ⟨b, o, rfl, hb, hc⟩ := h.2 h0
    have hz : (⟨bs.toArray⟩ : ByteArray).size = bs.length := by simp [ByteArray.size]
    rw [← hz]
    refine Go.Lib.run_convert_whole (P := P) w src e dst hs he hd b o ⟨bs.toArray⟩ ?_ c
    intro i hi
    have hi' : i < bs.length := by have : (⟨bs.toArray⟩ : ByteArray).size = bs.length := by simp [ByteArray.size]
                                   omega
    have := hc i _ (show (bs.map oct)[i]? = some (oct bs[i]) by simp [hi'])
    exact this

/-- A result that is a slice of its own and an error beside it. -/
def Put2 (w : World) (bs : List UInt8) (x : Int) (e : Ending) (w' : World) : Prop := ∃ v, e = .returned (.tuple #[v, .int .i64 x]) ∧ Bs w' w'.heap.size v bs ∧ Below w.heap.size w w'
end Go.Proofs.YtjclhlejbidpgaaGreat
namespace Go.Proofs.YtjclhlejbidpgaaGreat
open Go.RowKit
set_option linter.unusedVariables false

theorem info_u8 : (Tryz.prog.info? 5).map (fun i => (i.zero, i.size, i.bytes)) = some (some (.int .u8 0), 1, 1) := by kernel_rfl
end Go.Proofs.YtjclhlejbidpgaaGreat
