/- What is proved here: (plain) a block of messages of the call's own, that may be written; (plain) rings of messages: their order, their first error, and what changes of them give; ring.place, ring.within, ring.hasValidNumbers, each by one contract; ring.ordered returns the messages of a ring in order. -/
import Derived.Test.YtommkhjgockpfaaJ03
import Derived.Laws.MakeOwn
import Derived.Test.YtommkhjgockpfaaRows
import Derived.Test.YtommkhjgockpfaaJ02
import Derived.WalkKit
import Derived.Outline
import Derived.IntWalk
import Derived.RegionTactic
import Derived.Deep.RegionWith
namespace Go.Proofs.Ytommkhjgockpfaa
open Go.RowKit
set_option linter.unusedVariables false

/-- Block q holds n messages, and may be written. -/
def MRow (W : World) (q n : Nat) (f : Nat → Msg) : Prop := q < W.heap.size ∧ (∀ k, k < n → ∀ j, j < 7 → W.cell? ⟨q, k * 7 + j, none⟩ = (f k).l[j]?) ∧ ∀ o, W.frozen? ⟨q, o, none⟩ = false

section
variable {W W' : World} {q n : Nat} {f g : Nat → Msg}
theorem MRow.below {B : Nat} (h : MRow W q n f) (hb : Below B W W') (hg : q < B) : MRow W' q n f :=
  ⟨Nat.lt_of_lt_of_le h.1 hb.size, fun k hk j hj => (hb.cell (p := ⟨q, k * 7 + j, none⟩) hg).trans (h.2.1 k hk j hj), fun o => (hb.frozen (p := ⟨q, o, none⟩) hg).trans (h.2.2 o)⟩
theorem MRow.alloc (h : MRow W q n f) (o : Obj) : MRow (W.alloc o) q n f := h.below (W' := W.alloc o) ((Below.refl W.heap.size W).alloc (Nat.le_refl _) o) h.1
theorem MRow.drew (h : MRow W q n f) : MRow W.drew q n f := h
theorem MRow.drewN (h : MRow W q n f) (k : Nat) : MRow (W.drewN k) q n f := h
theorem MRow.congr (h : MRow W q n f) (e : ∀ k, k < n → f k = g k) : MRow W q n g :=
  ⟨h.1, fun k hk j hj => by rw [h.2.1 k hk j hj, e k hk], h.2.2⟩
theorem MRow.other (h : MRow W q n f) {p : Addr} (hp : p.block ≠ q) (v : Value) : MRow (W.setCell p v) q n f :=
  ⟨by simpa using h.1, fun k hk j hj => (World.cell?_setCell_other W p _ v (fun e => hp (by rw [e]))).trans (h.2.1 k hk j hj), fun o => by rw [World.frozen?_setCell]; exact h.2.2 o⟩
theorem MRow.there (h : MRow W q n f) {k : Nat} (hk : k < n) : W.there q (k * 7) 7 := fun j hj => by
  refine ⟨?_, h.2.2 _⟩
  rw [h.2.1 k hk j hj]
  match j, hj with
  | 0, _ => rfl
  | 1, _ => rfl
  | 2, _ => rfl
  | 3, _ => rfl
  | 4, _ => rfl
  | 5, _ => rfl
  | 6, _ => rfl
theorem MRow.range (h : MRow W q n f) {k : Nat} (hk : k < n) : W.rangeAt q (k * 7) (f k).l := fun j u hu => by
  rw [h.2.1 k hk j (List.getElem?_eq_some_iff.1 hu).1]; exact hu
theorem MRow.free (h : MRow W q n f) (m : Nat) : W.frozen? ⟨q, m, none⟩ = false ∧ W.frozen? ⟨q, m + 1, none⟩ = false ∧ W.frozen? ⟨q, m + 2, none⟩ = false ∧ W.frozen? ⟨q, m + 3, none⟩ = false ∧ W.frozen? ⟨q, m + 4, none⟩ = false ∧ W.frozen? ⟨q, m + 5, none⟩ = false ∧ W.frozen? ⟨q, m + 6, none⟩ = false :=
  ⟨h.2.2 _, h.2.2 _, h.2.2 _, h.2.2 _, h.2.2 _, h.2.2 _, h.2.2 _⟩
theorem MRow.c7 (h : MRow W q n f) {k : Nat} (hk : k < n) : C7 W q (k * 7) (f k) := by
  have g := h.2.1 k hk
  exact ⟨g 0 (by omega), g 1 (by omega), g 2 (by omega), g 3 (by omega), g 4 (by omega), g 5 (by omega), g 6 (by omega)⟩
theorem sets_below {B : Nat} {a : World} {b : Nat} (hb : B ≤ b) : ∀ (vs : List Value) (m : Nat) (W : World), Below B a W → Below B a (W.setCells b m vs)
  | [], _, _, h => h
  | v :: r, m, W, h => sets_below hb r (m + 1) _ (h.setCell (p := ⟨b, m, none⟩) hb v)
theorem sets_size (b : Nat) : ∀ (vs : List Value) (m : Nat) (W : World), (W.setCells b m vs).heap.size = W.heap.size
  | [], _, _ => rfl
  | v :: r, m, W => by rw [World.setCells, sets_size b r]; simp
theorem sets_far {p : Addr} (hp : p.block ≠ q) (m : Nat) (vs : List Value) : (W.setCells q m vs).cell? p = W.cell? p :=
  World.cell?_setCells_out q vs m W p (fun e => absurd e hp)
theorem MRow.put (h : MRow W q n f) {k : Nat} (hk : k < n) (M : Msg) : MRow (W.setCells q (k * 7) M.l) q n (fun i => if i = k then M else f i) := by
  refine ⟨by rw [sets_size]; exact h.1, fun i hi j hj => ?_, fun o => by rw [World.frozen?_setCells]; exact h.2.2 o⟩
  by_cases e : i = k
  · subst e
    simp only [if_true]
    rw [World.cell?_setCells_in q M.l (i * 7) W (fun j hj => (h.there hk j hj).1) j hj, List.getElem?_eq_getElem]
    rfl
  · simp only [if_neg e]
    rw [← h.2.1 i hi j hj]
    exact World.cell?_setCells_out q M.l (k * 7) W ⟨q, i * 7 + j, none⟩ (fun _ _ => by rw [Msg.l_len]; show i * 7 + j < k * 7 ∨ k * 7 + 7 ≤ i * 7 + j; omega)
theorem MRow.far (h : MRow W q n f) {b : Nat} (hb : b ≠ q) (m : Nat) (vs : List Value) : MRow (W.setCells b m vs) q n f :=
  ⟨by rw [sets_size]; exact h.1, fun i hi j hj => (sets_far (p := ⟨q, i * 7 + j, none⟩) (fun e => hb e.symm) m vs).trans (h.2.1 i hi j hj), fun o => by rw [World.frozen?_setCells]; exact h.2.2 o⟩
theorem MRow.ls (h : MRow W q n f) (x cap : Nat) (hx : x ≤ n) (hc : x ≤ cap) (hm : cap ≤ maxLen) : Ls W W.heap.size (.slice (some ⟨q, 0, none⟩) x cap) ((List.range x).map f) := by
  have hl : ((List.range x).map f).length = x := by simp
  refine ⟨_, cap, by rw [hl], by rw [hl]; exact hc, hm, by rw [lcs_len, hl], fun _ => ⟨q, 0, rfl, h.1, fun i u hu => ?_⟩⟩
  have hi : i < x * 7 := by have := (List.getElem?_eq_some_iff.1 hu).1; rw [lcs_len, hl] at this; exact this
  have e : i = i / 7 * 7 + i % 7 := by omega
  have hlt : i / 7 < x := by omega
  rw [e] at hu ⊢
  rw [lcs_at _ _ _ (by rw [hl]; exact hlt) (by omega)] at hu
  rw [Nat.zero_add, h.2.1 _ (by omega) _ (by omega), ← hu]
  simp
theorem Ls.sets {B : Nat} {v : Value} {l : List Msg} (h : Ls W B v l) {b : Nat} (hb : B ≤ b) (m : Nat) (vs : List Value) : Ls (W.setCells b m vs) B v l :=
  h.keep fun p hp => sets_far (fun e => by omega) m vs
end
/-- A row of zero messages. -/
theorem MRow.made (w : World) (n : Nat) (t : TypeId) : MRow (w.alloc (.cells (madeCells (Msg.v zM).cells (n * 7)) t)) w.heap.size n (fun _ => zM) := by
  refine ⟨by simp, fun k hk j hj => ?_, fun o => by simp [go_sem]⟩
  rw [World.cell?_alloc_new]
  have hs : (Msg.v zM).cells.size = 7 := rfl
  simp only [madeCells, Array.getElem?_map, hs]
  rw [Array.getElem?_range, if_pos (by omega)]
  have e : (k * 7 + j) % 7 = j := by omega
  simp only [Option.map_some, e]
  match j, hj with
  | 0, _ => rfl
  | 1, _ => rfl
  | 2, _ => rfl
  | 3, _ => rfl
  | 4, _ => rfl
  | 5, _ => rfl
  | 6, _ => rfl
/-- A store before a list of messages leaves it. -/
theorem Ls.off {W : World} {B lo n c : Nat} {A : Option Addr} {l : List Msg} (h : Ls W B (.slice A n c) l) (hA : Nw lo A) {p : Addr} (hp : p.block < lo) (v : Value) : Ls (W.setCell p v) B (.slice A n c) l := by
  obtain ⟨A', c', e, hl, hm, hr⟩ := h
  injection e with e1 e2 e3
  subst e1; subst e3
  refine ⟨A, c, by rw [e2], hl, hm, hr.1, fun h0 => ?_⟩
  obtain ⟨b, o, e, hb, hc⟩ := hr.2 h0
  have hlo := hA _ e
  exact ⟨b, o, e, hb, fun j u hu => (World.cell?_setCell_other W _ _ v (fun e' => by have e2 := congrArg Addr.block e'; simp at e2 hlo; omega)).trans (hc j u hu)⟩

end Go.Proofs.Ytommkhjgockpfaa
namespace Go.Proofs.Ytommkhjgockpfaa
open Go.RowKit
set_option linter.unusedVariables false

/-- The numbers of a ring are in their ranges. -/
def nmB (n : Nat) (hd sz : Int) : Bool := wi n 1 12 && (wi hd 0 ((n : Int) - 1) && wi sz 0 n)
theorem nm_mk {n : Nat} {hd sz : Int} (h : (1 ≤ n ∧ n ≤ 12) ∧ (0 ≤ hd ∧ hd < n) ∧ (0 ≤ sz ∧ sz ≤ n)) : nmB n hd sz = true := by
  unfold nmB
  rw [wi_true (by omega) (by omega), wi_true (by omega) (by omega), wi_true (by omega) (by omega)]
  rfl

/-- The k-th cell from the head on. -/
def cel (cs : List Msg) (hd : Nat) (k : Nat) : Msg := cs.getD ((hd + k) % cs.length) zM
/-- The messages in order. -/
def ord (cs : List Msg) (hd sz : Nat) : List Msg := (List.range sz).map (cel cs hd)
theorem ord_len (cs : List Msg) (hd sz : Nat) : (ord cs hd sz).length = sz := by simp [ord]
theorem ord_at (cs : List Msg) (hd sz k : Nat) (h : k < (ord cs hd sz).length) : (ord cs hd sz)[k] = cel cs hd k := by simp [ord]

/-- The first error of messages. -/
def fe : List Msg → Int
  | [] => 0
  | M :: l => if vf M = 0 then fe l else vf M
theorem fe_all {l : List Msg} (h : ∀ M ∈ l, vf M = 0) : fe l = 0 := by
  induction l with
  | nil => rfl
  | cons M l ih => rw [fe, if_pos (h M (by simp)), ih (fun N hN => h N (by simp [hN]))]
/-- Two messages have the same ID. -/
def dupP (l : List Msg) : Prop := ∃ (i j : Nat) (hi : i < l.length) (hj : j < l.length), i < j ∧ l[i].id = l[j].id

open Classical in
/-- The first error of a ring. -/
noncomputable def rgV (cs : List Msg) (hd sz : Int) : Int :=
  if nmB cs.length hd sz = false then 1
  else if ¬ (∀ k, sz.toNat ≤ k → k < cs.length → cel cs hd.toNat k = zM) then 7
  else if fe (ord cs hd.toNat sz.toNat) ≠ 0 then fe (ord cs hd.toNat sz.toNat)
  else if dupP (ord cs hd.toNat sz.toNat) then 10 else 0

section
variable {cs : List Msg} {hd sz : Int}
theorem rgV_ok (h : nmB cs.length hd sz = true) (h1 : ∀ k, sz.toNat ≤ k → k < cs.length → cel cs hd.toNat k = zM) (h2 : fe (ord cs hd.toNat sz.toNat) = 0) (h3 : ¬ dupP (ord cs hd.toNat sz.toNat)) : rgV cs hd sz = 0 := by
  unfold rgV; rw [if_neg (by simp [h]), if_neg (by simpa using h1), if_neg (by simp [h2]), if_neg h3]
end

/-- The cells of a ring with a head and messages. -/
def fil (n hd : Nat) (l : List Msg) : List Msg := (List.range n).map fun j => l.getD ((j + n - hd) % n) zM
theorem fil_len (n hd : Nat) (l : List Msg) : (fil n hd l).length = n := by simp [fil]
theorem cel_fil {n hd k : Nat} (l : List Msg) (hh : hd < n) (hk : k < n) : cel (fil n hd l) hd k = l.getD k zM := by
  unfold cel
  rw [fil_len]
  have hm : (hd + k) % n < n := Nat.mod_lt _ (by omega)
  have e : ((hd + k) % n + n - hd) % n = k := by
    rcases Nat.lt_or_ge (hd + k) n with h | h
    · rw [Nat.mod_eq_of_lt h, show hd + k + n - hd = k + n by omega, Nat.add_mod_right, Nat.mod_eq_of_lt hk]
    · rw [Nat.mod_eq_sub_mod h, Nat.mod_eq_of_lt (show hd + k - n < n by omega), show hd + k - n + n - hd = k by omega, Nat.mod_eq_of_lt hk]
  simp [fil, List.getD, hm, e]
theorem ord_fil {n hd : Nat} (l : List Msg) (hh : hd < n) (hl : l.length ≤ n) : ord (fil n hd l) hd l.length = l := by
  apply List.ext_getElem
  · rw [ord_len]
  · intro k h1 h2
    rw [ord_at, cel_fil l hh (by omega)]
    simp [List.getD, h2]
/-- Two lists of cells are alike if they are alike from a head on. -/
theorem cel_ext {cs ds : List Msg} {hd : Nat} (hl : cs.length = ds.length) (hh : hd < cs.length) (h : ∀ k, k < cs.length → cel cs hd k = cel ds hd k) : cs = ds := by
  apply List.ext_getElem hl
  intro j h1 h2
  have g := h ((j + cs.length - hd) % cs.length) (Nat.mod_lt _ (by omega))
  have e : (hd + (j + cs.length - hd) % cs.length) % cs.length = j := by
    rcases Nat.lt_or_ge j hd with hj | hj
    · rw [Nat.mod_eq_of_lt (show j + cs.length - hd < cs.length by omega), show hd + (j + cs.length - hd) = j + cs.length by omega, Nat.add_mod_right, Nat.mod_eq_of_lt h1]
    · rw [show j + cs.length - hd = (j - hd) + cs.length by omega, Nat.add_mod_right, Nat.mod_eq_of_lt (show j - hd < cs.length by omega), show hd + (j - hd) = j by omega, Nat.mod_eq_of_lt h1]
  unfold cel at g
  rw [← hl, e] at g
  simpa [List.getD, h1, h2] using g
end Go.Proofs.Ytommkhjgockpfaa
namespace Go.Proofs.Ytommkhjgockpfaa
open Go.RowKit
set_option linter.unusedVariables false

theorem gwithin_any (n lo hi : Int) (w : World) : Calls Try.prog 87 #[.int .i64 n, .int .i64 lo, .int .i64 hi] w fun e w' => e = .returned (.bool (wi n lo hi)) ∧ w = w' := by
  by_cases h1 : lo ≤ n
  · by_cases h2 : n ≤ hi
    · have H := Lib.hid (wi_true h1 h2)
      go_enter Try.func87, Try.ntmps87
      go_wp2
      go_ret
      exact ⟨by rw [H.out]; rfl, rfl⟩
    · have H := Lib.hid (wi_high (lo := lo) (show hi < n by omega))
      go_enter Try.func87, Try.ntmps87
      go_wp2
      go_ret
      exact ⟨by rw [H.out]; rfl, rfl⟩
  · have H := Lib.hid (wi_low (hi := hi) (show n < lo by omega))
    go_enter Try.func87, Try.ntmps87
    go_wp2
    go_ret
    exact ⟨by rw [H.out]; rfl, rfl⟩
end Go.Proofs.Ytommkhjgockpfaa
namespace Go.Proofs.Ytommkhjgockpfaa
open Go.RowKit
set_option linter.unusedVariables false

theorem info_msg : (Try.prog.info? 126).map (fun i => (i.zero, i.size, i.bytes)) = some (some (Msg.v zM), 7, 64) := by kernel_rfl
theorem run_make_msgs (n : Nat) (h : n ≤ 1000000) (w : World) : (Instr.makeSlice 37 (.int .i64 n) (.int .i64 n)).run Try.prog w = .ok (.slice (some ⟨w.heap.size, 0, none⟩) n n) (w.alloc (.cells (madeCells (Msg.v zM).cells (n * 7)) 126)) := by
  obtain ⟨i, hi, hz⟩ := Option.map_eq_some_iff.1 info_msg
  simp only [Prod.mk.injEq] at hz
  have := run_make w 37 126 i (Msg.v zM) Try.underlying37 hi hz.1 .i64 .i64 n n (by omega) (by omega) (by rw [hz.2.2]; omega) (by omega)
  rw [hz.2.1] at this
  simpa using this

/-- A list of messages of the call's own. -/
def LsP (l : List Msg) (w : World) (e : Ending) (w' : World) : Prop := ∃ v, e = .returned v ∧ NwV w.heap.size v ∧ Ls w' w'.heap.size v l ∧ Below w.heap.size w w'

/-- A ring in block p, and a row of messages in block q of the call's own. -/
structure OrdAt (w : World) (p : Nat) (A : Option Addr) (n c : Nat) (hd sz : Int) (q m : Nat) (f : Nat → Msg) (W : World) : Prop where
  c0 : W.cell? ⟨p, 0, none⟩ = some (.slice A n c)
  c1 : W.cell? ⟨p, 1, none⟩ = some (.int .i64 hd)
  c2 : W.cell? ⟨p, 2, none⟩ = some (.int .i64 sz)
  row : MRow W q m f
  bel : Below w.heap.size w W
  old : w.heap.size ≤ p ∧ p < q
section
variable {w W W' : World} {p q n c m : Nat} {A : Option Addr} {hd sz : Int} {f : Nat → Msg}
theorem OrdAt.facts (h : OrdAt w p A n c hd sz q m f W) : W.cell? ⟨p, 0, none⟩ = some (.slice A n c) ∧ W.cell? ⟨p, 1, none⟩ = some (.int .i64 hd) ∧ W.cell? ⟨p, 2, none⟩ = some (.int .i64 sz) ∧ p < W.heap.size ∧ q < W.heap.size :=
  ⟨h.c0, h.c1, h.c2, Nat.lt_trans h.old.2 h.row.1, h.row.1⟩
theorem OrdAt.below (h : OrdAt w p A n c hd sz q m f W) (hb : Below W.heap.size W W') : OrdAt w p A n c hd sz q m f W' :=
  ⟨(hb.cell (p := ⟨p, 0, none⟩) (Nat.lt_trans h.old.2 h.row.1)).trans h.c0, (hb.cell (p := ⟨p, 1, none⟩) (Nat.lt_trans h.old.2 h.row.1)).trans h.c1, (hb.cell (p := ⟨p, 2, none⟩) (Nat.lt_trans h.old.2 h.row.1)).trans h.c2, h.row.below hb h.row.1, h.bel.trans (hb.mono h.bel.size), h.old⟩
theorem OrdAt.put (h : OrdAt w p A n c hd sz q m f W) {k : Nat} (hk : k < m) (M : Msg) : OrdAt w p A n c hd sz q m (fun i => if i = k then M else f i) (W.setCells q (k * 7) M.l) := by
  have hne : p ≠ q := by have := h.old.2; omega
  exact ⟨(sets_far (p := ⟨p, 0, none⟩) hne _ _).trans h.c0, (sets_far (p := ⟨p, 1, none⟩) hne _ _).trans h.c1, (sets_far (p := ⟨p, 2, none⟩) hne _ _).trans h.c2, h.row.put hk M, sets_below (by have := h.old; omega) _ _ _ h.bel, h.old⟩
theorem OrdAt.start (w : World) (A : Option Addr) (n c : Nat) (hd sz : Int) (m : Nat) (t u : TypeId) : OrdAt w w.heap.size A n c hd sz (w.heap.size + 1) m (fun _ => zM) ((w.alloc (.cells #[.slice A n c, .int .i64 hd, .int .i64 sz] t)).alloc (.cells (madeCells (Msg.v zM).cells (m * 7)) u)) := by
  have h := MRow.made (w.alloc (.cells #[.slice A n c, .int .i64 hd, .int .i64 sz] t)) m u
  have e : (w.alloc (.cells #[.slice A n c, .int .i64 hd, .int .i64 sz] t)).heap.size = w.heap.size + 1 := by simp
  rw [e] at h
  refine ⟨?_, ?_, ?_, h, ((Below.refl _ _).alloc (Nat.le_refl _) _).alloc (by omega) _, Nat.le_refl _, Nat.lt_succ_self _⟩
  all_goals
    rw [World.cell?_alloc_past _ _ _ (by omega)]
    simp [go_sem]
theorem OrdAt.congr {g : Nat → Msg} (h : OrdAt w p A n c hd sz q m f W) (e : ∀ k, k < m → f k = g k) : OrdAt w p A n c hd sz q m g W :=
  ⟨h.c0, h.c1, h.c2, h.row.congr e, h.bel, h.old⟩
theorem OrdAt.drew (h : OrdAt w p A n c hd sz q m f W) : OrdAt w p A n c hd sz q m f W.drew :=
  ⟨h.c0, h.c1, h.c2, h.row, h.bel.drew, h.old⟩
end

theorem OrdAt.step {w W W' : World} {p q n c m b o k : Nat} {A : Option Addr} {hd sz : Int} {f : Nat → Msg} {X : Msg} (h : OrdAt w p A n c hd sz q m f W) (hk : k < m) (hc : C7 W b o X) (hbw : b < W.heap.size) (hb : Below W.heap.size W W') :
    Hid (OrdAt w p A n c hd sz q m f W') ∧ (W'.cell? ⟨p, 0, none⟩ = some (.slice A n c) ∧ W'.cell? ⟨p, 1, none⟩ = some (.int .i64 hd) ∧ W'.cell? ⟨p, 2, none⟩ = some (.int .i64 sz) ∧ p < W'.heap.size ∧ q < W'.heap.size) ∧ C7 W' b o X ∧ C7 W' q (k * 7) (f k) ∧
      (W'.frozen? ⟨q, k * 7, none⟩ = false ∧ W'.frozen? ⟨q, k * 7 + 1, none⟩ = false ∧ W'.frozen? ⟨q, k * 7 + 2, none⟩ = false ∧ W'.frozen? ⟨q, k * 7 + 3, none⟩ = false ∧ W'.frozen? ⟨q, k * 7 + 4, none⟩ = false ∧ W'.frozen? ⟨q, k * 7 + 5, none⟩ = false ∧ W'.frozen? ⟨q, k * 7 + 6, none⟩ = false) :=
  ⟨Lib.hid (h.below hb), (h.below hb).facts, hc.below hb hbw, (h.below hb).row.c7 hk, (h.below hb).row.free _⟩
end Go.Proofs.Ytommkhjgockpfaa
