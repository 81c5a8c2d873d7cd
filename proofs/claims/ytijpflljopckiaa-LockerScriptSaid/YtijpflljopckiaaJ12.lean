/- What is proved here: Shd; Shm; (plain) counter stripes, lists of them in memory, what Begin, End, Quiet, Same and Sum come to; (plain) the source of numbers that the statements' base reads from: what lies at its block, and how it is kept; (plain) a slice that reads as a list of numbers. -/
import Derived.Test.YtijpflljopckiaaJ07
import Derived.Test.YtijpflljopckiaaJ11
import Derived.Test.YtijpflljopckiaaJ02
import Derived.Test.YtijpflljopckiaaJ03
import Derived.Below
import Derived.Deep.MidRow
import Derived.Laws.MakeOwn
import Derived.Deep.AppendLies
import Derived.Maps.AppendAt
/- Plain: shards: their first error, valid shards, what changes of their rings and tables give. -/
namespace Go.Proofs.Ytijpflljopckiaa
open Go.RowKit
set_option linter.unusedVariables false

/-- A shard. -/
structure Sh where
  lv : Bool
  lo : Int
  hi : Int
  cs : List Msg
  hd : Int
  sz : Int
  l : List Le
  h : List Du
/-- No shard. -/
def zS : Sh := ⟨false, 0, 0, [], 0, 0, [], []⟩
/-- Where its lists lie. -/
structure Sx where
  A : Option Addr
  c : Nat
  A2 : Option Addr
  c2 : Nat
  A3 : Option Addr
  c3 : Nat
/-- What it stores: the ready messages in order, then the leased ones. -/
noncomputable def Sh.al (S : Sh) : List Msg := lsF S.cs S.hd S.sz ++ S.l.map Le.m
/-- Two routes are a span. -/
def spB (lo hi : Int) : Bool := decide (0 ≤ lo ∧ lo ≤ hi ∧ hi < 65536)
theorem spB_iff {lo hi : Int} : spB lo hi = true ↔ 0 ≤ lo ∧ lo ≤ hi ∧ hi < 65536 := decide_eq_true_iff
/-- A route is not from lo to hi. -/
def rtB (lo hi : Int) (l : List Msg) : Bool := l.any (fun M => !wi M.rt lo hi)
theorem rtB_no {lo hi : Int} {l : List Msg} : rtB lo hi l = false ↔ ∀ M ∈ l, lo ≤ M.rt ∧ M.rt ≤ hi := by
  unfold rtB
  rw [List.any_eq_false]
  refine forall_congr' fun M => imp_congr_right fun _ => ?_
  cases h : wi M.rt lo hi with
  | true => have := wi_of h; simp; omega
  | false =>
    simp
    intro h1
    have h2 : ¬ M.rt ≤ hi := fun h2 => by rw [wi_true h1 h2] at h; cases h
    omega
/-- The first error of a live shard whose ring and table are valid. -/
noncomputable def liE (S : Sh) : Int := if spB S.lo S.hi = false then 1 else if (S.cs.length : Int) < S.sz + S.l.length then 3 else if rtB S.lo S.hi S.al = true then 12 else if dpB S.al = true then 10 else 0
/-- The first error of a shard. -/
noncomputable def shV (S : Sh) : Int := if rgV S.cs S.hd S.sz ≠ 0 then rgV S.cs S.hd S.sz else if tbV S.l S.h ≠ 0 then tbV S.l S.h else if S.lv = true then liE S else if S.lo ≠ 0 ∨ S.hi ≠ 0 ∨ 0 < S.sz + S.l.length then 7 else 0
/-- The error of a shard, 7 if it is not live, 1 if a number is out of its range. -/
noncomputable def exS (S : Sh) (b : Bool) : Int := if shV S ≠ 0 then shV S else if S.lv = false then 7 else if b = true then 0 else 1
theorem exS_num {S : Sh} {b : Bool} (h : shV S = 0) (h1 : S.lv = true) (hb : b = false) : exS S b = 1 := by unfold exS; rw [if_neg (by simpa using h), if_neg (by simp [h1]), if_neg (by simp [hb])]
theorem exS_ok {S : Sh} {b : Bool} (h : shV S = 0) (h1 : S.lv = true) (hb : b = true) : exS S b = 0 := by unfold exS; rw [if_neg (by simpa using h), if_neg (by simp [h1]), if_pos hb]
/-- What a valid live shard holds: its routes, its capacity, the head, the messages in order, the leases, their heap. -/
structure Vs where
  lo : Int
  hi : Int
  n : Nat
  hd : Nat
  L : List Msg
  l : List Le
  h : List Du
def Vs.sh (V : Vs) : Sh := ⟨true, V.lo, V.hi, fil V.n V.hd V.L, V.hd, V.L.length, V.l, V.h⟩
/-- What it stores. -/
def Vs.al (V : Vs) : List Msg := V.L ++ V.l.map Le.m
structure Vs.Ok (V : Vs) : Prop where
  n1 : 1 ≤ V.n
  n2 : V.n ≤ 12
  hh : V.hd < V.n
  tb : TbOk V.l V.h
  sp : 0 ≤ V.lo ∧ V.lo ≤ V.hi ∧ V.hi < 65536
  room : V.L.length + V.l.length ≤ V.n
  gd : Gd V.al
  own : ∀ M ∈ V.al, V.lo ≤ M.rt ∧ M.rt ≤ V.hi
section
variable {V : Vs}
theorem Vs.Ok.gL (k : V.Ok) : Gd V.L := gd_sub (List.sublist_append_left _ _) k.gd
theorem Vs.Ok.lenL (k : V.Ok) : V.L.length ≤ V.n := by have := k.room; omega
theorem Vs.Ok.ls (k : V.Ok) : lsF (fil V.n V.hd V.L) (V.hd : Int) (V.L.length : Int) = V.L := lsF_fil k.n1 k.n2 k.hh k.lenL k.gL
theorem Vs.Ok.al_sh (k : V.Ok) : V.sh.al = V.al := by
  show lsF (fil V.n V.hd V.L) (V.hd : Int) (V.L.length : Int) ++ _ = _
  rw [k.ls]; rfl
theorem Vs.Ok.rg (k : V.Ok) : rgV (fil V.n V.hd V.L) (V.hd : Int) (V.L.length : Int) = 0 := rgV_fil k.n1 k.n2 k.hh k.lenL k.gL
theorem Vs.Ok.li (k : V.Ok) : liE V.sh = 0 := by
  unfold liE
  rw [if_neg (by rw [show spB V.sh.lo V.sh.hi = true from spB_iff.2 k.sp]; decide), if_neg (by show ¬ ((fil V.n V.hd V.L).length : Int) < (V.L.length : Int) + V.l.length; rw [fil_len]; have := k.room; omega), k.al_sh,
    if_neg (by rw [show rtB V.sh.lo V.sh.hi V.al = false from rtB_no.2 k.own]; decide), if_neg (by rw [dpB_no k.gd.2]; decide)]
theorem Vs.Ok.va (k : V.Ok) : shV V.sh = 0 := by
  unfold shV
  rw [if_neg (fun h => h k.rg), if_neg (fun h => h ((tbV_iff V.l V.h).2 k.tb)), if_pos (show V.sh.lv = true from rfl)]
  exact k.li
theorem Vs.Ok.ex (k : V.Ok) (b : Bool) : exS V.sh b = if b = true then 0 else 1 := by
  cases b with
  | true => exact exS_ok k.va rfl rfl
  | false => exact exS_num k.va rfl rfl
end
end Go.Proofs.Ytijpflljopckiaa
/- Plain: shards in memory: where the lists of a shard lie, a box of the call's own that holds a shard. -/
namespace Go.Proofs.Ytijpflljopckiaa
open Go.RowKit
set_option linter.unusedVariables false

/-- A shard as a value. -/
abbrev sv (S : Sh) (D : Sx) : Value := .agg #[.bool S.lv, .int .i64 S.lo, .int .i64 S.hi, .slice D.A S.cs.length D.c, .int .i64 S.hd, .int .i64 S.sz, .slice D.A2 S.l.length D.c2, .slice D.A3 S.h.length D.c3]
/-- The lists of a shard read so, and lie below B. -/
structure SR (W : World) (B : Nat) (S : Sh) (D : Sx) : Prop where
  ls : Ls W B (.slice D.A S.cs.length D.c) S.cs
  el : El W B (.slice D.A2 S.l.length D.c2) S.l
  dl : Dl W B (.slice D.A3 S.h.length D.c3) S.h
/-- The address of a row of n does not lie in block p. -/
def OffB (p n : Nat) (A : Option Addr) : Prop := 0 < n → ∀ a, A = some a → a.block ≠ p
theorem offb_none {p n : Nat} : OffB p n none := fun _ a h => by cases h
theorem offb_nw {p n lo : Nat} {A : Option Addr} (h : Nw lo A) (hp : p < lo) : OffB p n A := fun _ a e => by have := h a e; omega
/-- The lists of a shard do not lie in block p. -/
structure SOff (S : Sh) (D : Sx) (p : Nat) : Prop where
  o1 : OffB p S.cs.length D.A
  o2 : OffB p S.l.length D.A2
  o3 : OffB p S.h.length D.A3
/-- They lie from a block on. -/
structure Sx.nw (D : Sx) (lo : Nat) : Prop where
  n1 : Nw lo D.A
  n2 : Nw lo D.A2
  n3 : Nw lo D.A3
theorem Sx.nw.off {S : Sh} {D : Sx} {lo p : Nat} (h : D.nw lo) (hp : p < lo) : SOff S D p := ⟨offb_nw h.n1 hp, offb_nw h.n2 hp, offb_nw h.n3 hp⟩
theorem Sx.nw.low {D : Sx} {lo lo' : Nat} (h : D.nw lo) (hp : lo' ≤ lo) : D.nw lo' := ⟨nw_low h.n1 hp, nw_low h.n2 hp, nw_low h.n3 hp⟩
/-- Nowhere. -/
def zX : Sx := ⟨none, 0, none, 0, none, 0⟩
theorem zX_nw (lo : Nat) : zX.nw lo := ⟨nw_none, nw_none, nw_none⟩

section
variable {W W' : World} {B B' : Nat} {S : Sh} {D : Sx}
theorem SR.below (h : SR W B S D) (hb : Below B W W') : SR W' B S D := ⟨h.ls.below hb, h.el.below hb, h.dl.below hb⟩
theorem SR.more (h : SR W B S D) (hB : B ≤ B') : SR W B' S D := ⟨h.ls.more hB, h.el.more hB, h.dl.more hB⟩
theorem SR.up (h : SR W W.heap.size S D) (hb : Below W.heap.size W W') : SR W' W'.heap.size S D := (h.below hb).more hb.size
theorem SR.zero : SR W B zS zX := ⟨Ls.nil, El.nil, Dl.nil⟩
/-- Lists that lie below B do not lie in a block from B on. -/
theorem rd_off {size n : Nat} {A : Option Addr} {xs : List Value} (h : Rd W B size A n xs) {p : Nat} (hp : B ≤ p) : OffB p n A := fun hn a e => by
  obtain ⟨b, o, e2, hb, _⟩ := h.2 hn
  rw [e2] at e; injection e with e; subst e; show b ≠ p; omega
/-- A store into block p leaves a row that does not lie there. -/
theorem Rd.offp {size n : Nat} {A : Option Addr} {xs : List Value} (h : Rd W B size A n xs) {p : Addr} (ho : OffB p.block n A) (v : Value) : Rd (W.setCell p v) B size A n xs :=
  ⟨h.1, fun hn => by
    obtain ⟨b, o, e, hb, hc⟩ := h.2 hn
    have := ho hn _ e
    exact ⟨b, o, e, hb, fun j u hu => (World.cell?_setCell_other W p _ v (fun e' => by have e2 := congrArg Addr.block e'; simp at e2 this; omega)).trans (hc j u hu)⟩⟩
theorem Ls.offp {A : Option Addr} {n c : Nat} {l : List Msg} (h : Ls W B (.slice A n c) l) {p : Addr} (ho : OffB p.block n A) (v : Value) : Ls (W.setCell p v) B (.slice A n c) l := by
  obtain ⟨h1, h2, h3⟩ := h.len
  subst h1
  exact ⟨A, c, rfl, h2, h3, h.rd.offp ho v⟩
theorem El.offp {A : Option Addr} {n c : Nat} {l : List Le} (h : El W B (.slice A n c) l) {p : Addr} (ho : OffB p.block n A) (v : Value) : El (W.setCell p v) B (.slice A n c) l := by
  obtain ⟨h1, h2, h3⟩ := h.len
  subst h1
  exact ⟨A, c, rfl, h2, h3, h.rd.offp ho v⟩
theorem Dl.offp {A : Option Addr} {n c : Nat} {l : List Du} (h : Dl W B (.slice A n c) l) {p : Addr} (ho : OffB p.block n A) (v : Value) : Dl (W.setCell p v) B (.slice A n c) l := by
  obtain ⟨h1, h2, h3⟩ := h.len
  subst h1
  exact ⟨A, c, rfl, h2, h3, h.rd.offp ho v⟩
theorem SR.offp (h : SR W B S D) {p : Addr} (ho : SOff S D p.block) (v : Value) : SR (W.setCell p v) B S D := ⟨h.ls.offp ho.o1 v, h.el.offp ho.o2 v, h.dl.offp ho.o3 v⟩
end

/-- Block p holds a shard. -/
structure SB8 (W : World) (p : Nat) (S : Sh) (D : Sx) : Prop where
  c0 : W.cell? ⟨p, 0, none⟩ = some (.bool S.lv)
  c1 : W.cell? ⟨p, 1, none⟩ = some (.int .i64 S.lo)
  c2 : W.cell? ⟨p, 2, none⟩ = some (.int .i64 S.hi)
  c3 : W.cell? ⟨p, 3, none⟩ = some (.slice D.A S.cs.length D.c)
  c4 : W.cell? ⟨p, 4, none⟩ = some (.int .i64 S.hd)
  c5 : W.cell? ⟨p, 5, none⟩ = some (.int .i64 S.sz)
  c6 : W.cell? ⟨p, 6, none⟩ = some (.slice D.A2 S.l.length D.c2)
  c7 : W.cell? ⟨p, 7, none⟩ = some (.slice D.A3 S.h.length D.c3)
  fr : ∀ o, W.frozen? ⟨p, o, none⟩ = false
  lt : p < W.heap.size
section
variable {W W' : World} {p : Nat} {S : Sh} {D : Sx}
theorem SB8.keep (h : SB8 W p S D) (hc : ∀ o, W'.cell? ⟨p, o, none⟩ = W.cell? ⟨p, o, none⟩) (hf : ∀ o, W'.frozen? ⟨p, o, none⟩ = W.frozen? ⟨p, o, none⟩) (hs : W.heap.size ≤ W'.heap.size) : SB8 W' p S D :=
  ⟨(hc 0).trans h.c0, (hc 1).trans h.c1, (hc 2).trans h.c2, (hc 3).trans h.c3, (hc 4).trans h.c4, (hc 5).trans h.c5, (hc 6).trans h.c6, (hc 7).trans h.c7, fun o => (hf o).trans (h.fr o), Nat.lt_of_lt_of_le h.lt hs⟩
theorem SB8.below {B : Nat} (h : SB8 W p S D) (hb : Below B W W') (hp : p < B) : SB8 W' p S D := h.keep (fun o => hb.cell (p := ⟨p, o, none⟩) hp) (fun o => hb.frozen (p := ⟨p, o, none⟩) hp) hb.size
theorem SB8.up (h : SB8 W p S D) (hb : Below W.heap.size W W') : SB8 W' p S D := h.below hb h.lt
theorem SB8.other (h : SB8 W p S D) {q : Addr} (hq : q.block ≠ p) (v : Value) : SB8 (W.setCell q v) p S D :=
  h.keep (fun o => World.cell?_setCell_other W q _ v (fun e => hq (by rw [e]))) (fun o => by rw [World.frozen?_setCell]) (by simp)
theorem SB8.start (w : World) (S : Sh) (D : Sx) (t : TypeId) : SB8 (w.alloc (.cells #[.bool S.lv, .int .i64 S.lo, .int .i64 S.hi, .slice D.A S.cs.length D.c, .int .i64 S.hd, .int .i64 S.sz, .slice D.A2 S.l.length D.c2, .slice D.A3 S.h.length D.c3] t)) w.heap.size S D :=
  ⟨by simp [go_sem], by simp [go_sem], by simp [go_sem], by simp [go_sem], by simp [go_sem], by simp [go_sem], by simp [go_sem], by simp [go_sem], fun o => by simp [go_sem], by simp⟩
theorem SB8.zero (w : World) (t : TypeId) : SB8 (w.alloc (.cells #[.bool false, .int .i64 0, .int .i64 0, .slice none 0 0, .int .i64 0, .int .i64 0, .slice none 0 0, .slice none 0 0] t)) w.heap.size zS zX := SB8.start w zS zX t
/-- The cells as the walk reads them. -/
theorem SB8.facts (h : SB8 W p S D) : W.cell? ⟨p, 0, none⟩ = some (.bool S.lv) ∧ W.cell? ⟨p, 1, none⟩ = some (.int .i64 S.lo) ∧ W.cell? ⟨p, 2, none⟩ = some (.int .i64 S.hi) ∧ W.cell? ⟨p, 3, none⟩ = some (.slice D.A S.cs.length D.c) ∧ W.cell? ⟨p, 4, none⟩ = some (.int .i64 S.hd) ∧ W.cell? ⟨p, 5, none⟩ = some (.int .i64 S.sz) ∧ W.cell? ⟨p, 6, none⟩ = some (.slice D.A2 S.l.length D.c2) ∧ W.cell? ⟨p, 7, none⟩ = some (.slice D.A3 S.h.length D.c3) ∧ p < W.heap.size :=
  ⟨h.c0, h.c1, h.c2, h.c3, h.c4, h.c5, h.c6, h.c7, h.lt⟩
theorem SB8.free (h : SB8 W p S D) : W.frozen? ⟨p, 0, none⟩ = false ∧ W.frozen? ⟨p, 1, none⟩ = false ∧ W.frozen? ⟨p, 2, none⟩ = false ∧ W.frozen? ⟨p, 3, none⟩ = false ∧ W.frozen? ⟨p, 4, none⟩ = false ∧ W.frozen? ⟨p, 5, none⟩ = false ∧ W.frozen? ⟨p, 6, none⟩ = false ∧ W.frozen? ⟨p, 7, none⟩ = false :=
  ⟨h.fr 0, h.fr 1, h.fr 2, h.fr 3, h.fr 4, h.fr 5, h.fr 6, h.fr 7⟩
theorem addr_ne {p a b : Nat} (h : a ≠ b) : (⟨p, a, none⟩ : Addr) ≠ ⟨p, b, none⟩ := fun e => h (by injection e)
/-- The stores of a whole shard, as the walk has them. -/
abbrev set8s (W : World) (p : Nat) (S : Sh) (D : Sx) : World := (((((((W.setCell ⟨p, 0, none⟩ (.bool S.lv)).setCell ⟨p, 1, none⟩ (.int .i64 S.lo)).setCell ⟨p, 2, none⟩ (.int .i64 S.hi)).setCell ⟨p, 3, none⟩ (.slice D.A S.cs.length D.c)).setCell ⟨p, 4, none⟩ (.int .i64 S.hd)).setCell ⟨p, 5, none⟩ (.int .i64 S.sz)).setCell ⟨p, 6, none⟩ (.slice D.A2 S.l.length D.c2)).setCell ⟨p, 7, none⟩ (.slice D.A3 S.h.length D.c3)
def Sh.l8 (S : Sh) (D : Sx) : List Value := [.bool S.lv, .int .i64 S.lo, .int .i64 S.hi, .slice D.A S.cs.length D.c, .int .i64 S.hd, .int .i64 S.sz, .slice D.A2 S.l.length D.c2, .slice D.A3 S.h.length D.c3]
theorem set8s_eq (W : World) (p : Nat) (S : Sh) (D : Sx) : set8s W p S D = W.setCells p 0 (S.l8 D) := rfl
theorem set8s_size (W : World) (p : Nat) (S : Sh) (D : Sx) : (set8s W p S D).heap.size = W.heap.size := sets_size p (S.l8 D) 0 W
theorem set8s_below {B : Nat} {a : World} (hp : B ≤ p) (h : Below B a W) (S : Sh) (D : Sx) : Below B a (set8s W p S D) := sets_below hp (S.l8 D) 0 W h
theorem set8s_far {q : Addr} (hq : q.block ≠ p) : (set8s W p S D).cell? q = W.cell? q := sets_far hq 0 (S.l8 D)
theorem SB8.put {S0 : Sh} {D0 : Sx} (h : SB8 W p S0 D0) (S : Sh) (D : Sx) : SB8 (set8s W p S D) p S D := by
  have ht : ∀ j, j < (S.l8 D).length → (W.cell? ⟨p, 0 + j, none⟩).isSome = true := by
    intro j hj
    rw [Nat.zero_add]
    have hj8 : j < 8 := hj
    match j, hj8 with
    | 0, _ => rw [h.c0]; rfl
    | 1, _ => rw [h.c1]; rfl
    | 2, _ => rw [h.c2]; rfl
    | 3, _ => rw [h.c3]; rfl
    | 4, _ => rw [h.c4]; rfl
    | 5, _ => rw [h.c5]; rfl
    | 6, _ => rw [h.c6]; rfl
    | 7, _ => rw [h.c7]; rfl
  have g : ∀ j, j < 8 → (set8s W p S D).cell? ⟨p, j, none⟩ = (S.l8 D)[j]? := fun j hj => by
    have e := World.cell?_setCells_in p (S.l8 D) 0 W ht j hj
    rw [Nat.zero_add] at e
    rw [set8s_eq, e, List.getElem?_eq_getElem (show j < (S.l8 D).length from hj)]
    rfl
  exact ⟨g 0 (by decide), g 1 (by decide), g 2 (by decide), g 3 (by decide), g 4 (by decide), g 5 (by decide), g 6 (by decide), g 7 (by decide), fun o => by rw [set8s_eq, World.frozen?_setCells]; exact h.fr o, by rw [set8s_size]; exact h.lt⟩
end

/-- A box p of the call's own holds a shard whose lists do not lie there. -/
structure SAt (w : World) (p : Nat) (S : Sh) (D : Sx) (W : World) : Prop where
  s8 : SB8 W p S D
  sr : SR W W.heap.size S D
  off : SOff S D p
  bel : Below w.heap.size w W
  old : w.heap.size ≤ p
theorem SR.offs {w : World} {S : Sh} {D : Sx} {B p : Nat} (h : SR w B S D) (hp : B ≤ p) : SOff S D p := ⟨rd_off h.ls.rd hp, rd_off h.el.rd hp, rd_off h.dl.rd hp⟩
section
variable {w W W' : World} {p : Nat} {S : Sh} {D : Sx}
theorem SAt.below (h : SAt w p S D W) (hb : Below W.heap.size W W') : SAt w p S D W' := ⟨h.s8.up hb, h.sr.up hb, h.off, h.bel.trans (hb.mono h.bel.size), h.old⟩
theorem SAt.alloc (h : SAt w p S D W) (o : Obj) : SAt w p S D (W.alloc o) := h.below ((Below.refl _ _).alloc (Nat.le_refl _) o)
theorem SAt.drew (h : SAt w p S D W) : SAt w p S D W.drew := h.below ((Below.refl _ _).drew)
theorem SAt.start (t : TypeId) (h : SR w w.heap.size S D) : SAt w w.heap.size S D (w.alloc (.cells #[.bool S.lv, .int .i64 S.lo, .int .i64 S.hi, .slice D.A S.cs.length D.c, .int .i64 S.hd, .int .i64 S.sz, .slice D.A2 S.l.length D.c2, .slice D.A3 S.h.length D.c3] t)) :=
  ⟨SB8.start w S D t, h.up ((Below.refl _ _).alloc (Nat.le_refl _) _), h.offs (Nat.le_refl _), (Below.refl _ _).alloc (Nat.le_refl _) _, Nat.le_refl _⟩
theorem SR.sets (ho : SOff S D p) : ∀ (vs : List Value) (m : Nat) (W : World), SR W W.heap.size S D → SR (W.setCells p m vs) (W.setCells p m vs).heap.size S D
  | [], _, _, h => h
  | v :: r, m, W, h => SR.sets ho r (m + 1) _ ((h.offp (p := ⟨p, m, none⟩) ho v).more (by simp))
/-- One list laid anew. -/
theorem SAt.setA (h : SAt w p S D W) {A : Option Addr} {c : Nat} (hl : Ls W W.heap.size (.slice A S.cs.length c) S.cs) (ho : OffB p S.cs.length A) : SAt w p S ⟨A, c, D.A2, D.c2, D.A3, D.c3⟩ (W.setCell ⟨p, 3, none⟩ (.slice A S.cs.length c)) := by
  have g : ∀ (j : Nat) (v : Value), j ≠ 3 → W.cell? ⟨p, j, none⟩ = some v → (W.setCell ⟨p, 3, none⟩ (.slice A S.cs.length c)).cell? ⟨p, j, none⟩ = some v := fun j v h3 e => by
    rw [World.cell?_setCell_other _ _ _ _ (addr_ne h3.symm)]; exact e
  exact ⟨⟨g 0 _ (by decide) h.s8.c0, g 1 _ (by decide) h.s8.c1, g 2 _ (by decide) h.s8.c2, by rw [World.cell?_setCell_same' _ _ _ (by rw [h.s8.c3]; rfl)], g 4 _ (by decide) h.s8.c4, g 5 _ (by decide) h.s8.c5, g 6 _ (by decide) h.s8.c6, g 7 _ (by decide) h.s8.c7, fun o => by rw [World.frozen?_setCell]; exact h.s8.fr o, by simpa using h.s8.lt⟩,
    ⟨(hl.offp (p := ⟨p, 3, none⟩) ho _).more (by simp), (h.sr.el.offp (p := ⟨p, 3, none⟩) h.off.o2 _).more (by simp), (h.sr.dl.offp (p := ⟨p, 3, none⟩) h.off.o3 _).more (by simp)⟩, ⟨ho, h.off.o2, h.off.o3⟩, h.bel.setCell (p := ⟨p, 3, none⟩) h.old _, h.old⟩
theorem SAt.setL (h : SAt w p S D W) {A : Option Addr} {c : Nat} (hl : El W W.heap.size (.slice A S.l.length c) S.l) (ho : OffB p S.l.length A) : SAt w p S ⟨D.A, D.c, A, c, D.A3, D.c3⟩ (W.setCell ⟨p, 6, none⟩ (.slice A S.l.length c)) := by
  have g : ∀ (j : Nat) (v : Value), j ≠ 6 → W.cell? ⟨p, j, none⟩ = some v → (W.setCell ⟨p, 6, none⟩ (.slice A S.l.length c)).cell? ⟨p, j, none⟩ = some v := fun j v h3 e => by
    rw [World.cell?_setCell_other _ _ _ _ (addr_ne h3.symm)]; exact e
  exact ⟨⟨g 0 _ (by decide) h.s8.c0, g 1 _ (by decide) h.s8.c1, g 2 _ (by decide) h.s8.c2, g 3 _ (by decide) h.s8.c3, g 4 _ (by decide) h.s8.c4, g 5 _ (by decide) h.s8.c5, by rw [World.cell?_setCell_same' _ _ _ (by rw [h.s8.c6]; rfl)], g 7 _ (by decide) h.s8.c7, fun o => by rw [World.frozen?_setCell]; exact h.s8.fr o, by simpa using h.s8.lt⟩,
    ⟨(h.sr.ls.offp (p := ⟨p, 6, none⟩) h.off.o1 _).more (by simp), (hl.offp (p := ⟨p, 6, none⟩) ho _).more (by simp), (h.sr.dl.offp (p := ⟨p, 6, none⟩) h.off.o3 _).more (by simp)⟩, ⟨h.off.o1, ho, h.off.o3⟩, h.bel.setCell (p := ⟨p, 6, none⟩) h.old _, h.old⟩
theorem SAt.setH (h : SAt w p S D W) {A : Option Addr} {c : Nat} (hl : Dl W W.heap.size (.slice A S.h.length c) S.h) (ho : OffB p S.h.length A) : SAt w p S ⟨D.A, D.c, D.A2, D.c2, A, c⟩ (W.setCell ⟨p, 7, none⟩ (.slice A S.h.length c)) := by
  have g : ∀ (j : Nat) (v : Value), j ≠ 7 → W.cell? ⟨p, j, none⟩ = some v → (W.setCell ⟨p, 7, none⟩ (.slice A S.h.length c)).cell? ⟨p, j, none⟩ = some v := fun j v h3 e => by
    rw [World.cell?_setCell_other _ _ _ _ (addr_ne h3.symm)]; exact e
  exact ⟨⟨g 0 _ (by decide) h.s8.c0, g 1 _ (by decide) h.s8.c1, g 2 _ (by decide) h.s8.c2, g 3 _ (by decide) h.s8.c3, g 4 _ (by decide) h.s8.c4, g 5 _ (by decide) h.s8.c5, g 6 _ (by decide) h.s8.c6, by rw [World.cell?_setCell_same' _ _ _ (by rw [h.s8.c7]; rfl)], fun o => by rw [World.frozen?_setCell]; exact h.s8.fr o, by simpa using h.s8.lt⟩,
    ⟨(h.sr.ls.offp (p := ⟨p, 7, none⟩) h.off.o1 _).more (by simp), (h.sr.el.offp (p := ⟨p, 7, none⟩) h.off.o2 _).more (by simp), (hl.offp (p := ⟨p, 7, none⟩) ho _).more (by simp)⟩, ⟨h.off.o1, h.off.o2, ho⟩, h.bel.setCell (p := ⟨p, 7, none⟩) h.old _, h.old⟩
theorem SAt.put {S0 : Sh} {D0 : Sx} (h : SAt w p S0 D0 W) (hr : SR W W.heap.size S D) (ho : SOff S D p) : SAt w p S D (set8s W p S D) :=
  ⟨h.s8.put S D, SR.sets ho (S.l8 D) 0 W hr, ho, set8s_below h.old h.bel S D, h.old⟩
/-- Stores into another box. -/
theorem SAt.other (h : SAt w p S D W) {q : Addr} (hq : q.block ≠ p) (ho : SOff S D q.block) (hw : w.heap.size ≤ q.block) (v : Value) : SAt w p S D (W.setCell q v) :=
  ⟨h.s8.other hq v, (h.sr.offp ho v).more (by simp), h.off, h.bel.setCell hw v, h.old⟩
theorem SAt.put_far {q : Nat} (h : SAt w p S D W) (hq : q ≠ p) (ho : SOff S D q) (hw : w.heap.size ≤ q) (S' : Sh) (D' : Sx) : SAt w p S D (set8s W q S' D') :=
  ⟨h.s8.keep (fun o => set8s_far (q := ⟨p, o, none⟩) (fun e => hq e.symm)) (fun o => by rw [set8s_eq, World.frozen?_setCells]) (by rw [set8s_size]; exact Nat.le_refl _), SR.sets ho (S'.l8 D') 0 W h.sr, h.off, set8s_below hw h.bel S' D', h.old⟩
theorem SAt.lt (h : SAt w p S D W) : p < W.heap.size := h.s8.lt
end

/-- A shard as a result. -/
def SV (w : World) (S : Sh) (e : Ending) (w' : World) : Prop := ∃ D, e = .returned (sv S D) ∧ D.nw w.heap.size ∧ SR w' w'.heap.size S D ∧ Below w.heap.size w w'
/-- A shard and an error as a result. -/
def SE (w : World) (S : Sh) (x : Int) (e : Ending) (w' : World) : Prop := ∃ D, e = .returned (.tuple #[sv S D, .int .i64 x]) ∧ D.nw w.heap.size ∧ SR w' w'.heap.size S D ∧ Below w.heap.size w w'
end Go.Proofs.Ytijpflljopckiaa
namespace Go.Proofs.Ytijpflljopckiaa
open Go.RowKit
set_option linter.unusedVariables false

/-- A counter stripe. -/
structure St where
  sq : Int
  ep : Int
  rd : Int
  ls : Int
deriving DecidableEq
abbrev zSt : St := ⟨0, 0, 0, 0⟩
/-- The element at a place. -/
def tg (l : List St) (k : Nat) : St := l.getD k zSt
theorem tg_get {l : List St} {k : Nat} (h : k < l.length) : tg l k = l[k] := by simp [tg, List.getD, h]
/-- The cells of a stripe. -/
def St.l (d : St) : List Value := [.int .i64 d.sq, .int .i64 d.ep, .int .i64 d.rd, .int .i64 d.ls]
/-- The stripe as a value. -/
abbrev St.v (d : St) : Value := .agg #[.int .i64 d.sq, .int .i64 d.ep, .int .i64 d.rd, .int .i64 d.ls]
theorem St.l_len (d : St) : d.l.length = 4 := rfl
theorem St.l_one (d : St) : ∀ u ∈ d.l, u.oneCell' = true := by
  intro u hu
  simp only [St.l, List.mem_cons, List.not_mem_nil, or_false] at hu
  rcases hu with rfl | rfl | rfl | rfl <;> rfl
def tcs (l : List St) : List Value := l.flatMap St.l
theorem tcs_cons (d : St) (l : List St) : tcs (d :: l) = d.l ++ tcs l := rfl
theorem tcs_app (l m : List St) : tcs (l ++ m) = tcs l ++ tcs m := by simp [tcs]
theorem tcs_len (l : List St) : (tcs l).length = l.length * 4 := by
  induction l with
  | nil => rfl
  | cons d l ih => rw [tcs_cons, List.length_append, ih, St.l_len]; simp; omega
theorem tcs_drop (l : List St) (k : Nat) : (tcs l).drop (k * 4) = tcs (l.drop k) := by
  induction k generalizing l with
  | zero => simp
  | succ k ih =>
    cases l with
    | nil => simp [tcs]
    | cons d l =>
      rw [tcs_cons, List.drop_succ_cons, ← ih, show (k + 1) * 4 = d.l.length + k * 4 by rw [St.l_len]; omega, List.drop_append, List.drop_eq_nil_of_le (by omega)]
      simp
theorem tcs_take (l : List St) (k : Nat) : (tcs l).take (k * 4) = tcs (l.take k) := by
  induction k generalizing l with
  | zero => simp [tcs]
  | succ k ih =>
    cases l with
    | nil => simp [tcs]
    | cons d l =>
      rw [tcs_cons, List.take_succ_cons, tcs_cons, ← ih, show (k + 1) * 4 = d.l.length + k * 4 by rw [St.l_len]; omega, List.take_append, List.take_of_length_le (by omega)]
      simp
theorem tcs_at (l : List St) (k j : Nat) (hk : k < l.length) (hj : j < 4) : (tcs l)[k * 4 + j]? = l[k].l[j]? := by
  have h := tcs_drop l k
  have e : (tcs l)[k * 4 + j]? = ((tcs l).drop (k * 4))[j]? := by rw [List.getElem?_drop]
  rw [e, h, List.drop_eq_getElem_cons hk, tcs_cons, List.getElem?_append_left (by rw [St.l_len]; exact hj)]
theorem tcs_one (l : List St) : ∀ u ∈ tcs l, u.oneCell' = true := by
  intro u hu
  obtain ⟨M, _, h⟩ := List.mem_flatMap.1 hu
  exact M.l_one u h
theorem tcs_one1 (d : St) : tcs [d] = d.l := by simp [tcs]
/-- A value that is a slice, reads as these stripes and lies below B. -/
def Tl (w : World) (B : Nat) (v : Value) (l : List St) : Prop := ∃ A c, v = .slice A l.length c ∧ l.length ≤ c ∧ c ≤ maxLen ∧ Rd w B 4 A l.length (tcs l)
section
variable {w w' : World} {B B' : Nat} {v : Value} {l : List St} {A : Option Addr} {n c : Nat}
theorem Tl.nil : Tl w B (.slice none 0 0) [] := ⟨none, 0, rfl, Nat.le_refl _, Nat.zero_le _, Rd.nil none⟩
theorem Tl.keep (h : Tl w B v l) (hk : ∀ p : Addr, p.block < B → w'.cell? p = w.cell? p) : Tl w' B v l := by
  obtain ⟨A, c, e, hl, hm, h⟩ := h; exact ⟨A, c, e, hl, hm, h.keep hk⟩
theorem Tl.more (h : Tl w B v l) (hB : B ≤ B') : Tl w B' v l := by
  obtain ⟨A, c, e, hl, hm, h⟩ := h; exact ⟨A, c, e, hl, hm, h.more hB⟩
theorem Tl.below (h : Tl w B v l) (hb : Below B w w') : Tl w' B v l := h.keep fun _ hp => hb.cell hp
theorem Tl.up (h : Tl w w.heap.size v l) (hb : Below w.heap.size w w') : Tl w' w'.heap.size v l := (h.below hb).more hb.size
theorem Tl.alloc (h : Tl w B v l) (hB : B ≤ w.heap.size) (o : Obj) : Tl (w.alloc o) B v l := h.keep fun p hp => World.cell?_alloc_lt w o p (by omega)
theorem Tl.setCell (h : Tl w B v l) {p : Addr} (hB : B ≤ p.block) (u : Value) : Tl (w.setCell p u) B v l :=
  h.keep fun q hq => World.cell?_setCell_other w p q u (fun e => by subst e; omega)
theorem Tl.len (h : Tl w B (.slice A n c) l) : n = l.length ∧ n ≤ c ∧ c ≤ maxLen := by
  obtain ⟨A', c', e, hl, hm, h⟩ := h
  injection e with e1 e2 e3
  subst e2; subst e3
  exact ⟨rfl, hl, hm⟩
theorem Tl.rd (h : Tl w B (.slice A n c) l) : Rd w B 4 A n (tcs l) := by
  obtain ⟨A', c', e, hl, hm, h⟩ := h
  injection e with e1 e2 e3
  subst e1; subst e2
  exact h
theorem Tl.form (h : Tl w B v l) : ∃ A c, v = .slice A l.length c ∧ l.length ≤ c ∧ c ≤ maxLen := by
  obtain ⟨A, c, e, hl, hm, _⟩ := h; exact ⟨A, c, e, hl, hm⟩
theorem Tl.of_own {base : Nat} {e : TypeId} {n : Nat} (h : w.ownsRow base e 4 v n (tcs l)) : Tl w w.heap.size v l := by
  have hl : n = l.length := by have := h.1; rw [tcs_len] at this; omega
  subst hl
  rcases h.2 with ⟨hv, h0⟩ | ⟨g, cap, cur, hv, _, _, hl, hm, _⟩
  · subst hv; exact ⟨none, 0, by rw [h0], by omega, Nat.zero_le _, by rw [show l = [] from List.length_eq_zero_iff.1 h0]; exact Rd.nil _⟩
  · subst hv; exact ⟨_, cap, rfl, hl, hm, Rd.of_own h⟩
theorem Tl.offp (h : Tl w B (.slice A n c) l) {p : Addr} (ho : ∀ a, A = some a → 0 < n → a.block ≠ p.block) (v : Value) : Tl (w.setCell p v) B (.slice A n c) l := by
  obtain ⟨h1, h2, h3⟩ := h.len
  subst h1
  refine ⟨A, c, rfl, h2, h3, h.rd.1, fun hn => ?_⟩
  obtain ⟨b, o, e, hb, hc⟩ := h.rd.2 hn
  have := ho _ e hn
  exact ⟨b, o, e, hb, fun j u hu => (World.cell?_setCell_other w p _ v (fun e' => by have e2 := congrArg Addr.block e'; simp at e2 this; omega)).trans (hc j u hu)⟩
/-- The stripe at place k, and where it lies. -/
theorem Tl.atg {k : Nat} (h : Tl w B (.slice A n c) l) (hk : k < l.length) : ∃ b o, A = some ⟨b, o, none⟩ ∧ b < B ∧ w.cell? ⟨b, o + k * 4, none⟩ = some (.int .i64 (tg l k).sq) ∧ w.cell? ⟨b, o + k * 4 + 1, none⟩ = some (.int .i64 (tg l k).ep) ∧ w.cell? ⟨b, o + k * 4 + 2, none⟩ = some (.int .i64 (tg l k).rd) ∧ w.cell? ⟨b, o + k * 4 + 3, none⟩ = some (.int .i64 (tg l k).ls) := by
  have hn := h.len.1
  obtain ⟨b, o, e, hb, hc⟩ := h.rd.2 (by omega)
  have g : ∀ j u, j < 4 → l[k].l[j]? = some u → w.cell? ⟨b, o + k * 4 + j, none⟩ = some u := fun j u hj hu => by
    rw [Nat.add_assoc]; exact hc _ u (by rw [tcs_at l k j hk hj]; exact hu)
  rw [tg_get hk]
  exact ⟨b, o, e, hb, g 0 _ (by omega) rfl, g 1 _ (by omega) rfl, g 2 _ (by omega) rfl, g 3 _ (by omega) rfl⟩
/-- A cut l[:k]. -/
theorem Tl.upto {k : Nat} (h : Tl w B (.slice A n c) l) (hk : k ≤ l.length) : Tl w B (.slice A k c) (l.take k) := by
  obtain ⟨h1, h2, h3⟩ := h.len
  refine ⟨A, c, by rw [List.length_take, Nat.min_eq_left hk], by rw [List.length_take, Nat.min_eq_left hk]; omega, h3, ?_⟩
  rw [List.length_take, Nat.min_eq_left hk]
  refine ⟨by rw [tcs_len, List.length_take, Nat.min_eq_left hk], fun h0 => ?_⟩
  obtain ⟨b, o, e, hb, hc⟩ := h.rd.2 (by omega)
  exact ⟨b, o, e, hb, fun j u hu => hc j u (by
    rw [← tcs_take, List.getElem?_take] at hu
    split at hu
    · exact hu
    · cases hu)⟩
/-- A cut l[k:]. -/
theorem Tl.from {k : Nat} (h : Tl w B (.slice A n c) l) (hk : k ≤ l.length) : Tl w B (.slice (if c = k then A else A.map (·.add (k * 4))) (l.length - k) (c - k)) (l.drop k) := by
  obtain ⟨h1, h2, h3⟩ := h.len
  refine ⟨_, c - k, by rw [List.length_drop], by rw [List.length_drop]; omega, by omega, ?_⟩
  rw [List.length_drop]
  refine ⟨by rw [tcs_len, List.length_drop], fun h0 => ?_⟩
  obtain ⟨b, o, e, hb, hc⟩ := h.rd.2 (by omega)
  rw [if_neg (by omega), e]
  refine ⟨b, o + k * 4, by rw [Option.map_some, add_mk], hb, fun j u hu => ?_⟩
  rw [Nat.add_assoc]
  exact hc _ u (by rw [← tcs_drop, List.getElem?_drop] at hu; exact hu)
end


end Go.Proofs.Ytijpflljopckiaa
namespace Go.Proofs.Ytijpflljopckiaa
open Go.RowKit
set_option linter.unusedVariables false

/-- A number of 64 bits as a cell. -/
def i64v (z : Int) : Value := .int .i64 z

/-- Block g, from B on, is a source: a list that lies below B, and a position in it. -/
def SrcAt (W : World) (B g : Nat) : Prop := B ≤ g ∧ g < W.heap.size ∧ ∃ (A : Option Addr) (n c k : Nat) (zs : List Int),
  k ≤ n ∧ n ≤ 4000 ∧ n ≤ c ∧ c ≤ maxLen ∧ W.cell? ⟨g, 0, none⟩ = some (.slice A n c) ∧ W.cell? ⟨g, 1, none⟩ = some (.int .i64 k) ∧ W.frozen? ⟨g, 1, none⟩ = false ∧ Rd W B 1 A n (zs.map i64v) ∧ ∀ z ∈ zs, -9223372036854775808 ≤ z ∧ z ≤ 9223372036854775807

section
variable {W W' : World} {B g h : Nat}
theorem SrcAt.keep (s : SrcAt W B g) (hs : W.heap.size ≤ W'.heap.size) (h0 : ∀ o, W'.cell? ⟨g, o, none⟩ = W.cell? ⟨g, o, none⟩) (h1 : ∀ o, W'.frozen? ⟨g, o, none⟩ = W.frozen? ⟨g, o, none⟩) (hk : ∀ p : Addr, p.block < B → W'.cell? p = W.cell? p) : SrcAt W' B g := by
  obtain ⟨hB, hg, A, n, c, k, zs, a1, a2, a3, a4, a5, a6, a7, a8, a9⟩ := s
  exact ⟨hB, by omega, A, n, c, k, zs, a1, a2, a3, a4, (h0 0).trans a5, (h0 1).trans a6, (h1 1).trans a7, a8.keep hk, a9⟩
theorem SrcAt.grown (s : SrcAt W B g) (hg : W.grownBy W' (some h)) (hne : h ≠ g) (hB : B ≤ h) : SrcAt W' B g :=
  s.keep hg.size (fun o => hg.cell_far _ s.2.1 (fun e => hne (by injection e with e; exact e.symm))) (fun o => hg.frozen_far _ s.2.1 (fun e => hne (by injection e with e; exact e.symm)))
    (fun p hp => hg.cell_far p (by have := s.1; have := s.2.1; omega) (fun e => by injection e with e; omega))
theorem SrcAt.below (s : SrcAt W B g) (hb : Below W.heap.size W W') : SrcAt W' B g :=
  s.keep hb.size (fun o => hb.cell s.2.1) (fun o => hb.frozen s.2.1) (fun p hp => hb.cell (by have := s.1; have := s.2.1; omega))
theorem SrcAt.alloc (s : SrcAt W B g) (o : Obj) : SrcAt (W.alloc o) B g := s.below ((Below.refl _ _).alloc (Nat.le_refl _) o)
theorem SrcAt.drew (s : SrcAt W B g) : SrcAt W.drew B g := s
theorem SrcAt.drewN (s : SrcAt W B g) (n : Nat) : SrcAt (W.drewN n) B g := s
theorem SrcAt.other (s : SrcAt W B g) {p : Addr} (hp : p.block ≠ g) (hB : B ≤ p.block) (v : Value) : SrcAt (W.setCell p v) B g :=
  s.keep (by simp) (fun o => World.cell?_setCell_other W p _ v (fun e => hp (by rw [e]))) (fun o => by rw [World.frozen?_setCell]) (fun q hq => World.cell?_setCell_other W p q v (fun e => by rw [e] at hB; omega))

theorem SrcAt.next (s : SrcAt W B g) {A : Option Addr} {n c k : Nat} (h0 : W.cell? ⟨g, 0, none⟩ = some (.slice A n c)) (h1 : W.cell? ⟨g, 1, none⟩ = some (.int .i64 k)) (hk : k < n) : SrcAt (W.setCell ⟨g, 1, none⟩ (.int .i64 ((k : Int) + 1))) B g := by
  obtain ⟨hB, hg, A', n', c', k', zs, a1, a2, a3, a4, a5, a6, a7, a8, a9⟩ := s
  rw [h0] at a5
  injection a5 with a5
  injection a5 with e1 e2 e3
  subst e1; subst e2; subst e3
  refine ⟨hB, by simpa using hg, A, n, c, k + 1, zs, by omega, a2, a3, a4, (World.cell?_setCell_other W _ _ _ (fun e => by injection e; omega)).trans h0, ?_, by rw [World.frozen?_setCell]; exact a7, a8.setCell hB _, a9⟩
  simp [go_sem, h1]

theorem only_drewN {a w : World} {row : Option Nat} (h : a.grownBy w row) (n : Nat) : a.grownBy (w.drewN n) row := ⟨h.os, h.tape, h.output, h.size, h.block⟩
theorem only_drew {a w : World} {row : Option Nat} (h : a.grownBy w row) : a.grownBy w.drew row := ⟨h.os, h.tape, h.output, h.size, h.block⟩
theorem only_alloc {a w : World} {row : Option Nat} (h : a.grownBy w row) (o : Obj) : a.grownBy (w.alloc o) row :=
  ⟨h.os, h.tape, h.output, Nat.le_trans h.size (by simp), fun i hi hne => (Below.heap_alloc w o i (Nat.lt_of_lt_of_le hi h.size)).trans (h.block i hi hne)⟩
theorem only_set {a w : World} {g : Nat} (h : a.grownBy w (some g)) {p : Addr} (hp : p.block = g ∨ a.heap.size ≤ p.block) (u : Value) : a.grownBy (w.setCell p u) (some g) :=
  ⟨h.os, h.tape, h.output, by simpa [World.setCell] using h.size, fun i hi hne => (Below.heap_setCell w p u i (by
    rintro rfl
    rcases hp with hp | hp
    · exact hne (by rw [hp])
    · omega)).trans (h.block i hi hne)⟩
theorem only_below {a w w' : World} {g : Nat} (h : a.grownBy w (some g)) (hb : Below w.heap.size w w') : a.grownBy w' (some g) :=
  ⟨hb.os.trans h.os, hb.tape.trans h.tape, hb.output.trans h.output, Nat.le_trans h.size hb.size, fun i hi hne => (hb.block i (Nat.lt_of_lt_of_le hi h.size)).trans (h.block i hi hne)⟩
/-- A source lies behind B: what is below stays. -/
theorem below_only {B g : Nat} {a w w' : World} (h : Below B a w) (hg : w.grownBy w' (some g)) (hB : B ≤ g) (hz : B ≤ a.heap.size) : Below B a w' :=
  h.grown hg (Nat.le_trans hz h.size) (fun k hk => by injection hk with hk; omega)
end

/-- A call that reads a number of a source. -/
def SrInt (B g : Nat) (lo hi : Int) (w : World) (e : Ending) (w' : World) : Prop := ∃ x, e = .returned (.int .i64 x) ∧ lo ≤ x ∧ x ≤ hi ∧ SrcAt w' B g ∧ w.grownBy w' (some g)
end Go.Proofs.Ytijpflljopckiaa
namespace Go.Proofs.Ytijpflljopckiaa
open Go.RowKit
set_option linter.unusedVariables false

/-- A value that is a slice, reads as the numbers zs and lies below B. -/
def Ns (w : World) (B : Nat) (v : Value) (zs : List Int) : Prop := ∃ A c, v = .slice A zs.length c ∧ zs.length ≤ c ∧ c ≤ maxLen ∧ Rd w B 1 A zs.length (zs.map i64v) ∧ ∀ z ∈ zs, -9223372036854775808 ≤ z ∧ z ≤ 9223372036854775807

section
variable {w w' : World} {B B' : Nat} {v : Value} {zs : List Int}
theorem Ns.nil : Ns w B (.slice none 0 0) [] := ⟨none, 0, rfl, Nat.le_refl _, Nat.zero_le _, Rd.nil none, by simp⟩
theorem Ns.below (h : Ns w B v zs) (hb : Below B w w') : Ns w' B v zs := by
  obtain ⟨A, c, e, hl, hm, h, hz⟩ := h; exact ⟨A, c, e, hl, hm, h.below hb, hz⟩
theorem Ns.parts {A : Option Addr} {n c : Nat} (h : Ns w B (.slice A n c) zs) : n = zs.length ∧ n ≤ c ∧ c ≤ maxLen ∧ Rd w B 1 A n (zs.map i64v) ∧ ∀ z ∈ zs, -9223372036854775808 ≤ z ∧ z ≤ 9223372036854775807 := by
  obtain ⟨A', c', e, hl, hm, h, hz⟩ := h
  injection e with e1 e2 e3
  subst e1; subst e2; subst e3
  exact ⟨rfl, hl, hm, h, hz⟩
/-- From the way in which the guide opens a slice of numbers that came in. -/
theorem Ns.of_cells {a : Addr} {l c : Nat} {zs : List Int} (hl : l ≤ c) (hm : c ≤ maxLen) (hz : zs.length = c) (hc : ∀ i, i < zs.length → w.cell? (a.add i) = some (.int .i64 (zs.getD i 0))) (hw : ∀ n ∈ zs, (Lit.int .i64 n).wf = true) :
    ∃ ys, Ns w w.heap.size (.slice (some a) l c) ys := by
  have hlen : (zs.take l).length = l := by simp; omega
  refine ⟨zs.take l, some a, c, by rw [hlen], by omega, hm, ⟨by simp, fun hn => ?_⟩, fun z hz' => ?_⟩
  · rw [hlen] at hn
    obtain ⟨b, o, spot⟩ := a
    have h0 := hc 0 (by omega)
    have hspot : spot = none := by simpa [Addr.add] using World.cell?_spot h0
    subst hspot
    refine ⟨b, o, rfl, World.block_lt_of_cell? w ⟨b, o, none⟩ (by simpa [Addr.add] using h0), fun j u hu => ?_⟩
    simp only [List.getElem?_map, Option.map_eq_some_iff] at hu
    obtain ⟨x, hx, rfl⟩ := hu
    obtain ⟨hj, rfl⟩ := List.getElem?_eq_some_iff.1 hx
    have hj' : j < zs.length := by simp at hj; omega
    have h := hc j hj'
    rw [add_mk] at h
    rw [h]
    simp [i64v, List.getD, hj']
  · have := hw z (List.mem_of_mem_take hz')
    simp only [Lit.wf, Bool.and_eq_true, decide_eq_true_eq] at this
    exact this
end
end Go.Proofs.Ytijpflljopckiaa
