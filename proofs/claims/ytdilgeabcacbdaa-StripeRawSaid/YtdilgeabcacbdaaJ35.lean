/- What is proved here: Deliver of message and its reference, each by one contract for all arguments; Shq; shard.pull of what Take wants, by a contract. -/
import Derived.Test.YtdilgeabcacbdaaJ02
import Derived.Test.YtdilgeabcacbdaaJ09
import Derived.Test.YtdilgeabcacbdaaJ34
import Derived.Test.YtdilgeabcacbdaaJ32
import Derived.Test.YtdilgeabcacbdaaJ12
namespace Go.Proofs.Ytdilgeabcacbdaa
open Go.RowKit
set_option linter.unusedVariables false

/-- What Deliver returns. -/
def dlE (M : Msg) : Int := if vf M = 0 then (if M.gn = 65536 then 6 else if M.ct = 8 then 7 else 0) else vf M
def dlM (M : Msg) : Msg := if dlE M = 0 then ⟨M.id, M.rt, M.ep, M.ct + 1, M.gn + 1, M.st, M.bd⟩ else zM

end Go.Proofs.Ytdilgeabcacbdaa
/- Plain: picking the first messages that are wanted; granting them. -/
namespace Go.Proofs.Ytdilgeabcacbdaa
open Go.RowKit
set_option linter.unusedVariables false

/-- One step of picking: what was picked, what stays. -/
def pkS (mx : Nat) (p : Msg → Bool) (s : List Msg × List Msg) (M : Msg) : List Msg × List Msg := if s.1.length < mx ∧ p M = true then (s.1 ++ [M], s.2) else (s.1, s.2 ++ [M])
def pk (mx : Nat) (p : Msg → Bool) (L : List Msg) : List Msg × List Msg := L.foldl (pkS mx p) ([], [])
section
variable {mx : Nat} {p : Msg → Bool} {L : List Msg} {M : Msg} {i : Nat}
end
/-- A shard with other messages in its ring. -/
def Vs.ring (V : Vs) (L : List Msg) : Vs := ⟨V.lo, V.hi, V.n, V.hd, L, V.l, V.h⟩
/-- Grants to what was picked. -/
noncomputable def Vs.grs (dl : Int) (V : Vs) (T : List Msg) : Vs := T.foldl (fun V M => V.gr ⟨dlM M, dl⟩) V
/-- What Take makes of a shard. -/
noncomputable def Vs.take (V : Vs) (mx : Nat) (p : Msg → Bool) (dl : Int) : Vs := (V.ring (pk mx p V.L).2).grs dl (pk mx p V.L).1
section
variable {V : Vs} {dl : Int}
end
end Go.Proofs.Ytdilgeabcacbdaa
namespace Go.Proofs.Ytdilgeabcacbdaa
open Go.RowKit
set_option linter.unusedVariables false

/-- The boxes of the epoch and of the limit that Take's function value holds. -/
def CapAt (b1 b2 : Nat) (ep lim : Int) (W : World) : Prop := W.cell? ⟨b1, 0, none⟩ = some (.int .i64 ep) ∧ W.cell? ⟨b2, 0, none⟩ = some (.int .i64 lim) ∧ b1 < W.heap.size ∧ b2 < W.heap.size
theorem CapAt.below {b1 b2 : Nat} {ep lim : Int} {w W : World} (h : CapAt b1 b2 ep lim w) (hb : Below w.heap.size w W) : CapAt b1 b2 ep lim W :=
  ⟨(hb.cell (p := ⟨b1, 0, none⟩) h.2.2.1).trans h.1, (hb.cell (p := ⟨b2, 0, none⟩) h.2.2.2).trans h.2.1, Nat.lt_of_lt_of_le h.2.2.1 hb.size, Nat.lt_of_lt_of_le h.2.2.2 hb.size⟩
section
variable {V : Vs} {mx : Nat} {f : Msg → Bool} {i : Nat}
end
theorem Ls.grownR {W W' : World} {B n c : Nat} {A : Option Addr} {l : List Msg} (h : Ls W B (.slice A n c) l) (hB : B ≤ W.heap.size) {row : Option Nat} (hg : W.grownBy W' row) (ho : ∀ q, row = some q → OffB q n A) : Ls W' B (.slice A n c) l := by
  obtain ⟨h1, h2, h3⟩ := h.len
  subst h1
  refine ⟨A, c, rfl, h2, h3, h.rd.1, fun hn => ?_⟩
  obtain ⟨b, o, e, hb, hc⟩ := h.rd.2 hn
  exact ⟨b, o, e, hb, fun j u hu => (hg.cell_far ⟨b, o + j, none⟩ (Nat.lt_of_lt_of_le hb hB) (fun e' => ho b e'.symm hn _ e rfl)).trans (hc j u hu)⟩
theorem El.grownR {W W' : World} {B n c : Nat} {A : Option Addr} {l : List Le} (h : El W B (.slice A n c) l) (hB : B ≤ W.heap.size) {row : Option Nat} (hg : W.grownBy W' row) (ho : ∀ q, row = some q → OffB q n A) : El W' B (.slice A n c) l := by
  obtain ⟨h1, h2, h3⟩ := h.len
  subst h1
  refine ⟨A, c, rfl, h2, h3, h.rd.1, fun hn => ?_⟩
  obtain ⟨b, o, e, hb, hc⟩ := h.rd.2 hn
  exact ⟨b, o, e, hb, fun j u hu => (hg.cell_far ⟨b, o + j, none⟩ (Nat.lt_of_lt_of_le hb hB) (fun e' => ho b e'.symm hn _ e rfl)).trans (hc j u hu)⟩
theorem Dl.grownR {W W' : World} {B n c : Nat} {A : Option Addr} {l : List Du} (h : Dl W B (.slice A n c) l) (hB : B ≤ W.heap.size) {row : Option Nat} (hg : W.grownBy W' row) (ho : ∀ q, row = some q → OffB q n A) : Dl W' B (.slice A n c) l := by
  obtain ⟨h1, h2, h3⟩ := h.len
  subst h1
  refine ⟨A, c, rfl, h2, h3, h.rd.1, fun hn => ?_⟩
  obtain ⟨b, o, e, hb, hc⟩ := h.rd.2 hn
  exact ⟨b, o, e, hb, fun j u hu => (hg.cell_far ⟨b, o + j, none⟩ (Nat.lt_of_lt_of_le hb hB) (fun e' => ho b e'.symm hn _ e rfl)).trans (hc j u hu)⟩
theorem SAt.grown {w W W' : World} {p : Nat} {S : Sh} {D : Sx} (h : SAt w p S D W) {row : Option Nat} (hg : W.grownBy W' row) (ho : ∀ q, row = some q → SOff S D q ∧ p < q) : SAt w p S D W' :=
  ⟨h.s8.grown hg (fun x e => by have := (ho x e).2; omega), ⟨(h.sr.ls.grownR (Nat.le_refl _) hg (fun q e => (ho q e).1.o1)).more hg.size, (h.sr.el.grownR (Nat.le_refl _) hg (fun q e => (ho q e).1.o2)).more hg.size, (h.sr.dl.grownR (Nat.le_refl _) hg (fun q e => (ho q e).1.o3)).more hg.size⟩, h.off,
   h.bel.grown hg h.bel.size (fun x e => by have := (ho x e).2; have := h.old; omega), h.old⟩
/-- The work of pull: the shard, the result box, the list that is gone through, the list that is made. -/
structure PullAt (w : World) (p r B : Nat) (S : Sh) (D : Sx) (A0 : Option Addr) (c0 : Nat) (L : List Msg) (lv : Value) (T : List Msg) (W : World) : Prop where
  sa : SAt w p S D W
  rs : SB8 W r zS zX
  l0 : Ls W B (.slice A0 L.length c0) L
  o0 : OffB p L.length A0
  own : W.ownsRow B 92 7 lv T.length (lcs T)
  dj : ∀ q, lv.ownBlock = some q → SOff S D q
  dr : D.nw (r + 1)
  ne : p < r ∧ r < B ∧ B ≤ W.heap.size
section
variable {w W W' : World} {p r B c0 : Nat} {S : Sh} {D : Sx} {A0 : Option Addr} {L T : List Msg} {lv : Value}
theorem own_below {base e size n : Nat} {v : Value} {xs : List Value} (h : W.ownsRow base e size v n xs) (hb : Below W.heap.size W W') : W'.ownsRow base e size v n xs := by
  refine ⟨h.1, h.2.imp_right fun ⟨g, cap, cur, hv, hg, hh, r⟩ => ⟨g, cap, cur, hv, hg, ?_, r⟩⟩
  rw [← hh]
  exact hb.block g (Array.getElem?_eq_some_iff.1 hh).1
theorem PullAt.below (h : PullAt w p r B S D A0 c0 L lv T W) (hb : Below W.heap.size W W') : PullAt w p r B S D A0 c0 L lv T W' :=
  ⟨h.sa.below hb, h.rs.up hb, h.l0.below (hb.mono h.ne.2.2), h.o0, own_below h.own hb, h.dj, h.dr, h.ne.1, h.ne.2.1, Nat.le_trans h.ne.2.2 hb.size⟩
end
end Go.Proofs.Ytdilgeabcacbdaa
