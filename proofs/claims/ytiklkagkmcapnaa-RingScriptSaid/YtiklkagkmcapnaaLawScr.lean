/- What is proved here: shardqueuelaw04.RingScript returns true for every input and leaves its arguments as they were. No condition. -/
import Derived.Test.YtiklkagkmcapnaaJ26
import Derived.Test.YtiklkagkmcapnaaJ15
import Derived.Test.YtiklkagkmcapnaaJ18
import Derived.Test.YtiklkagkmcapnaaJ10
import Derived.Test.YtiklkagkmcapnaaJ11
import Derived.Test.YtiklkagkmcapnaaJ20
import Derived.Test.YtiklkagkmcapnaaJ22
import Derived.ProofKit
import Derived.OpenShut
import Derived.ShutString
import Derived.ChangeOld
namespace Go.Proofs.Ytiklkagkmcapnaa
open Go.RowKit
set_option linter.unusedVariables false

section
variable {A : Option Addr} {c k hd : Nat} {L : List Msg} {M : Msg} {W : World}
theorem pb_ok (k1 : 1 ≤ k) (k2 : k ≤ 12) (hh : hd < k) (hL : L.length < k) (hg : Gd L) (hM : vf M = 0) (hi : ∀ N ∈ L, N.id ≠ M.id) (h : Ls W W.heap.size (.slice A k c) (fil k hd L)) :
    Calls Try.prog 20 #[.agg #[.slice A k c, .int .i64 hd, .int .i64 L.length], M.v] W (RP W (fil k hd (L ++ [M])) hd ((L ++ [M]).length : Nat) 0) := by
  have := pback_any A k c (fil k hd L) hd L.length M W h
  rw [puE_fil k1 k2 hh hL hg hM hi, pbC_fil k1 k2 hh hL hg hM hi, show ifE 0 (hd : Int) = hd from rfl, show ifE 0 ((L.length : Int) + 1) = (((L ++ [M]).length : Nat) : Int) by simp [ifE]] at this
  exact this
theorem pb_full (k1 : 1 ≤ k) (k2 : k ≤ 12) (hh : hd < k) (hL : L.length = k) (hg : Gd L) (hM : vf M = 0) (h : Ls W W.heap.size (.slice A k c) (fil k hd L)) :
    Calls Try.prog 20 #[.agg #[.slice A k c, .int .i64 hd, .int .i64 L.length], M.v] W (RP W (pbC (fil k hd L) hd L.length M) 0 0 3) := by
  have := pback_any A k c (fil k hd L) hd L.length M W h
  rw [puE_full k1 k2 hh hL hg hM, show ifE 3 (hd : Int) = 0 from rfl, show ifE 3 ((L.length : Int) + 1) = 0 from rfl] at this
  exact this
theorem pf_ok (k1 : 1 ≤ k) (k2 : k ≤ 12) (hh : hd < k) (hL : L.length < k) (hg : Gd L) (hM : vf M = 0) (hi : ∀ N ∈ L, N.id ≠ M.id) (h : Ls W W.heap.size (.slice A k c) (fil k hd L)) :
    Calls Try.prog 21 #[.agg #[.slice A k c, .int .i64 hd, .int .i64 L.length], M.v] W (RP W (fil k ((hd + (k - 1)) % k) (M :: L)) ((hd + (k - 1)) % k : Nat) ((M :: L).length : Nat) 0) := by
  have := pfront_any A k c (fil k hd L) hd L.length M W h
  rw [puE_fil k1 k2 hh hL hg hM hi, (pfC_fil k1 k2 hh hL hg hM hi).1, (pfC_fil k1 k2 hh hL hg hM hi).2, show ifE 0 ((L.length : Int) + 1) = (((M :: L).length : Nat) : Int) by simp [ifE]] at this
  exact this
theorem pf_full (k1 : 1 ≤ k) (k2 : k ≤ 12) (hh : hd < k) (hL : L.length = k) (hg : Gd L) (hM : vf M = 0) (h : Ls W W.heap.size (.slice A k c) (fil k hd L)) :
    Calls Try.prog 21 #[.agg #[.slice A k c, .int .i64 hd, .int .i64 L.length], M.v] W (RP W (pfC (fil k hd L) hd L.length M) 0 0 3) := by
  have := pfront_any A k c (fil k hd L) hd L.length M W h
  have hp := puE_full k1 k2 hh hL hg hM
  rw [hp, show pfH (fil k hd L) (hd : Int) (L.length : Int) M = 0 by unfold pfH; rw [if_neg (by rw [hp]; decide)], show ifE 3 ((L.length : Int) + 1) = 0 from rfl] at this
  exact this
theorem qf_ok {r : List Msg} (k1 : 1 ≤ k) (k2 : k ≤ 12) (hh : hd < k) (hL : (M :: r).length ≤ k) (hg : Gd (M :: r)) (h : Ls W W.heap.size (.slice A k c) (fil k hd (M :: r))) :
    Calls Try.prog 22 #[.agg #[.slice A k c, .int .i64 hd, .int .i64 (M :: r).length]] W (RMP W (fil k ((hd + 1) % k) r) ((hd + 1) % k : Nat) (r.length : Nat) M 0) := by
  have := pfpop_any A k c (fil k hd (M :: r)) hd (M :: r).length W h
  obtain ⟨h0, h1, h2, h3⟩ := qf_fil k1 k2 hh hL hg
  rw [h0, h1, h2, h3, show ifE 0 (((M :: r).length : Int) - 1) = ((r.length : Nat) : Int) by simp [ifE]] at this
  exact this
theorem qf_no (k1 : 1 ≤ k) (k2 : k ≤ 12) (hh : hd < k) (h : Ls W W.heap.size (.slice A k c) (fil k hd [])) :
    Calls Try.prog 22 #[.agg #[.slice A k c, .int .i64 hd, .int .i64 0]] W (RMP W (qfC (fil k hd []) hd 0) 0 0 (qfM (fil k hd []) hd 0) 4) := by
  have := pfpop_any A k c (fil k hd []) hd 0 W h
  have hp : poE (fil k hd []) (hd : Int) 0 = 4 := po_fil k1 k2 hh (l := []) (by simp) gd_nil
  rw [hp, show qfH (fil k hd []) (hd : Int) 0 = 0 by unfold qfH; rw [if_neg (by rw [hp]; decide)], show ifE 4 ((0 : Int) - 1) = 0 from rfl] at this
  exact this
theorem qb_ok (k1 : 1 ≤ k) (k2 : k ≤ 12) (hh : hd < k) (hL : L.length ≤ k) (hg : Gd L) {y : Nat} (hy : L.length = y + 1) (h : Ls W W.heap.size (.slice A k c) (fil k hd L)) :
    Calls Try.prog 23 #[.agg #[.slice A k c, .int .i64 hd, .int .i64 L.length]] W (RMP W (fil k hd (L.take y)) hd ((L.take y).length : Nat) (L[y]'(by omega)) 0) := by
  have := pbpop_any A k c (fil k hd L) hd L.length W h
  obtain ⟨h0, h1, h2⟩ := qb_fil k1 k2 hh hL hg (by omega)
  have e : L.length - 1 = y := by omega
  rw [h0, h1, h2, show ifE 0 (hd : Int) = hd from rfl, show ifE 0 ((L.length : Int) - 1) = (((L.take y).length : Nat) : Int) by simp [ifE]; omega] at this
  simp only [e] at this
  exact this
theorem qb_no (k1 : 1 ≤ k) (k2 : k ≤ 12) (hh : hd < k) (h : Ls W W.heap.size (.slice A k c) (fil k hd [])) :
    Calls Try.prog 23 #[.agg #[.slice A k c, .int .i64 hd, .int .i64 0]] W (RMP W (qbC (fil k hd []) hd 0) 0 0 (qbM (fil k hd []) hd 0) 4) := by
  have := pbpop_any A k c (fil k hd []) hd 0 W h
  have hp : poE (fil k hd []) (hd : Int) 0 = 4 := po_fil k1 k2 hh (l := []) (by simp) gd_nil
  rw [hp, show ifE 4 (hd : Int) = 0 from rfl, show ifE 4 ((0 : Int) - 1) = 0 from rfl] at this
  exact this
theorem li_ok (k1 : 1 ≤ k) (k2 : k ≤ 12) (hh : hd < k) (hL : L.length ≤ k) (hg : Gd L) (h : Ls W W.heap.size (.slice A k c) (fil k hd L)) :
    Calls Try.prog 25 #[.agg #[.slice A k c, .int .i64 hd, .int .i64 L.length]] W (LsP L W) := by
  have := glist_any A k c (fil k hd L) hd L.length W h
  rw [lsF_fil k1 k2 hh hL hg] at this
  exact this
end

/-- What the statement holds at the head of a round: the source, the ring and the list that it should be. -/
structure RsAt (w : World) (g p Bd : Nat) (A : Option Addr) (k c hd : Nat) (L : List Msg) (v : Value) (i : Nat) (W : World) : Prop where
  bu : BuAt w g p Bd A k c hd L.length (fil k hd L) W
  wn : Wn W (p + 1) Bd v L
  ok : hd < k ∧ L.length ≤ k ∧ Gd L ∧ ∀ N ∈ L, 1 ≤ N.id ∧ N.id < i
/-- In the midst of a round: with the message and the two results. -/
structure RtAt (w : World) (g p Bd : Nat) (A : Option Addr) (k c hd : Nat) (L : List Msg) (v : Value) (m x q : Nat) (M : Msg) (A1 : Option Addr) (n1 c1 : Nat) (h1 z1 : Int) (X : Msg) (W : World) : Prop where
  bu : BuAt w g p Bd A k c hd L.length (fil k hd L) W
  wn : Wn W (p + 1) Bd v L
  mm : MAt W m M.nth M.bd
  rx : RB W x A1 n1 c1 h1 z1
  mq : MAt W q X.nth X.bd
  old : p < m ∧ Bd ≤ m ∧ m < x ∧ x < q
section
variable {w W W' : World} {g p Bd Bd' k c hd m x q n1 c1 i i' : Nat} {A A1 : Option Addr} {L L' : List Msg} {v v' : Value} {M X : Msg} {h1 z1 : Int}
theorem RsAt.below (h : RsAt w g p Bd A k c hd L v i W) (hb : Below W.heap.size W W') : RsAt w g p Bd A k c hd L v i W' := ⟨h.bu.below hb, h.wn.below h.bu.old.2.2 hb, h.ok⟩
theorem RsAt.grownG (h : RsAt w g p Bd A k c hd L v i W) (hs : SrcAt W' w.heap.size g) (hg : W.grownBy W' (some g)) : RsAt w g p Bd A k c hd L v i W' := ⟨h.bu.grownG hs hg, h.wn.grown h.bu.old.2.2 hg (fun y e => by injection e with e; subst e; left; have := h.bu.old; omega), h.ok⟩
theorem BuAt.rest {cs : List Msg} (h : BuAt w g p Bd A k c hd z1 cs W) (hB : Bd ≤ Bd') (hW : Bd' ≤ W.heap.size) : BuAt w g p Bd' A k c hd z1 cs W := ⟨h.src, h.rb, h.ls.more hB, h.offg, h.offp, h.bel, h.old.1, h.old.2.1, hW⟩
theorem RsAt.now (h : RsAt w g p Bd A k c hd L v i W) (hi : i ≤ i') : RsAt w g p W.heap.size A k c hd L v i' W := ⟨h.bu.rest h.bu.old.2.2 (Nat.le_refl _), h.wn.more h.bu.old.2.2, h.ok.1, h.ok.2.1, h.ok.2.2.1, fun N hN => by have := h.ok.2.2.2 N hN; omega⟩
theorem RtAt.below (h : RtAt w g p Bd A k c hd L v m x q M A1 n1 c1 h1 z1 X W) (hb : Below W.heap.size W W') : RtAt w g p Bd A k c hd L v m x q M A1 n1 c1 h1 z1 X W' :=
  ⟨h.bu.below hb, h.wn.below h.bu.old.2.2 hb, h.mm.below hb h.mm.1, h.rx.below hb h.rx.lt, h.mq.below hb h.mq.1, h.old⟩
theorem RtAt.drewN (h : RtAt w g p Bd A k c hd L v m x q M A1 n1 c1 h1 z1 X W) (j : Nat) : RtAt w g p Bd A k c hd L v m x q M A1 n1 c1 h1 z1 X (W.drewN j) :=
  h.below (below_drewN (Below.refl _ _) j)
theorem RtAt.grownG (h : RtAt w g p Bd A k c hd L v m x q M A1 n1 c1 h1 z1 X W) (hs : SrcAt W' w.heap.size g) (hg : W.grownBy W' (some g)) : RtAt w g p Bd A k c hd L v m x q M A1 n1 c1 h1 z1 X W' := by
  have hgp := h.bu.old.2.1
  have ho := h.old
  exact ⟨h.bu.grownG hs hg, h.wn.grown h.bu.old.2.2 hg (fun y e => by injection e with e; subst e; left; omega), h.mm.grown hg (by omega), h.rx.grownG hg (by omega), h.mq.grown hg (by omega), h.old⟩
/-- A row that is appended to. -/
theorem RtAt.row (h : RtAt w g p Bd A k c hd L v m x q M A1 n1 c1 h1 z1 X W) {row : Option Nat} (hg : W.grownBy W' row) (hr : ∀ b, row = some b → p + 1 ≤ b ∧ b < Bd) : RB W' x A1 n1 c1 h1 z1 := by
  have hne : some x ≠ row := fun e => by have := hr x e.symm; have := h.old; omega
  exact ⟨Nat.lt_of_lt_of_le h.rx.lt hg.size, (hg.cell_far _ h.rx.lt hne).trans h.rx.c0, (hg.cell_far _ h.rx.lt hne).trans h.rx.c1, (hg.cell_far _ h.rx.lt hne).trans h.rx.c2, fun o => (hg.frozen_far _ h.rx.lt hne).trans (h.rx.fr o)⟩
theorem BuAt.set3 {cs : List Msg} (h : BuAt w g p Bd A k c hd z1 cs W) {x : Nat} (hx : p < x ∧ Bd ≤ x) (a b d : Value) : BuAt w g p Bd A k c hd z1 cs (((W.setCell ⟨x, 0, none⟩ a).setCell ⟨x, 1, none⟩ b).setCell ⟨x, 2, none⟩ d) := by
  have hg : x ≠ g := by have := h.old; omega
  have hw : w.heap.size ≤ x := by have := h.old; omega
  exact ⟨((h.src.other (p := ⟨x, 0, none⟩) hg hw _).other (p := ⟨x, 1, none⟩) hg hw _).other (p := ⟨x, 2, none⟩) hg hw _, h.rb.set3 (by omega) _ _ _, h.ls.set3 hx.2 _ _ _, h.offg, h.offp, ((h.bel.setCell (p := ⟨x, 0, none⟩) hw _).setCell (p := ⟨x, 1, none⟩) hw _).setCell (p := ⟨x, 2, none⟩) hw _, by simpa using h.old⟩
theorem BuAt.lit7 {cs : List Msg} (h : BuAt w g p Bd A k c hd z1 cs W) {x : Nat} (hx : p < x ∧ Bd ≤ x) (X : Msg) : BuAt w g p Bd A k c hd z1 cs (set7 W x 0 X) := by
  have hg : x ≠ g := by have := h.old; omega
  have hw : w.heap.size ≤ x := by have := h.old; omega
  exact ⟨src7 h.src hg hw _ _ _ _ _ _ _, h.rb.lit7 (by omega) X, h.ls.sets (m := 0) hx.2 X.l, h.offg, h.offp, below7 h.bel hw _ _ _ _ _ _ _, by simpa using h.old⟩
/-- The result's ring is stored. -/
theorem RtAt.setx (h : RtAt w g p Bd A k c hd L v m x q M A1 n1 c1 h1 z1 X W) (B : Option Addr) (n d : Nat) (y z : Int) : RtAt w g p Bd A k c hd L v m x q M B n d y z X (((W.setCell ⟨x, 0, none⟩ (.slice B n d)).setCell ⟨x, 1, none⟩ (.int .i64 y)).setCell ⟨x, 2, none⟩ (.int .i64 z)) := by
  have ho := h.old
  exact ⟨h.bu.set3 (by omega) _ _ _, h.wn.set3 (by omega) _ _ _, h.mm.set3 (by omega) _ _ _, h.rx.all B n d y z, h.mq.set3 (by omega) _ _ _, h.old⟩
/-- The result's message is stored. -/
theorem RtAt.setq (h : RtAt w g p Bd A k c hd L v m x q M A1 n1 c1 h1 z1 X W) (Z : Msg) : RtAt w g p Bd A k c hd L v m x q M A1 n1 c1 h1 z1 Z (set7 W q 0 Z) := by
  have ho := h.old
  exact ⟨h.bu.lit7 (by omega) Z, h.wn.set7 (by omega) Z, h.mm.lit7 (by omega) Z, h.rx.lit7 (by omega) Z, h.mq.own7 Z, h.old⟩
/-- The new ring is taken over. -/
theorem rs_take {v' : Value} {i : Nat} {w W : World} {g p k c lo : Nat} {A A1 : Option Addr} {hd z : Int} {L' : List Msg} {c1 h1 : Nat} (hs : SrcAt W w.heap.size g) (hrb : RB W p A k c hd z) (hbel : Below w.heap.size w W) (hgp : w.heap.size ≤ g ∧ g < p) (hnw : Nw lo A1) (hlo : p < lo) (hls : Ls W W.heap.size (.slice A1 k c1) (fil k h1 L')) (hwn : Wn W (p + 1) W.heap.size v' L') (hok : h1 < k ∧ L'.length ≤ k ∧ Gd L' ∧ ∀ N ∈ L', 1 ≤ N.id ∧ N.id < i) :
    RsAt w g p W.heap.size A1 k c1 h1 L' v' i (((W.setCell ⟨p, 0, none⟩ (.slice A1 k c1)).setCell ⟨p, 1, none⟩ (.int .i64 h1)).setCell ⟨p, 2, none⟩ (.int .i64 L'.length)) := by
  have hg : p ≠ g := by omega
  have hw : w.heap.size ≤ p := by omega
  exact ⟨⟨((hs.other (p := ⟨p, 0, none⟩) hg hw _).other (p := ⟨p, 1, none⟩) hg hw _).other (p := ⟨p, 2, none⟩) hg hw _, hrb.all A1 k c1 h1 L'.length, hls.off3 hnw hlo _ _ _, off_nw hnw (by omega), off_nw hnw hlo, ((hbel.setCell (p := ⟨p, 0, none⟩) hw _).setCell (p := ⟨p, 1, none⟩) hw _).setCell (p := ⟨p, 2, none⟩) hw _, hgp.1, hgp.2, by simp⟩, hwn.set3 (.inl (Nat.lt_succ_self p)) _ _ _, hok⟩
end

/-- What is left of it while a list grows. -/
structure RwAt (w : World) (g p : Nat) (A : Option Addr) (k c : Nat) (hd sz : Int) (W : World) : Prop where
  src : SrcAt W w.heap.size g
  rb : RB W p A k c hd sz
  bel : Below w.heap.size w W
  old : w.heap.size ≤ g ∧ g < p
theorem mat_c7 {W : World} {q : Nat} {X : Msg} (h : MAt W q X.nth X.bd) : W.cell? ⟨q, 0, none⟩ = some (.int .i64 X.id) ∧ W.cell? ⟨q, 1, none⟩ = some (.int .i64 X.rt) ∧ W.cell? ⟨q, 2, none⟩ = some (.int .i64 X.ep) ∧ W.cell? ⟨q, 3, none⟩ = some (.int .i64 X.ct) ∧ W.cell? ⟨q, 4, none⟩ = some (.int .i64 X.gn) ∧ W.cell? ⟨q, 5, none⟩ = some (.int .i64 X.st) ∧ W.cell? ⟨q, 6, none⟩ = some (.string X.bd) := h.facts.1
theorem wn_back {W : World} {base Bd : Nat} {v : Value} {L L' : List Msg} {M : Msg} (h : Wn W base Bd v (L ++ [M])) (e : L' = L ++ [M]) : Wn W base Bd v L' := e ▸ h
theorem wn_front {W : World} {base base' : Nat} {v : Value} {L L' : List Msg} {M : Msg} {e : TypeId} (h : W.ownsRow base' e 7 v (1 + L.length) (M.l ++ lcs L)) (he : L' = M :: L) (hb : base ≤ base') : Wn W base W.heap.size v L' := by
  subst he
  refine Wn.own (base' := base') (e := e) ?_ hb
  rw [show (M :: L).length = 1 + L.length by simp; omega]
  exact h
theorem own_new {b x n c H : Nat} (e : Value.ownBlock (.slice (some ⟨x, 0, none⟩) n c) = some b) (h : H ≤ x) : H ≤ b := by
  simp [Value.ownBlock] at e
  omega
theorem lit_own (W : World) (b : Nat) (hb : b = W.heap.size) (M : Msg) (t : TypeId) : (W.alloc (.cells M.cs t)).ownsRow b t 7 (.slice (some ⟨b, 0, none⟩) 1 1) 1 M.l := by
  subst hb
  exact World.ownsRow_lit W M.cs 1 (Nat.le_refl _) (by unfold maxLen; omega) rfl
theorem mem_last {L : List Msg} {M N : Msg} (h : N ∈ L ++ [M]) : N = M ∨ N ∈ L := by
  rcases List.mem_append.1 h with h | h
  · exact .inr h
  · exact .inl (List.mem_singleton.1 h)
theorem msg_at (w : World) (M : Msg) (t : TypeId) {b : Nat} (hb : b = w.heap.size) : ∀ j u, M.l[j]? = some u → (w.alloc (.cells M.cs t)).cell? ((⟨b, 0, none⟩ : Addr).add j) = some u := fun j u hu => by
  subst hb
  rw [add_mk, Nat.zero_add, World.cell?_alloc_new]
  show (M.l.toArray)[j]? = some u
  simpa using hu
theorem BuAt.row' {w W W' : World} {g p Bd k c : Nat} {A : Option Addr} {hd sz : Int} {cs : List Msg} (h : BuAt w g p Bd A k c hd sz cs W) {row : Option Nat} (hg : W.grownBy W' row) (hr : ∀ x, row = some x → p + 1 ≤ x ∧ x < Bd) : RwAt w g p A k c hd sz W' := by
  have hne : ∀ b, b ≤ p → some b ≠ row := fun b hb e => by have := hr b e.symm; omega
  refine ⟨h.src.keep hg.size (fun o => hg.cell_far _ h.src.2.1 (hne g (by have := h.old; omega))) (fun o => hg.frozen_far _ h.src.2.1 (hne g (by have := h.old; omega))) (fun q hq => hg.cell_far q (by have := h.bel.size; omega) (hne _ (by have := h.old; omega))), ⟨Nat.lt_of_lt_of_le h.rb.lt hg.size, (hg.cell_far _ h.rb.lt (hne p (Nat.le_refl _))).trans h.rb.c0, (hg.cell_far _ h.rb.lt (hne p (Nat.le_refl _))).trans h.rb.c1, (hg.cell_far _ h.rb.lt (hne p (Nat.le_refl _))).trans h.rb.c2, fun o => (hg.frozen_far _ h.rb.lt (hne p (Nat.le_refl _))).trans (h.rb.fr o)⟩, ?_, h.old.1, h.old.2.1⟩
  exact h.bel.grown hg h.bel.size (fun x e => by have := hr x e; have := h.old; omega)
theorem Ls.row {W W' : World} {B n c lo Bd : Nat} {A : Option Addr} {l : List Msg} (h : Ls W B (.slice A n c) l) {row : Option Nat} (hg : W.grownBy W' row) (hA : Nw lo A) (hl : Bd ≤ lo) (hr : ∀ b, row = some b → b < Bd) (hB : B ≤ W.heap.size) : Ls W' B (.slice A n c) l := by
  obtain ⟨A', c', e, h1, hm, hr'⟩ := h
  injection e with e1 e2 e3
  subst e1; subst e3
  refine ⟨A, c, by rw [e2], h1, hm, hr'.1, fun h0 => ?_⟩
  obtain ⟨b, o, e, hb, hc⟩ := hr'.2 h0
  have hlo := hA _ e
  exact ⟨b, o, e, hb, fun j u hu => (hg.cell_far ⟨b, o + j, none⟩ (by show b < _; omega) (fun e' => by have := hr b e'.symm; simp at hlo; omega)).trans (hc j u hu)⟩
theorem rt_start {w W : World} {g p Bd k c hd i : Nat} {A : Option Addr} {L : List Msg} {v : Value} (h : RsAt w g p Bd A k c hd L v i W) (M : Msg) (t u t2 : TypeId) : RtAt w g p Bd A k c hd L v W.heap.size (W.heap.size + 1) (W.heap.size + 1 + 1) M none 0 0 0 0 zM (((W.alloc (.cells M.cs t)).alloc (.cells #[.slice none 0 0, .int .i64 0, .int .i64 0] u)).alloc (.cells #[.int .i64 0, .int .i64 0, .int .i64 0, .int .i64 0, .int .i64 0, .int .i64 0, .string ⟨#[]⟩] t2)) := by
  have e1 : (W.alloc (.cells M.cs t)).heap.size = W.heap.size + 1 := by simp
  have e2 : ((W.alloc (.cells M.cs t)).alloc (.cells #[.slice none 0 0, .int .i64 0, .int .i64 0] u)).heap.size = W.heap.size + 1 + 1 := by simp
  have hb : Below W.heap.size W (((W.alloc (.cells M.cs t)).alloc (.cells #[.slice none 0 0, .int .i64 0, .int .i64 0] u)).alloc (.cells #[.int .i64 0, .int .i64 0, .int .i64 0, .int .i64 0, .int .i64 0, .int .i64 0, .string ⟨#[]⟩] t2)) := bal (bal (bal (Below.refl _ _) _) _) _
  have hr := RB.fresh (W.alloc (.cells M.cs t)) none 0 0 0 0 u
  rw [e1] at hr
  have hq := MAt.fresh (f := zM.nth) ((W.alloc (.cells M.cs t)).alloc (.cells #[.slice none 0 0, .int .i64 0, .int .i64 0] u)) 0 0 0 0 0 0 ByteArray.empty t2 rfl rfl rfl rfl rfl rfl
  rw [e2] at hq
  exact ⟨h.bu.below hb, h.wn.below h.bu.old.2.2 hb, ((MAt.new W M t).alloc _).alloc _, hr.alloc _, hq, h.bu.rb.lt, h.bu.old.2.2, Nat.lt_succ_self _, Nat.lt_succ_self _⟩

attribute [local go_sem ↓] Go.wp_at_zero Go.wp_at_succ
set_option maxHeartbeats 64000000 in
set_option maxRecDepth 100000 in
theorem RingScript_walk (w : World) (a0 : Option Addr) (l0 c0 : Nat) (zs : List Int) (hz : Ns w w.heap.size (.slice a0 l0 c0) zs) :
    Calls Try.prog 5 #[.slice a0 l0 c0] w fun e w' => e = .returned (.bool true) ∧ Below w.heap.size w w' := by
  obtain ⟨i0, hi0, hz0⟩ := Option.map_eq_some_iff.1 info_msg
  simp only [Prod.mk.injEq] at hz0
  have HI := Lib.hid hi0
  have HZ := Lib.hid hz0
  have HN := Lib.hid (new_src a0 l0 c0 zs w hz)
  clear hz hi0 hz0
  go_enter Try.func5, Try.ntmps5
  go_wp2_with fail
  refine HN.out.mono ?_
  rintro e w1 ⟨g, rfl, hs, hb⟩
  have HW1 := Lib.hid hb
  have HS1 := Lib.hid hs
  clear hb hs
  go_wp2_with fail
  refine (range_any w.heap.size g _ HS1.out 1 12 (by omega) (by omega) (by omega)).mono ?_
  rintro e w2 ⟨k, rfl, k1, k2, hs, hg⟩
  obtain ⟨k, rfl⟩ := Int.eq_ofNat_of_zero_le (show 0 ≤ k by omega)
  have hk1 : 1 ≤ k := by omega
  have hk2 : k ≤ 12 := by omega
  have HNE := Lib.hid (show ∀ W, Calls Try.prog 8 #[.int .i64 k] W (RP W (fil k 0 []) 0 0 0) from fun W => by
    have := gnew_any k W
    rw [(nwC_fil hk1 hk2 0 (by omega)).1, (nwC_fil hk1 hk2 0 (by omega)).2] at this
    exact this)
  have HW2 := Lib.hid (below_only HW1.out hg HS1.out.1 (Nat.le_refl _))
  have HS2 := Lib.hid hs
  have HG2 := Lib.hid (And.intro HS1.out.1 hs.2.1)
  clear hs hg
  go_wp2_with fail
  refine (HNE.out _).mono ?_
  rintro e w3 ⟨A, c, rfl, hnw, hl, hb⟩
  rw [fil_len] at hl ⊢
  have hb3 := HW2.out.trans (hb.mono HW2.out.size)
  have HG3 := Lib.hid (Nat.lt_of_lt_of_le HG2.out.2 hb.size)
  have HB3 := Lib.hid (RsAt.mk (i := 1) (p := w3.heap.size) (Bd := (w3.alloc (.cells #[.slice A k c, .int .i64 0, .int .i64 0] 24)).heap.size) (v := .slice none 0 0) (L := []) (hd := 0) (BuAt.mk (w := w) (g := g) (sz := ((([] : List Msg).length : Nat) : Int)) ((HS2.out.below hb).alloc _) (RB.fresh w3 A k c 0 0 24) ((hl.alloc (Nat.le_refl _) _).more (by simp)) (off_nw hnw HG2.out.2) (off_ls hl (by rw [fil_len]; exact hk1) (Nat.le_refl _)) (hb3.alloc hb3.size (.cells #[.slice A k c, .int .i64 0, .int .i64 0] 24)) ⟨HG2.out.1, HG3.out, Nat.le_refl _⟩) Wn.nil ⟨by omega, by simp, gd_nil, by simp⟩)
  obtain ⟨p, hp⟩ : ∃ p, p = w3.heap.size := ⟨_, rfl⟩
  rw [← hp] at HB3
  clear hnw hl hb hb3 HW2 HS2
  go_wp2
  rw [← hp]
  clear hp
  generalize w3.alloc (.cells #[.slice A k c, .int .i64 0, .int .i64 0] 24) = w4 at *
  go_loopw [6, 7] (fun v iv wr => ∃ (i : Nat) (A : Option Addr) (c hd : Nat) (L : List Msg), iv = .int .i64 i ∧ 1 ≤ i ∧ i ≤ 41 ∧ RsAt w g p wr.heap.size A k c hd L v i wr) (fun _ iv _ => 41 - (intOf iv).toNat)
  case atStart => exact ⟨1, A, c, 0, [], rfl, by omega, by omega, HB3.out⟩
  case round =>
    rename_i v6
    obtain ⟨i, A, c, hd, L, rfl, i1, i41, hrs⟩ := hrel
    have HR := Lib.hid hrs
    clear hrs
    obtain ⟨Av, cv, rfl⟩ := HR.out.wn.form
    have hi0 : (1 : Int) ≤ (i : Int) := by omega
    have hi9 : (i : Int) ≤ 41 := by omega
    go_upto_region 7 with (fail)
    go_cut [32] (fun s32 wx => ∃ b : Bool, s32 = .bool b ∧ (b = true → (i : Int) ≤ 40) ∧ RsAt w g p wr.heap.size A k c hd L (.slice Av L.length cv) i wx)
    case first =>
      by_cases h40 : (i : Int) ≤ 40
      · by_cases h4 : (i : Int) < 4
        · go_wp2_with fail
          go_meet
          exact ⟨true, rfl, fun _ => h40, HR.out⟩
        · go_wp2_with fail
          refine (more_any w.heap.size g _ HR.out.bu.src).mono ?_
          rintro e w5 ⟨bm, rfl, hs, hg⟩
          have HQ := Lib.hid (HR.out.grownG hs hg)
          have H40 := Lib.hid h40
          clear hs hg
          go_wp2_with fail
          go_meet
          exact ⟨bm, rfl, fun _ => H40.out, HQ.out⟩
      · have H40 := Lib.hid h40
        go_wp2_with fail
        go_meet
        exact ⟨false, rfl, fun h => by simp at h, HR.out⟩
    case rest =>
      obtain ⟨bm, rfl, h40, hrs⟩ := hcut
      have HQ := Lib.hid hrs
      clear hrs HR
      cases bm with
      | false =>
        go_wp2_with fail
        refine (awake4_any _).mono ?_
        rintro e w5 ⟨rfl, hb⟩
        have HB5 := Lib.hid (btrl HQ.out.bu.bel HQ.out.bu.bel.size hb)
        clear hb
        go_wp2
        go_ret
        exact ⟨rfl, HB5.out⟩
      | true =>
        replace h40 := h40 rfl
        by_cases hfull : L.length = k
        · have hfb : ((L.length : Int) == (k : Int)) = true := beq_iff_eq.2 (by omega)
          have hfd : decide ((L.length : Int) = (k : Int)) = true := decide_eq_true (by omega)
          have hfn : (L.length == k) = true := beq_iff_eq.2 hfull
          have hfe : decide (L.length = k) = true := decide_eq_true hfull
          have HFU := Lib.hid hfull
          clear hfull
          go_wp2_with fail
          refine (message_any w.heap.size g _ HQ.out.bu.src i 0 65535).mono ?_
          rintro e w8 ⟨M, rfl, m0, m1, m2, m3, m4, m5, m6, hs, hg⟩
          have HVM := Lib.hid (msg_ok m0 m1 m2 m3 m4 m5 m6 (by omega) (by omega) (by omega) (by omega) (by omega))
          have HMI := Lib.hid m0
          have HR8 := Lib.hid (HQ.out.grownG hs hg)
          have HMM := Lib.hid (MAt.new w8 M 26)
          obtain ⟨r0, r1, r2, r3, r4, r5, hpl⟩ := HR8.out.bu.rb.facts
          clear m0 m1 m2 m3 m4 m5 m6 hs hg
          have hLk := HR8.out.ok.2.1
          have hL12 : (L.length : Int) ≤ 12 := by omega
          have HNI := Lib.hid (show ∀ N ∈ L, N.id ≠ M.id from fun N hN => by have := (HR8.out.ok.2.2.2 N hN).2; have := HMI.out; omega)
          go_wp2_with fail
          have HT8 := Lib.hid (show RtAt w g p wr.heap.size A k c hd L (.slice Av L.length cv) w8.heap.size (w8.heap.size + 1) (w8.heap.size + 1 + 1) M none 0 0 0 0 zM (((w8.alloc (.cells M.cs 26)).alloc (.cells #[.slice none 0 0, .int .i64 0, .int .i64 0] 24)).alloc (.cells #[.int .i64 0, .int .i64 0, .int .i64 0, .int .i64 0, .int .i64 0, .int .i64 0, .string ⟨#[]⟩] 26)) from rt_start HR8.out M _ _ _)
          obtain ⟨m, hm⟩ : ∃ m, m = w8.heap.size := ⟨_, rfl⟩
          rw [← hm] at HT8 HMM
          rw [← hm]
          obtain ⟨x, hx⟩ : ∃ x, x = m + 1 := ⟨_, rfl⟩
          obtain ⟨q, hq⟩ : ∃ q, q = m + 1 + 1 := ⟨_, rfl⟩
          rw [← hq, ← hx] at HT8
          rw [← hq, ← hx]
          clear r0 r1 r2 r3 r4 r5 hpl hm hx hq HMM
          refine (n_any w.heap.size g _ HT8.out.bu.src 5 (by omega) (by omega)).mono ?_
          rintro e w9 ⟨y, rfl, y0, y1, hs, hg⟩
          have HT := Lib.hid (HT8.out.grownG hs hg)
          have HOK := Lib.hid HR8.out.ok
          clear hs hg HT8 HR8
          obtain ⟨r0, r1, r2, r3, r4, r5, hpl⟩ := HT.out.bu.rb.facts
          obtain ⟨v0, v1, v2, v3, v4, v5, v6⟩ := HT.out.mm.facts.1
          have hml := HT.out.mm.1
          have hy5 : y = 0 ∨ y = 1 ∨ y = 2 ∨ y = 3 ∨ y = 4 := by omega
          clear y0 y1
          have hmx : m ≠ x := by have := HT.out.old; omega
          have hxm : x ≠ m := fun e => hmx e.symm
          have hqm : q ≠ m := by have := HT.out.old; omega
          have hmq : m ≠ q := fun e => hqm e.symm
          have hqx : q ≠ x := by have := HT.out.old; omega
          have hxq : x ≠ q := fun e => hqx e.symm
          have hpx : p ≠ x := by have := HT.out.old; omega
          have hxp : x ≠ p := fun e => hpx e.symm
          have hpq : p ≠ q := by have := HT.out.old; omega
          have hqp : q ≠ p := fun e => hpq e.symm
          rcases hy5 with rfl | rfl | rfl | rfl | rfl
          · have HPB := Lib.hid (pb_full hk1 hk2 HOK.out.1 HFU.out HOK.out.2.2.1 HVM.out HT.out.bu.here)
            generalize pbC (fil k hd L) (hd : Int) (L.length : Int) M = ds at *
            go_wp2_with fail
            refine HPB.out.mono ?_
            rintro e w10 ⟨A3, c3, rfl, hnw, hl, hb⟩
            have HT10 := Lib.hid (HT.out.below hb)
            have HTX := Lib.hid (HT10.out.setx A3 ds.length c3 0 0)
            have HE := Lib.hid (RsAt.mk HTX.out.bu HTX.out.wn HOK.out)
            clear hnw hl hb HT r0 r1 r2 r3 r4 r5 hpl v0 v1 v2 v3 v4 v5 v6 hml
            obtain ⟨x0, x1, x2, x3, x4, x5, hxl⟩ := HT10.out.rx.facts
            obtain ⟨r0, r1, r2, r3, r4, r5, hpl⟩ := HT10.out.bu.rb.facts
            have HLI := Lib.hid (li_ok hk1 hk2 HE.out.ok.1 HE.out.ok.2.1 HE.out.ok.2.2.1 HE.out.bu.here)
            go_wp2_with fail
            refine HLI.out.mono ?_
            rintro e w16 ⟨vl, rfl, _, hl, hb⟩
            obtain ⟨Al, cl, rfl, _, _⟩ := hl.form
            have HE6 := Lib.hid (HE.out.below hb)
            have HL6 := Lib.hid hl
            clear hl hb r0 r1 r2 r3 r4 r5 hpl
            go_wp2_with fail
            refine (rsame_yes _ _ _ _ _ _ _ _ _ _ HL6.out HE6.out.wn.ls).mono ?_
            rintro e w17 ⟨rfl, hb⟩
            have HE7 := Lib.hid ((HE6.out.below hb).now (i' := i + 1) (by omega))
            obtain ⟨r0, r1, r2, r3, r4, r5, hpl⟩ := HE7.out.bu.rb.facts
            clear hb
            go_wp2
            go_roundw
            case rel => exact ⟨i + 1, _, _, _, L, by go_num, by omega, by omega, HE7.out⟩
            case measure => simp [intOf]; omega
          · have HPB := Lib.hid (pb_full hk1 hk2 HOK.out.1 HFU.out HOK.out.2.2.1 HVM.out HT.out.bu.here)
            generalize pbC (fil k hd L) (hd : Int) (L.length : Int) M = ds at *
            go_wp2_with fail
            refine HPB.out.mono ?_
            rintro e w10 ⟨A3, c3, rfl, hnw, hl, hb⟩
            have HT10 := Lib.hid (HT.out.below hb)
            have HTX := Lib.hid (HT10.out.setx A3 ds.length c3 0 0)
            have HE := Lib.hid (RsAt.mk HTX.out.bu HTX.out.wn HOK.out)
            clear hnw hl hb HT r0 r1 r2 r3 r4 r5 hpl v0 v1 v2 v3 v4 v5 v6 hml
            obtain ⟨x0, x1, x2, x3, x4, x5, hxl⟩ := HT10.out.rx.facts
            obtain ⟨r0, r1, r2, r3, r4, r5, hpl⟩ := HT10.out.bu.rb.facts
            have HLI := Lib.hid (li_ok hk1 hk2 HE.out.ok.1 HE.out.ok.2.1 HE.out.ok.2.2.1 HE.out.bu.here)
            go_wp2_with fail
            refine HLI.out.mono ?_
            rintro e w16 ⟨vl, rfl, _, hl, hb⟩
            obtain ⟨Al, cl, rfl, _, _⟩ := hl.form
            have HE6 := Lib.hid (HE.out.below hb)
            have HL6 := Lib.hid hl
            clear hl hb r0 r1 r2 r3 r4 r5 hpl
            go_wp2_with fail
            refine (rsame_yes _ _ _ _ _ _ _ _ _ _ HL6.out HE6.out.wn.ls).mono ?_
            rintro e w17 ⟨rfl, hb⟩
            have HE7 := Lib.hid ((HE6.out.below hb).now (i' := i + 1) (by omega))
            obtain ⟨r0, r1, r2, r3, r4, r5, hpl⟩ := HE7.out.bu.rb.facts
            clear hb
            go_wp2
            go_roundw
            case rel => exact ⟨i + 1, _, _, _, L, by go_num, by omega, by omega, HE7.out⟩
            case measure => simp [intOf]; omega
          · have HPB := Lib.hid (pf_full hk1 hk2 HOK.out.1 HFU.out HOK.out.2.2.1 HVM.out HT.out.bu.here)
            generalize pfC (fil k hd L) (hd : Int) (L.length : Int) M = ds at *
            go_wp2_with fail
            refine HPB.out.mono ?_
            rintro e w10 ⟨A3, c3, rfl, hnw, hl, hb⟩
            have HT10 := Lib.hid (HT.out.below hb)
            have HTX := Lib.hid (HT10.out.setx A3 ds.length c3 0 0)
            have HE := Lib.hid (RsAt.mk HTX.out.bu HTX.out.wn HOK.out)
            clear hnw hl hb HT r0 r1 r2 r3 r4 r5 hpl v0 v1 v2 v3 v4 v5 v6 hml
            obtain ⟨x0, x1, x2, x3, x4, x5, hxl⟩ := HT10.out.rx.facts
            obtain ⟨r0, r1, r2, r3, r4, r5, hpl⟩ := HT10.out.bu.rb.facts
            have HLI := Lib.hid (li_ok hk1 hk2 HE.out.ok.1 HE.out.ok.2.1 HE.out.ok.2.2.1 HE.out.bu.here)
            go_wp2_with fail
            refine HLI.out.mono ?_
            rintro e w16 ⟨vl, rfl, _, hl, hb⟩
            obtain ⟨Al, cl, rfl, _, _⟩ := hl.form
            have HE6 := Lib.hid (HE.out.below hb)
            have HL6 := Lib.hid hl
            clear hl hb r0 r1 r2 r3 r4 r5 hpl
            go_wp2_with fail
            refine (rsame_yes _ _ _ _ _ _ _ _ _ _ HL6.out HE6.out.wn.ls).mono ?_
            rintro e w17 ⟨rfl, hb⟩
            have HE7 := Lib.hid ((HE6.out.below hb).now (i' := i + 1) (by omega))
            obtain ⟨r0, r1, r2, r3, r4, r5, hpl⟩ := HE7.out.bu.rb.facts
            clear hb
            go_wp2
            go_roundw
            case rel => exact ⟨i + 1, _, _, _, L, by go_num, by omega, by omega, HE7.out⟩
            case measure => simp [intOf]; omega
          · have hpos : 0 < L.length := by have := HFU.out; omega
            obtain ⟨M0, L', hM⟩ : ∃ M0 L', L = M0 :: L' := by
              cases hh : L with
              | nil => rw [hh] at hpos; simp at hpos
              | cons a b => exact ⟨a, b, rfl⟩
            have HPF := Lib.hid (show Calls Try.prog 22 #[.agg #[.slice A k c, .int .i64 hd, .int .i64 L.length]] w9 (RMP w9 (fil k ((hd + 1) % k) L') ((hd + 1) % k : Nat) (L'.length : Nat) M0 0) by
              have := qf_ok (A := A) (c := c) (hd := hd) (W := w9) (M := M0) (r := L') hk1 hk2 HOK.out.1 (by rw [← hM]; exact HOK.out.2.1) (by rw [← hM]; exact HOK.out.2.2.1) (by rw [← hM]; exact HT.out.bu.here)
              rw [← hM] at this
              exact this)
            have hln : L.length = L'.length + 1 := by rw [hM]; simp
            have HGE := Lib.hid (show Gd L' from gd_sub (by rw [hM]; exact List.sublist_cons_self _ _) HOK.out.2.2.1)
            have HIE := Lib.hid (show ∀ N ∈ L', 1 ≤ N.id ∧ N.id < i from fun N hN => HOK.out.2.2.2 N (by rw [hM]; exact List.mem_cons_of_mem _ hN))
            have HHD := Lib.hid (show (hd + 1) % k < k from Nat.mod_lt _ (by omega))
            obtain ⟨hd', hhd⟩ : ∃ hd', hd' = (hd + 1) % k := ⟨_, rfl⟩
            rw [← hhd] at HPF HHD
            clear hhd
            have hn0 : (0 : Int) < (L.length : Int) := by omega
            have hnN : 0 < L.length := by omega
            have hl1 : (L'.length : Int) ≤ 12 := by omega
            have HLE := Lib.hid (show L'.length ≤ k by omega)
            have HLN := Lib.hid hln
            have HMM0 := Lib.hid hM
            clear hln hM
            go_wp2_with fail
            refine HPF.out.mono ?_
            rintro e w10 ⟨A3, c3, rfl, hnw, hl, hb⟩
            rw [fil_len] at hl ⊢
            have HT10 := Lib.hid (HT.out.below hb)
            have HTX := Lib.hid (show RtAt w g p wr.heap.size A k c hd L (.slice Av L.length cv) m x q M A3 k c3 hd' L'.length M0 ((((((((((w10.setCell ⟨x, 0, none⟩ (.slice A3 k c3)).setCell ⟨x, 1, none⟩ (.int .i64 hd')).setCell ⟨x, 2, none⟩ (.int .i64 L'.length)).setCell ⟨q, 0, none⟩ (.int .i64 M0.id)).setCell ⟨q, 1, none⟩ (.int .i64 M0.rt)).setCell ⟨q, 2, none⟩ (.int .i64 M0.ep)).setCell ⟨q, 3, none⟩ (.int .i64 M0.ct)).setCell ⟨q, 4, none⟩ (.int .i64 M0.gn)).setCell ⟨q, 5, none⟩ (.int .i64 M0.st)).setCell ⟨q, 6, none⟩ (.string M0.bd)) from (HT10.out.setx A3 k c3 hd' L'.length).setq M0)
            have HNW := Lib.hid hnw
            have HPW := Lib.hid (And.intro (show p < w9.heap.size from HT.out.bu.rb.lt) (show wr.heap.size ≤ w9.heap.size from HT.out.bu.old.2.2))
            have HL3 := Lib.hid (((hl.off3 hnw HT.out.rx.lt (.slice A3 k c3) (.int .i64 hd') (.int .i64 L'.length)).off7 hnw HT.out.mq.1 M0).more (show w10.heap.size ≤ ((((((((((w10.setCell ⟨x, 0, none⟩ (.slice A3 k c3)).setCell ⟨x, 1, none⟩ (.int .i64 hd')).setCell ⟨x, 2, none⟩ (.int .i64 L'.length)).setCell ⟨q, 0, none⟩ (.int .i64 M0.id)).setCell ⟨q, 1, none⟩ (.int .i64 M0.rt)).setCell ⟨q, 2, none⟩ (.int .i64 M0.ep)).setCell ⟨q, 3, none⟩ (.int .i64 M0.ct)).setCell ⟨q, 4, none⟩ (.int .i64 M0.gn)).setCell ⟨q, 5, none⟩ (.int .i64 M0.st)).setCell ⟨q, 6, none⟩ (.string M0.bd)).heap.size by simp))
            have HMB := Lib.hid (show wr.heap.size ≤ m ∧ m < x ∧ x < q from ⟨HT.out.old.2.1, HT.out.old.2.2⟩)
            clear hnw hl hb HT r0 r1 r2 r3 r4 r5 hpl v0 v1 v2 v3 v4 v5 v6 hml
            obtain ⟨x0, x1, x2, x3, x4, x5, hxl⟩ := HT10.out.rx.facts
            obtain ⟨r0, r1, r2, r3, r4, r5, hpl⟩ := HT10.out.bu.rb.facts
            obtain ⟨u0, u1, u2, u3, u4, u5, u6⟩ := HT10.out.mq.facts.1
            obtain ⟨f0, f1, f2, f3, f4, f5, f6⟩ := HT10.out.mq.fr
            have hql := HT10.out.mq.1
            obtain ⟨b, o, hAv, hbb, hc7⟩ := HT10.out.wn.ls.at_ (k := 0) (by have := HLN.out; omega)
            rw [show L[0]'(by have := HLN.out; omega) = M0 by have := HMM0.out; simp [this]] at hc7
            rw [Nat.zero_mul, Nat.add_zero] at hc7
            have hbx : b ≠ x := by have := HMB.out; omega
            have hbq : b ≠ q := by have := HMB.out; omega
            have hxb : x ≠ b := fun e => hbx e.symm
            have hqb : q ≠ b := fun e => hbq e.symm
            obtain ⟨A4, hA4, hcut⟩ := run_lcut Av L.length cv .i64 1 (by omega)
            rw [show L.length - 1 = L'.length by have := HLN.out; omega] at hcut
            have HW4 := Lib.hid (fun j => (show Wn (((((((((((w10.setCell ⟨x, 0, none⟩ (.slice A3 k c3)).setCell ⟨x, 1, none⟩ (.int .i64 hd')).setCell ⟨x, 2, none⟩ (.int .i64 L'.length)).setCell ⟨q, 0, none⟩ (.int .i64 M0.id)).setCell ⟨q, 1, none⟩ (.int .i64 M0.rt)).setCell ⟨q, 2, none⟩ (.int .i64 M0.ep)).setCell ⟨q, 3, none⟩ (.int .i64 M0.ct)).setCell ⟨q, 4, none⟩ (.int .i64 M0.gn)).setCell ⟨q, 5, none⟩ (.int .i64 M0.st)).setCell ⟨q, 6, none⟩ (.string M0.bd)).drewN j) (p + 1) wr.heap.size (.slice A4 L'.length (cv - 1)) L' by
              have h : Wn (((((((((((w10.setCell ⟨x, 0, none⟩ (.slice A3 k c3)).setCell ⟨x, 1, none⟩ (.int .i64 hd')).setCell ⟨x, 2, none⟩ (.int .i64 L'.length)).setCell ⟨q, 0, none⟩ (.int .i64 M0.id)).setCell ⟨q, 1, none⟩ (.int .i64 M0.rt)).setCell ⟨q, 2, none⟩ (.int .i64 M0.ep)).setCell ⟨q, 3, none⟩ (.int .i64 M0.ct)).setCell ⟨q, 4, none⟩ (.int .i64 M0.gn)).setCell ⟨q, 5, none⟩ (.int .i64 M0.st)).setCell ⟨q, 6, none⟩ (.string M0.bd)).drewN j) (p + 1) wr.heap.size (.slice Av L.length cv) (M0 :: L') := by
                have := (HTX.out.drewN j).wn
                rw [HMM0.out] at this ⊢
                exact this
              have h2 := h.tail
              rw [← hA4, show L.length - 1 = L'.length by have := HLN.out; omega] at h2
              exact h2))
            have hcut' : ∀ W, (Instr.slice 22 (.slice Av L.length cv) (some (.int .i64 1)) none none).run Try.prog W = .ok (.slice A4 L'.length (cv - 1)) W := hcut
            clear hA4 hcut
            have hneX := neqm M0
            go_wp2
            generalize (((((((((w10.setCell ⟨x, 0, none⟩ (.slice A3 k c3)).setCell ⟨x, 1, none⟩ (.int .i64 hd')).setCell ⟨x, 2, none⟩ (.int .i64 L'.length)).setCell ⟨q, 0, none⟩ (.int .i64 M0.id)).setCell ⟨q, 1, none⟩ (.int .i64 M0.rt)).setCell ⟨q, 2, none⟩ (.int .i64 M0.ep)).setCell ⟨q, 3, none⟩ (.int .i64 M0.ct)).setCell ⟨q, 4, none⟩ (.int .i64 M0.gn)).setCell ⟨q, 5, none⟩ (.int .i64 M0.st)).setCell ⟨q, 6, none⟩ (.string M0.bd) = wz at *
            clear x0 x1 x2 x3 x4 x5 hxl r0 r1 r2 r3 r4 r5 hpl u0 u1 u2 u3 u4 u5 u6 f0 f1 f2 f3 f4 f5 f6 hql hc7 hbb hbx hbq hxb hqb
            obtain ⟨x0, x1, x2, x3, x4, x5, hxl⟩ := HTX.out.rx.facts
            obtain ⟨r0, r1, r2, r3, r4, r5, hpl⟩ := HTX.out.bu.rb.facts
            obtain ⟨u0, u1, u2, u3, u4, u5, u6⟩ := mat_c7 HTX.out.mq
            obtain ⟨b2, o2, hAv2, hbb, hc7⟩ := HTX.out.wn.ls.at_ (k := 0) (by have := HLN.out; omega)
            rw [show L[0]'(by have := HLN.out; omega) = M0 by have := HMM0.out; simp [this]] at hc7
            rw [Nat.zero_mul, Nat.add_zero] at hc7
            obtain ⟨d0, d1, d2, d3, d4, d5, d6⟩ := hc7
            subst hAv
            injection hAv2 with hAv2
            injection hAv2 with hb2 ho2 _
            subst hb2 ho2
            go_quiet (fail)
            rename_i nq
            have HTD := Lib.hid (HTX.out.drewN nq)
            have HE := Lib.hid (rs_take (i := i) (W := wz.drewN nq) HTD.out.bu.src HTD.out.bu.rb HTD.out.bu.bel ⟨HTD.out.bu.old.1, HTD.out.bu.old.2.1⟩ HNW.out HPW.out.1 (HL3.out.drewN nq) ((HW4.out nq).more HTD.out.bu.old.2.2) ⟨HHD.out, HLE.out, HGE.out, HIE.out⟩)
            have HLI := Lib.hid (li_ok hk1 hk2 HE.out.ok.1 HE.out.ok.2.1 HE.out.ok.2.2.1 HE.out.bu.here)
            go_wp2_with fail
            refine HLI.out.mono ?_
            rintro e w16 ⟨vl, rfl, _, hl, hb⟩
            obtain ⟨Al, cl, rfl, _, _⟩ := hl.form
            have HE6 := Lib.hid (HE.out.below hb)
            have HL6 := Lib.hid hl
            clear hl hb r0 r1 r2 r3 r4 r5 hpl
            go_wp2_with fail
            refine (rsame_yes _ _ _ _ _ _ _ _ _ _ HL6.out HE6.out.wn.ls).mono ?_
            rintro e w17 ⟨rfl, hb⟩
            have HE7 := Lib.hid ((HE6.out.below hb).now (i' := i + 1) (by omega))
            obtain ⟨r0, r1, r2, r3, r4, r5, hpl⟩ := HE7.out.bu.rb.facts
            clear hb
            go_wp2
            go_roundw
            case rel => exact ⟨i + 1, _, _, _, L', by go_num, by omega, by omega, HE7.out⟩
            case measure => simp [intOf]; omega
          · have hpos : 0 < L.length := by have := HFU.out; omega
            have hln0 : L.length = (L.length - 1) + 1 := by omega
            have HPF0 := qb_ok (A := A) (c := c) (hd := hd) (W := w9) hk1 hk2 HOK.out.1 HOK.out.2.1 HOK.out.2.2.1 hln0 HT.out.bu.here
            have HGE := Lib.hid (gd_take HOK.out.2.2.1 (L.length - 1))
            have HIE := Lib.hid (show ∀ N ∈ L.take (L.length - 1), 1 ≤ N.id ∧ N.id < i from fun N hN => HOK.out.2.2.2 N (List.mem_of_mem_take hN))
            have HTK := Lib.hid (HT.out.wn.upto (L.length - 1) (by omega))
            obtain ⟨M0, hM0⟩ : ∃ M0, M0 = L[L.length - 1]'(by omega) := ⟨_, rfl⟩
            have hlt0 : (L.take (L.length - 1)).length = L.length - 1 := by rw [List.length_take]; omega
            obtain ⟨L', hL'⟩ : ∃ L', L' = L.take (L.length - 1) := ⟨_, rfl⟩
            rw [← hL'] at HPF0 HGE HIE hlt0
            rw [← hM0] at HPF0
            have HPF := Lib.hid HPF0
            have hln : L.length = L'.length + 1 := by omega
            have HHD := Lib.hid HOK.out.1
            have HMX := Lib.hid (show ∀ (h : L'.length < L.length), L[L'.length] = M0 from fun h => by rw [hM0]; congr 1)
            have HLT := Lib.hid hL'
            obtain ⟨hd', hhd⟩ : ∃ hd', hd' = hd := ⟨_, rfl⟩
            have HHE := Lib.hid hhd
            rw [← hhd] at HHD
            clear HPF0 hM0 hL' hlt0 hln0
            have HPF1 := Lib.hid (show Calls Try.prog 23 #[.agg #[.slice A k c, .int .i64 hd, .int .i64 L.length]] w9 (RMP w9 (fil k hd' L') hd' (L'.length : Nat) M0 0) by rw [hhd]; exact HPF.out)
            clear hhd HPF
            have HPF := HPF1
            have hn0 : (0 : Int) < (L.length : Int) := by omega
            have hnN : 0 < L.length := by omega
            have hl1 : (L'.length : Int) ≤ 12 := by omega
            have HLE := Lib.hid (show L'.length ≤ k by omega)
            have HLN := Lib.hid hln
            clear hln
            go_wp2_with fail
            refine HPF.out.mono ?_
            rintro e w10 ⟨A3, c3, rfl, hnw, hl, hb⟩
            rw [fil_len] at hl ⊢
            have HT10 := Lib.hid (HT.out.below hb)
            have HTX := Lib.hid (show RtAt w g p wr.heap.size A k c hd L (.slice Av L.length cv) m x q M A3 k c3 hd' L'.length M0 ((((((((((w10.setCell ⟨x, 0, none⟩ (.slice A3 k c3)).setCell ⟨x, 1, none⟩ (.int .i64 hd')).setCell ⟨x, 2, none⟩ (.int .i64 L'.length)).setCell ⟨q, 0, none⟩ (.int .i64 M0.id)).setCell ⟨q, 1, none⟩ (.int .i64 M0.rt)).setCell ⟨q, 2, none⟩ (.int .i64 M0.ep)).setCell ⟨q, 3, none⟩ (.int .i64 M0.ct)).setCell ⟨q, 4, none⟩ (.int .i64 M0.gn)).setCell ⟨q, 5, none⟩ (.int .i64 M0.st)).setCell ⟨q, 6, none⟩ (.string M0.bd)) from (HT10.out.setx A3 k c3 hd' L'.length).setq M0)
            have HNW := Lib.hid hnw
            have HPW := Lib.hid (And.intro (show p < w9.heap.size from HT.out.bu.rb.lt) (show wr.heap.size ≤ w9.heap.size from HT.out.bu.old.2.2))
            have HL3 := Lib.hid (((hl.off3 hnw HT.out.rx.lt (.slice A3 k c3) (.int .i64 hd') (.int .i64 L'.length)).off7 hnw HT.out.mq.1 M0).more (show w10.heap.size ≤ ((((((((((w10.setCell ⟨x, 0, none⟩ (.slice A3 k c3)).setCell ⟨x, 1, none⟩ (.int .i64 hd')).setCell ⟨x, 2, none⟩ (.int .i64 L'.length)).setCell ⟨q, 0, none⟩ (.int .i64 M0.id)).setCell ⟨q, 1, none⟩ (.int .i64 M0.rt)).setCell ⟨q, 2, none⟩ (.int .i64 M0.ep)).setCell ⟨q, 3, none⟩ (.int .i64 M0.ct)).setCell ⟨q, 4, none⟩ (.int .i64 M0.gn)).setCell ⟨q, 5, none⟩ (.int .i64 M0.st)).setCell ⟨q, 6, none⟩ (.string M0.bd)).heap.size by simp))
            have HMB := Lib.hid (show wr.heap.size ≤ m ∧ m < x ∧ x < q from ⟨HT.out.old.2.1, HT.out.old.2.2⟩)
            clear hnw hl hb HT r0 r1 r2 r3 r4 r5 hpl v0 v1 v2 v3 v4 v5 v6 hml
            obtain ⟨x0, x1, x2, x3, x4, x5, hxl⟩ := HT10.out.rx.facts
            obtain ⟨r0, r1, r2, r3, r4, r5, hpl⟩ := HT10.out.bu.rb.facts
            obtain ⟨u0, u1, u2, u3, u4, u5, u6⟩ := HT10.out.mq.facts.1
            obtain ⟨f0, f1, f2, f3, f4, f5, f6⟩ := HT10.out.mq.fr
            have hql := HT10.out.mq.1
            obtain ⟨b, o, hAv, hbb, hc7⟩ := HT10.out.wn.ls.at_ (k := L'.length) (by have := HLN.out; omega)
            rw [HMX.out _] at hc7
            have hbx : b ≠ x := by have := HMB.out; omega
            have hbq : b ≠ q := by have := HMB.out; omega
            have hxb : x ≠ b := fun e => hbx e.symm
            have hqb : q ≠ b := fun e => hbq e.symm
            have hcv : L.length ≤ cv := by obtain ⟨_, _, e, h, _⟩ := HT10.out.wn.ls; injection e with _ _ e3; subst e3; exact h
            have hcut' : ∀ W, (Instr.slice 22 (.slice Av L.length cv) none (some (.int .i64 (L'.length : Int))) none).run Try.prog W = .ok (.slice Av L'.length cv) W := run_lupto Av L.length cv .i64 L'.length (by have := HLN.out; omega)
            have hxw : IntKind.i64.wrap ((L.length : Int) - 1) = (L'.length : Int) := by rw [IntWalk.i64_in _ (by omega)]; have := HLN.out; omega
            have hli : (L'.length : Int) < (L.length : Int) := by have := HLN.out; omega
            have hli0 : (0 : Int) ≤ (L'.length : Int) := by omega
            have hliN : L'.length < L.length := by have := HLN.out; omega
            have hlcv : (L'.length : Int) ≤ (cv : Int) := by omega
            have HW4 := Lib.hid (fun j => (show Wn (((((((((((w10.setCell ⟨x, 0, none⟩ (.slice A3 k c3)).setCell ⟨x, 1, none⟩ (.int .i64 hd')).setCell ⟨x, 2, none⟩ (.int .i64 L'.length)).setCell ⟨q, 0, none⟩ (.int .i64 M0.id)).setCell ⟨q, 1, none⟩ (.int .i64 M0.rt)).setCell ⟨q, 2, none⟩ (.int .i64 M0.ep)).setCell ⟨q, 3, none⟩ (.int .i64 M0.ct)).setCell ⟨q, 4, none⟩ (.int .i64 M0.gn)).setCell ⟨q, 5, none⟩ (.int .i64 M0.st)).setCell ⟨q, 6, none⟩ (.string M0.bd)).drewN j) (p + 1) wr.heap.size (.slice Av L'.length cv) L' by
              have h := (HTX.out.drewN j).wn.upto (L.length - 1) (by omega)
              rw [← HLT.out, show L.length - 1 = L'.length by have := HLN.out; omega] at h
              exact h))
            have hneX := neqm M0
            go_wp2
            generalize (((((((((w10.setCell ⟨x, 0, none⟩ (.slice A3 k c3)).setCell ⟨x, 1, none⟩ (.int .i64 hd')).setCell ⟨x, 2, none⟩ (.int .i64 L'.length)).setCell ⟨q, 0, none⟩ (.int .i64 M0.id)).setCell ⟨q, 1, none⟩ (.int .i64 M0.rt)).setCell ⟨q, 2, none⟩ (.int .i64 M0.ep)).setCell ⟨q, 3, none⟩ (.int .i64 M0.ct)).setCell ⟨q, 4, none⟩ (.int .i64 M0.gn)).setCell ⟨q, 5, none⟩ (.int .i64 M0.st)).setCell ⟨q, 6, none⟩ (.string M0.bd) = wz at *
            clear x0 x1 x2 x3 x4 x5 hxl r0 r1 r2 r3 r4 r5 hpl u0 u1 u2 u3 u4 u5 u6 f0 f1 f2 f3 f4 f5 f6 hql hc7 hbb hbx hbq hxb hqb
            obtain ⟨x0, x1, x2, x3, x4, x5, hxl⟩ := HTX.out.rx.facts
            obtain ⟨r0, r1, r2, r3, r4, r5, hpl⟩ := HTX.out.bu.rb.facts
            obtain ⟨u0, u1, u2, u3, u4, u5, u6⟩ := mat_c7 HTX.out.mq
            obtain ⟨b2, o2, hAv2, hbb, hc7⟩ := HTX.out.wn.ls.at_ (k := L'.length) (by have := HLN.out; omega)
            rw [HMX.out _] at hc7
            obtain ⟨d0, d1, d2, d3, d4, d5, d6⟩ := hc7
            subst hAv
            injection hAv2 with hAv2
            injection hAv2 with hb2 ho2 _
            subst hb2 ho2
            go_quiet (fail)
            rename_i nq
            have HTD := Lib.hid (HTX.out.drewN nq)
            have HE := Lib.hid (rs_take (i := i) (W := wz.drewN nq) HTD.out.bu.src HTD.out.bu.rb HTD.out.bu.bel ⟨HTD.out.bu.old.1, HTD.out.bu.old.2.1⟩ HNW.out HPW.out.1 (HL3.out.drewN nq) ((HW4.out nq).more HTD.out.bu.old.2.2) ⟨HHD.out, HLE.out, HGE.out, HIE.out⟩)
            have HLI := Lib.hid (li_ok hk1 hk2 HE.out.ok.1 HE.out.ok.2.1 HE.out.ok.2.2.1 HE.out.bu.here)
            go_wp2_with fail
            refine HLI.out.mono ?_
            rintro e w16 ⟨vl, rfl, _, hl, hb⟩
            obtain ⟨Al, cl, rfl, _, _⟩ := hl.form
            have HE6 := Lib.hid (HE.out.below hb)
            have HL6 := Lib.hid hl
            clear hl hb r0 r1 r2 r3 r4 r5 hpl
            go_wp2_with fail
            refine (rsame_yes _ _ _ _ _ _ _ _ _ _ HL6.out HE6.out.wn.ls).mono ?_
            rintro e w17 ⟨rfl, hb⟩
            have HE7 := Lib.hid ((HE6.out.below hb).now (i' := i + 1) (by omega))
            obtain ⟨r0, r1, r2, r3, r4, r5, hpl⟩ := HE7.out.bu.rb.facts
            clear hb
            go_wp2
            go_roundw
            case rel => exact ⟨i + 1, _, _, _, L', by go_num, by omega, by omega, HE7.out⟩
            case measure => simp [intOf]; omega
        · have hfb : ((L.length : Int) == (k : Int)) = false := beq_eq_false_iff_ne.2 (by omega)
          have hfd : decide ((L.length : Int) = (k : Int)) = false := decide_eq_false (by omega)
          have hfn : (L.length == k) = false := beq_eq_false_iff_ne.2 hfull
          have hfe : decide (L.length = k) = false := decide_eq_false hfull
          go_wp2_with fail
          refine (message_any w.heap.size g _ HQ.out.bu.src i 0 65535).mono ?_
          rintro e w8 ⟨M, rfl, m0, m1, m2, m3, m4, m5, m6, hs, hg⟩
          have HVM := Lib.hid (msg_ok m0 m1 m2 m3 m4 m5 m6 (by omega) (by omega) (by omega) (by omega) (by omega))
          have HMI := Lib.hid m0
          have HR8 := Lib.hid (HQ.out.grownG hs hg)
          have HMM := Lib.hid (MAt.new w8 M 26)
          obtain ⟨r0, r1, r2, r3, r4, r5, hpl⟩ := HR8.out.bu.rb.facts
          clear m0 m1 m2 m3 m4 m5 m6 hs hg
          have hLk := HR8.out.ok.2.1
          have hL12 : (L.length : Int) ≤ 12 := by omega
          have HNI := Lib.hid (show ∀ N ∈ L, N.id ≠ M.id from fun N hN => by have := (HR8.out.ok.2.2.2 N hN).2; have := HMI.out; omega)
          go_wp2_with fail
          have HT8 := Lib.hid (show RtAt w g p wr.heap.size A k c hd L (.slice Av L.length cv) w8.heap.size (w8.heap.size + 1) (w8.heap.size + 1 + 1) M none 0 0 0 0 zM (((w8.alloc (.cells M.cs 26)).alloc (.cells #[.slice none 0 0, .int .i64 0, .int .i64 0] 24)).alloc (.cells #[.int .i64 0, .int .i64 0, .int .i64 0, .int .i64 0, .int .i64 0, .int .i64 0, .string ⟨#[]⟩] 26)) from rt_start HR8.out M _ _ _)
          obtain ⟨m, hm⟩ : ∃ m, m = w8.heap.size := ⟨_, rfl⟩
          rw [← hm] at HT8 HMM
          rw [← hm]
          obtain ⟨x, hx⟩ : ∃ x, x = m + 1 := ⟨_, rfl⟩
          obtain ⟨q, hq⟩ : ∃ q, q = m + 1 + 1 := ⟨_, rfl⟩
          rw [← hq, ← hx] at HT8
          rw [← hq, ← hx]
          clear r0 r1 r2 r3 r4 r5 hpl hm hx hq HMM
          refine (n_any w.heap.size g _ HT8.out.bu.src 5 (by omega) (by omega)).mono ?_
          rintro e w9 ⟨y, rfl, y0, y1, hs, hg⟩
          have HT := Lib.hid (HT8.out.grownG hs hg)
          have HOK := Lib.hid HR8.out.ok
          clear hs hg HT8 HR8
          obtain ⟨r0, r1, r2, r3, r4, r5, hpl⟩ := HT.out.bu.rb.facts
          obtain ⟨v0, v1, v2, v3, v4, v5, v6⟩ := HT.out.mm.facts.1
          have hml := HT.out.mm.1
          have hy5 : y = 0 ∨ y = 1 ∨ y = 2 ∨ y = 3 ∨ y = 4 := by omega
          clear y0 y1
          have hmx : m ≠ x := by have := HT.out.old; omega
          have hxm : x ≠ m := fun e => hmx e.symm
          have hqm : q ≠ m := by have := HT.out.old; omega
          have hmq : m ≠ q := fun e => hqm e.symm
          have hqx : q ≠ x := by have := HT.out.old; omega
          have hxq : x ≠ q := fun e => hqx e.symm
          have hpx : p ≠ x := by have := HT.out.old; omega
          have hxp : x ≠ p := fun e => hpx e.symm
          have hpq : p ≠ q := by have := HT.out.old; omega
          have hqp : q ≠ p := fun e => hpq e.symm
          rcases hy5 with rfl | rfl | rfl | rfl | rfl
          · have HPB := Lib.hid (pb_ok hk1 hk2 HOK.out.1 (show L.length < k by omega) HOK.out.2.2.1 HVM.out HNI.out HT.out.bu.here)
            have HLE := Lib.hid (show (L ++ [M]).length ≤ k by simp; omega)
            have HGE := Lib.hid (show Gd (L ++ [M]) from gd_back HOK.out.2.2.1 HVM.out HNI.out)
            have HIE := Lib.hid (show ∀ N ∈ (L ++ [M]), 1 ≤ N.id ∧ N.id < i + 1 from fun N hN => by
              rcases mem_last hN with h | h
              · subst h; have := HMI.out; omega
              · have := HOK.out.2.2.2 N h; omega)
            have HHD := Lib.hid (show hd < k from HOK.out.1)
            obtain ⟨L', hL'⟩ : ∃ L', L' = (L ++ [M]) := ⟨_, rfl⟩
            have HLP := Lib.hid hL'
            rw [← hL'] at HPB HLE HGE HIE
            clear hL'
            go_wp2_with fail
            refine HPB.out.mono ?_
            rintro e w10 ⟨A3, c3, rfl, hnw, hl, hb⟩
            rw [fil_len] at hl ⊢
            have HT10 := Lib.hid (HT.out.below hb)
            have HTX := Lib.hid (HT10.out.setx A3 k c3 hd L'.length)
            have HNW := Lib.hid hnw
            have HPW := Lib.hid (And.intro (show p < w9.heap.size from HT.out.bu.rb.lt) (show wr.heap.size ≤ w9.heap.size from HT.out.bu.old.2.2))
            have HL3 := Lib.hid (hl.off3 hnw HT.out.rx.lt (.slice A3 k c3) (.int .i64 hd) (.int .i64 L'.length))
            clear hnw hl hb HT r0 r1 r2 r3 r4 r5 hpl v0 v1 v2 v3 v4 v5 v6 hml
            obtain ⟨x0, x1, x2, x3, x4, x5, hxl⟩ := HT10.out.rx.facts
            obtain ⟨v0, v1, v2, v3, v4, v5, v6⟩ := HT10.out.mm.facts.1
            have hml := HT10.out.mm.1
            obtain ⟨r0, r1, r2, r3, r4, r5, hpl⟩ := HT10.out.bu.rb.facts
            go_wp2_with (at_builtin; refine wpList_append_wn _ rfl (.tmp 93) (.tmp 95) 22 rfl 26 i0 _ 64 Try.underlying22 HI.out HZ.out.1 HZ.out.2.1 HZ.out.2.2 rfl (p + 1) wr.heap.size Av cv L rfl (HTX.out.wn.alloc HTX.out.bu.old.2.2 (.cells M.cs 26)) (Nat.le_trans HTX.out.bu.rb.lt (by simp)) (Nat.le_trans HTX.out.bu.old.2.2 (by simp)) ⟨w10.heap.size, 0, none⟩ 1 M rfl (msg_at _ M _ (by simp)) (by unfold maxLen; omega) (by omega) ?_; intro v11 w11 hwn hgr; obtain ⟨row, hgr, hrow⟩ := hgr; have HAL := Lib.hid (HTX.out.below ((Below.refl _ _).alloc (Nat.le_refl _) (.cells M.cs 26))); have HX11 := Lib.hid (HAL.out.row hgr hrow); have HB11 := Lib.hid (HAL.out.bu.row' hgr hrow); have HL11 := Lib.hid (((HL3.out.alloc (by simp) (.cells M.cs 26)).row hgr HNW.out HPW.out.2 (fun b e => (hrow b e).2) (by simp)).more (show w10.heap.size ≤ w11.heap.size from Nat.le_trans (by simp) hgr.size)); have HWN := Lib.hid (wn_back hwn HLP.out); have HE := Lib.hid (rs_take (i := i + 1) HB11.out.src HB11.out.rb HB11.out.bel HB11.out.old HNW.out HPW.out.1 HL11.out HWN.out ⟨HHD.out, HLE.out, HGE.out, HIE.out⟩); obtain ⟨Aw, cw, hvw⟩ := HE.out.wn.form; subst hvw; clear hwn hgr hrow HAL x0 x1 x2 x3 x4 x5 hxl v0 v1 v2 v3 v4 v5 v6 hml r0 r1 r2 r3 r4 r5 hpl; obtain ⟨x0, x1, x2, x3, x4, x5, hxl⟩ := HX11.out.facts; obtain ⟨r0, r1, r2, r3, r4, r5, hpl⟩ := HB11.out.rb.facts)
            have HLI := Lib.hid (li_ok hk1 hk2 HE.out.ok.1 HE.out.ok.2.1 HE.out.ok.2.2.1 HE.out.bu.here)
            refine HLI.out.mono ?_
            rintro e w16 ⟨vl, rfl, _, hl, hb⟩
            obtain ⟨Al, cl, rfl, _, _⟩ := hl.form
            have HE6 := Lib.hid (HE.out.below hb)
            have HL6 := Lib.hid hl
            clear hl hb r0 r1 r2 r3 r4 r5 hpl
            go_wp2_with fail
            refine (rsame_yes _ _ _ _ _ _ _ _ _ _ HL6.out HE6.out.wn.ls).mono ?_
            rintro e w17 ⟨rfl, hb⟩
            have HE7 := Lib.hid ((HE6.out.below hb).now (i' := i + 1) (by omega))
            obtain ⟨r0, r1, r2, r3, r4, r5, hpl⟩ := HE7.out.bu.rb.facts
            clear hb
            go_wp2
            go_roundw
            case rel => exact ⟨i + 1, _, _, _, L', by go_num, by omega, by omega, HE7.out⟩
            case measure => simp [intOf]; omega
          · have HPB := Lib.hid (pb_ok hk1 hk2 HOK.out.1 (show L.length < k by omega) HOK.out.2.2.1 HVM.out HNI.out HT.out.bu.here)
            have HLE := Lib.hid (show (L ++ [M]).length ≤ k by simp; omega)
            have HGE := Lib.hid (show Gd (L ++ [M]) from gd_back HOK.out.2.2.1 HVM.out HNI.out)
            have HIE := Lib.hid (show ∀ N ∈ (L ++ [M]), 1 ≤ N.id ∧ N.id < i + 1 from fun N hN => by
              rcases mem_last hN with h | h
              · subst h; have := HMI.out; omega
              · have := HOK.out.2.2.2 N h; omega)
            have HHD := Lib.hid (show hd < k from HOK.out.1)
            obtain ⟨L', hL'⟩ : ∃ L', L' = (L ++ [M]) := ⟨_, rfl⟩
            have HLP := Lib.hid hL'
            rw [← hL'] at HPB HLE HGE HIE
            clear hL'
            go_wp2_with fail
            refine HPB.out.mono ?_
            rintro e w10 ⟨A3, c3, rfl, hnw, hl, hb⟩
            rw [fil_len] at hl ⊢
            have HT10 := Lib.hid (HT.out.below hb)
            have HTX := Lib.hid (HT10.out.setx A3 k c3 hd L'.length)
            have HNW := Lib.hid hnw
            have HPW := Lib.hid (And.intro (show p < w9.heap.size from HT.out.bu.rb.lt) (show wr.heap.size ≤ w9.heap.size from HT.out.bu.old.2.2))
            have HL3 := Lib.hid (hl.off3 hnw HT.out.rx.lt (.slice A3 k c3) (.int .i64 hd) (.int .i64 L'.length))
            clear hnw hl hb HT r0 r1 r2 r3 r4 r5 hpl v0 v1 v2 v3 v4 v5 v6 hml
            obtain ⟨x0, x1, x2, x3, x4, x5, hxl⟩ := HT10.out.rx.facts
            obtain ⟨v0, v1, v2, v3, v4, v5, v6⟩ := HT10.out.mm.facts.1
            have hml := HT10.out.mm.1
            obtain ⟨r0, r1, r2, r3, r4, r5, hpl⟩ := HT10.out.bu.rb.facts
            go_wp2_with (at_builtin; refine wpList_append_wn _ rfl (.tmp 93) (.tmp 95) 22 rfl 26 i0 _ 64 Try.underlying22 HI.out HZ.out.1 HZ.out.2.1 HZ.out.2.2 rfl (p + 1) wr.heap.size Av cv L rfl (HTX.out.wn.alloc HTX.out.bu.old.2.2 (.cells M.cs 26)) (Nat.le_trans HTX.out.bu.rb.lt (by simp)) (Nat.le_trans HTX.out.bu.old.2.2 (by simp)) ⟨w10.heap.size, 0, none⟩ 1 M rfl (msg_at _ M _ (by simp)) (by unfold maxLen; omega) (by omega) ?_; intro v11 w11 hwn hgr; obtain ⟨row, hgr, hrow⟩ := hgr; have HAL := Lib.hid (HTX.out.below ((Below.refl _ _).alloc (Nat.le_refl _) (.cells M.cs 26))); have HX11 := Lib.hid (HAL.out.row hgr hrow); have HB11 := Lib.hid (HAL.out.bu.row' hgr hrow); have HL11 := Lib.hid (((HL3.out.alloc (by simp) (.cells M.cs 26)).row hgr HNW.out HPW.out.2 (fun b e => (hrow b e).2) (by simp)).more (show w10.heap.size ≤ w11.heap.size from Nat.le_trans (by simp) hgr.size)); have HWN := Lib.hid (wn_back hwn HLP.out); have HE := Lib.hid (rs_take (i := i + 1) HB11.out.src HB11.out.rb HB11.out.bel HB11.out.old HNW.out HPW.out.1 HL11.out HWN.out ⟨HHD.out, HLE.out, HGE.out, HIE.out⟩); obtain ⟨Aw, cw, hvw⟩ := HE.out.wn.form; subst hvw; clear hwn hgr hrow HAL x0 x1 x2 x3 x4 x5 hxl v0 v1 v2 v3 v4 v5 v6 hml r0 r1 r2 r3 r4 r5 hpl; obtain ⟨x0, x1, x2, x3, x4, x5, hxl⟩ := HX11.out.facts; obtain ⟨r0, r1, r2, r3, r4, r5, hpl⟩ := HB11.out.rb.facts)
            have HLI := Lib.hid (li_ok hk1 hk2 HE.out.ok.1 HE.out.ok.2.1 HE.out.ok.2.2.1 HE.out.bu.here)
            refine HLI.out.mono ?_
            rintro e w16 ⟨vl, rfl, _, hl, hb⟩
            obtain ⟨Al, cl, rfl, _, _⟩ := hl.form
            have HE6 := Lib.hid (HE.out.below hb)
            have HL6 := Lib.hid hl
            clear hl hb r0 r1 r2 r3 r4 r5 hpl
            go_wp2_with fail
            refine (rsame_yes _ _ _ _ _ _ _ _ _ _ HL6.out HE6.out.wn.ls).mono ?_
            rintro e w17 ⟨rfl, hb⟩
            have HE7 := Lib.hid ((HE6.out.below hb).now (i' := i + 1) (by omega))
            obtain ⟨r0, r1, r2, r3, r4, r5, hpl⟩ := HE7.out.bu.rb.facts
            clear hb
            go_wp2
            go_roundw
            case rel => exact ⟨i + 1, _, _, _, L', by go_num, by omega, by omega, HE7.out⟩
            case measure => simp [intOf]; omega
          · have HPB := Lib.hid (pf_ok hk1 hk2 HOK.out.1 (show L.length < k by omega) HOK.out.2.2.1 HVM.out HNI.out HT.out.bu.here)
            have HLE := Lib.hid (show (M :: L).length ≤ k by simp; omega)
            have HGE := Lib.hid (show Gd (M :: L) from gd_front HOK.out.2.2.1 HVM.out HNI.out)
            have HIE := Lib.hid (show ∀ N ∈ (M :: L), 1 ≤ N.id ∧ N.id < i + 1 from fun N hN => by
              rcases List.mem_cons.1 hN with h | h
              · subst h; have := HMI.out; omega
              · have := HOK.out.2.2.2 N h; omega)
            have HHD := Lib.hid (show ((hd + (k - 1)) % k) < k from Nat.mod_lt _ (by omega))
            obtain ⟨L', hL'⟩ : ∃ L', L' = (M :: L) := ⟨_, rfl⟩
            have HLP := Lib.hid hL'
            rw [← hL'] at HPB HLE HGE HIE
            obtain ⟨hd', hhd⟩ : ∃ hd', hd' = ((hd + (k - 1)) % k) := ⟨_, rfl⟩
            rw [← hhd] at HPB HHD
            clear hL' hhd
            go_wp2_with fail
            refine HPB.out.mono ?_
            rintro e w10 ⟨A3, c3, rfl, hnw, hl, hb⟩
            rw [fil_len] at hl ⊢
            have HT10 := Lib.hid (HT.out.below hb)
            have HTX := Lib.hid (HT10.out.setx A3 k c3 hd' L'.length)
            have HNW := Lib.hid hnw
            have HPW := Lib.hid (And.intro (show p < w9.heap.size from HT.out.bu.rb.lt) (show wr.heap.size ≤ w9.heap.size from HT.out.bu.old.2.2))
            have HL3 := Lib.hid (hl.off3 hnw HT.out.rx.lt (.slice A3 k c3) (.int .i64 hd') (.int .i64 L'.length))
            clear hnw hl hb HT r0 r1 r2 r3 r4 r5 hpl v0 v1 v2 v3 v4 v5 v6 hml
            obtain ⟨x0, x1, x2, x3, x4, x5, hxl⟩ := HT10.out.rx.facts
            obtain ⟨v0, v1, v2, v3, v4, v5, v6⟩ := HT10.out.mm.facts.1
            have hml := HT10.out.mm.1
            obtain ⟨r0, r1, r2, r3, r4, r5, hpl⟩ := HT10.out.bu.rb.facts
            have HLT := Lib.hid (lit_own (((w10.setCell ⟨x, 0, none⟩ (.slice A3 k c3)).setCell ⟨x, 1, none⟩ (.int .i64 hd')).setCell ⟨x, 2, none⟩ (.int .i64 L'.length)) w10.heap.size (by simp) M 26)
            have HRD := Lib.hid (HTX.out.wn.alloc HTX.out.bu.old.2.2 (.cells M.cs 26)).ls.rd
            go_wp2_with (at_builtin; refine wpList_append_rd _ rfl (.tmp 112) (.tmp 113) 22 rfl w10.heap.size 26 i0 _ 7 64 Try.underlying22 HI.out HZ.out.1 HZ.out.2.1 HZ.out.2.2 rfl (by omega) (.slice (some ⟨w10.heap.size, 0, none⟩) 1 1) 1 M.l rfl HLT.out wr.heap.size Av L.length cv (lcs L) rfl HRD.out (lcs_one _) (by unfold maxLen; omega) (by omega) (by simp) ?_; intro v11 w11 hown hgr hat; have HBW := Lib.hid (((Below.refl (((w10.setCell ⟨x, 0, none⟩ (.slice A3 k c3)).setCell ⟨x, 1, none⟩ (.int .i64 hd')).setCell ⟨x, 2, none⟩ (.int .i64 L'.length)).heap.size (((w10.setCell ⟨x, 0, none⟩ (.slice A3 k c3)).setCell ⟨x, 1, none⟩ (.int .i64 hd')).setCell ⟨x, 2, none⟩ (.int .i64 L'.length))).alloc (Nat.le_refl _) (.cells M.cs 26)).grown hgr (by simp) (fun b e => own_new e (by simp))); have HT11 := Lib.hid (HTX.out.below HBW.out); have HX11 := Lib.hid HT11.out.rx; have HL11 := Lib.hid ((HL3.out.below (HBW.out.mono (by simp))).more (show w10.heap.size ≤ w11.heap.size from Nat.le_trans (by simp) HBW.out.size)); have HWN := Lib.hid (wn_front hown HLP.out (show p + 1 ≤ w10.heap.size from HT10.out.bu.rb.lt)); have HE := Lib.hid (rs_take (i := i + 1) HT11.out.bu.src HT11.out.bu.rb HT11.out.bu.bel ⟨HT11.out.bu.old.1, HT11.out.bu.old.2.1⟩ HNW.out HPW.out.1 HL11.out HWN.out ⟨HHD.out, HLE.out, HGE.out, HIE.out⟩); obtain ⟨Aw, cw, hvw⟩ := HE.out.wn.form; subst hvw; clear hown hgr hat x0 x1 x2 x3 x4 x5 hxl v0 v1 v2 v3 v4 v5 v6 hml r0 r1 r2 r3 r4 r5 hpl; obtain ⟨x0, x1, x2, x3, x4, x5, hxl⟩ := HX11.out.facts; obtain ⟨r0, r1, r2, r3, r4, r5, hpl⟩ := HT11.out.bu.rb.facts)
            have HLI := Lib.hid (li_ok hk1 hk2 HE.out.ok.1 HE.out.ok.2.1 HE.out.ok.2.2.1 HE.out.bu.here)
            refine HLI.out.mono ?_
            rintro e w16 ⟨vl, rfl, _, hl, hb⟩
            obtain ⟨Al, cl, rfl, _, _⟩ := hl.form
            have HE6 := Lib.hid (HE.out.below hb)
            have HL6 := Lib.hid hl
            clear hl hb r0 r1 r2 r3 r4 r5 hpl
            go_wp2_with fail
            refine (rsame_yes _ _ _ _ _ _ _ _ _ _ HL6.out HE6.out.wn.ls).mono ?_
            rintro e w17 ⟨rfl, hb⟩
            have HE7 := Lib.hid ((HE6.out.below hb).now (i' := i + 1) (by omega))
            obtain ⟨r0, r1, r2, r3, r4, r5, hpl⟩ := HE7.out.bu.rb.facts
            clear hb
            go_wp2
            go_roundw
            case rel => exact ⟨i + 1, _, _, _, L', by go_num, by omega, by omega, HE7.out⟩
            case measure => simp [intOf]; omega
          · by_cases hpos : 0 < L.length
            · obtain ⟨M0, L', hM⟩ : ∃ M0 L', L = M0 :: L' := by
                cases hh : L with
                | nil => rw [hh] at hpos; simp at hpos
                | cons a b => exact ⟨a, b, rfl⟩
              have HPF := Lib.hid (show Calls Try.prog 22 #[.agg #[.slice A k c, .int .i64 hd, .int .i64 L.length]] w9 (RMP w9 (fil k ((hd + 1) % k) L') ((hd + 1) % k : Nat) (L'.length : Nat) M0 0) by
                have := qf_ok (A := A) (c := c) (hd := hd) (W := w9) (M := M0) (r := L') hk1 hk2 HOK.out.1 (by rw [← hM]; exact HOK.out.2.1) (by rw [← hM]; exact HOK.out.2.2.1) (by rw [← hM]; exact HT.out.bu.here)
                rw [← hM] at this
                exact this)
              have hln : L.length = L'.length + 1 := by rw [hM]; simp
              have HGE := Lib.hid (show Gd L' from gd_sub (by rw [hM]; exact List.sublist_cons_self _ _) HOK.out.2.2.1)
              have HIE := Lib.hid (show ∀ N ∈ L', 1 ≤ N.id ∧ N.id < i from fun N hN => HOK.out.2.2.2 N (by rw [hM]; exact List.mem_cons_of_mem _ hN))
              have HHD := Lib.hid (show (hd + 1) % k < k from Nat.mod_lt _ (by omega))
              obtain ⟨hd', hhd⟩ : ∃ hd', hd' = (hd + 1) % k := ⟨_, rfl⟩
              rw [← hhd] at HPF HHD
              clear hhd
              have hn0 : (0 : Int) < (L.length : Int) := by omega
              have hnN : 0 < L.length := by omega
              have hl1 : (L'.length : Int) ≤ 12 := by omega
              have HLE := Lib.hid (show L'.length ≤ k by omega)
              have HLN := Lib.hid hln
              have HMM0 := Lib.hid hM
              clear hln hM
              go_wp2_with fail
              refine HPF.out.mono ?_
              rintro e w10 ⟨A3, c3, rfl, hnw, hl, hb⟩
              rw [fil_len] at hl ⊢
              have HT10 := Lib.hid (HT.out.below hb)
              have HTX := Lib.hid (show RtAt w g p wr.heap.size A k c hd L (.slice Av L.length cv) m x q M A3 k c3 hd' L'.length M0 ((((((((((w10.setCell ⟨x, 0, none⟩ (.slice A3 k c3)).setCell ⟨x, 1, none⟩ (.int .i64 hd')).setCell ⟨x, 2, none⟩ (.int .i64 L'.length)).setCell ⟨q, 0, none⟩ (.int .i64 M0.id)).setCell ⟨q, 1, none⟩ (.int .i64 M0.rt)).setCell ⟨q, 2, none⟩ (.int .i64 M0.ep)).setCell ⟨q, 3, none⟩ (.int .i64 M0.ct)).setCell ⟨q, 4, none⟩ (.int .i64 M0.gn)).setCell ⟨q, 5, none⟩ (.int .i64 M0.st)).setCell ⟨q, 6, none⟩ (.string M0.bd)) from (HT10.out.setx A3 k c3 hd' L'.length).setq M0)
              have HNW := Lib.hid hnw
              have HPW := Lib.hid (And.intro (show p < w9.heap.size from HT.out.bu.rb.lt) (show wr.heap.size ≤ w9.heap.size from HT.out.bu.old.2.2))
              have HL3 := Lib.hid (((hl.off3 hnw HT.out.rx.lt (.slice A3 k c3) (.int .i64 hd') (.int .i64 L'.length)).off7 hnw HT.out.mq.1 M0).more (show w10.heap.size ≤ ((((((((((w10.setCell ⟨x, 0, none⟩ (.slice A3 k c3)).setCell ⟨x, 1, none⟩ (.int .i64 hd')).setCell ⟨x, 2, none⟩ (.int .i64 L'.length)).setCell ⟨q, 0, none⟩ (.int .i64 M0.id)).setCell ⟨q, 1, none⟩ (.int .i64 M0.rt)).setCell ⟨q, 2, none⟩ (.int .i64 M0.ep)).setCell ⟨q, 3, none⟩ (.int .i64 M0.ct)).setCell ⟨q, 4, none⟩ (.int .i64 M0.gn)).setCell ⟨q, 5, none⟩ (.int .i64 M0.st)).setCell ⟨q, 6, none⟩ (.string M0.bd)).heap.size by simp))
              have HMB := Lib.hid (show wr.heap.size ≤ m ∧ m < x ∧ x < q from ⟨HT.out.old.2.1, HT.out.old.2.2⟩)
              clear hnw hl hb HT r0 r1 r2 r3 r4 r5 hpl v0 v1 v2 v3 v4 v5 v6 hml
              obtain ⟨x0, x1, x2, x3, x4, x5, hxl⟩ := HT10.out.rx.facts
              obtain ⟨r0, r1, r2, r3, r4, r5, hpl⟩ := HT10.out.bu.rb.facts
              obtain ⟨u0, u1, u2, u3, u4, u5, u6⟩ := HT10.out.mq.facts.1
              obtain ⟨f0, f1, f2, f3, f4, f5, f6⟩ := HT10.out.mq.fr
              have hql := HT10.out.mq.1
              obtain ⟨b, o, hAv, hbb, hc7⟩ := HT10.out.wn.ls.at_ (k := 0) (by have := HLN.out; omega)
              rw [show L[0]'(by have := HLN.out; omega) = M0 by have := HMM0.out; simp [this]] at hc7
              rw [Nat.zero_mul, Nat.add_zero] at hc7
              have hbx : b ≠ x := by have := HMB.out; omega
              have hbq : b ≠ q := by have := HMB.out; omega
              have hxb : x ≠ b := fun e => hbx e.symm
              have hqb : q ≠ b := fun e => hbq e.symm
              obtain ⟨A4, hA4, hcut⟩ := run_lcut Av L.length cv .i64 1 (by omega)
              rw [show L.length - 1 = L'.length by have := HLN.out; omega] at hcut
              have HW4 := Lib.hid (fun j => (show Wn (((((((((((w10.setCell ⟨x, 0, none⟩ (.slice A3 k c3)).setCell ⟨x, 1, none⟩ (.int .i64 hd')).setCell ⟨x, 2, none⟩ (.int .i64 L'.length)).setCell ⟨q, 0, none⟩ (.int .i64 M0.id)).setCell ⟨q, 1, none⟩ (.int .i64 M0.rt)).setCell ⟨q, 2, none⟩ (.int .i64 M0.ep)).setCell ⟨q, 3, none⟩ (.int .i64 M0.ct)).setCell ⟨q, 4, none⟩ (.int .i64 M0.gn)).setCell ⟨q, 5, none⟩ (.int .i64 M0.st)).setCell ⟨q, 6, none⟩ (.string M0.bd)).drewN j) (p + 1) wr.heap.size (.slice A4 L'.length (cv - 1)) L' by
                have h : Wn (((((((((((w10.setCell ⟨x, 0, none⟩ (.slice A3 k c3)).setCell ⟨x, 1, none⟩ (.int .i64 hd')).setCell ⟨x, 2, none⟩ (.int .i64 L'.length)).setCell ⟨q, 0, none⟩ (.int .i64 M0.id)).setCell ⟨q, 1, none⟩ (.int .i64 M0.rt)).setCell ⟨q, 2, none⟩ (.int .i64 M0.ep)).setCell ⟨q, 3, none⟩ (.int .i64 M0.ct)).setCell ⟨q, 4, none⟩ (.int .i64 M0.gn)).setCell ⟨q, 5, none⟩ (.int .i64 M0.st)).setCell ⟨q, 6, none⟩ (.string M0.bd)).drewN j) (p + 1) wr.heap.size (.slice Av L.length cv) (M0 :: L') := by
                  have := (HTX.out.drewN j).wn
                  rw [HMM0.out] at this ⊢
                  exact this
                have h2 := h.tail
                rw [← hA4, show L.length - 1 = L'.length by have := HLN.out; omega] at h2
                exact h2))
              have hcut' : ∀ W, (Instr.slice 22 (.slice Av L.length cv) (some (.int .i64 1)) none none).run Try.prog W = .ok (.slice A4 L'.length (cv - 1)) W := hcut
              clear hA4 hcut
              have hneX := neqm M0
              go_wp2
              generalize (((((((((w10.setCell ⟨x, 0, none⟩ (.slice A3 k c3)).setCell ⟨x, 1, none⟩ (.int .i64 hd')).setCell ⟨x, 2, none⟩ (.int .i64 L'.length)).setCell ⟨q, 0, none⟩ (.int .i64 M0.id)).setCell ⟨q, 1, none⟩ (.int .i64 M0.rt)).setCell ⟨q, 2, none⟩ (.int .i64 M0.ep)).setCell ⟨q, 3, none⟩ (.int .i64 M0.ct)).setCell ⟨q, 4, none⟩ (.int .i64 M0.gn)).setCell ⟨q, 5, none⟩ (.int .i64 M0.st)).setCell ⟨q, 6, none⟩ (.string M0.bd) = wz at *
              clear x0 x1 x2 x3 x4 x5 hxl r0 r1 r2 r3 r4 r5 hpl u0 u1 u2 u3 u4 u5 u6 f0 f1 f2 f3 f4 f5 f6 hql hc7 hbb hbx hbq hxb hqb
              obtain ⟨x0, x1, x2, x3, x4, x5, hxl⟩ := HTX.out.rx.facts
              obtain ⟨r0, r1, r2, r3, r4, r5, hpl⟩ := HTX.out.bu.rb.facts
              obtain ⟨u0, u1, u2, u3, u4, u5, u6⟩ := mat_c7 HTX.out.mq
              obtain ⟨b2, o2, hAv2, hbb, hc7⟩ := HTX.out.wn.ls.at_ (k := 0) (by have := HLN.out; omega)
              rw [show L[0]'(by have := HLN.out; omega) = M0 by have := HMM0.out; simp [this]] at hc7
              rw [Nat.zero_mul, Nat.add_zero] at hc7
              obtain ⟨d0, d1, d2, d3, d4, d5, d6⟩ := hc7
              subst hAv
              injection hAv2 with hAv2
              injection hAv2 with hb2 ho2 _
              subst hb2 ho2
              go_quiet (fail)
              rename_i nq
              have HTD := Lib.hid (HTX.out.drewN nq)
              have HE := Lib.hid (rs_take (i := i) (W := wz.drewN nq) HTD.out.bu.src HTD.out.bu.rb HTD.out.bu.bel ⟨HTD.out.bu.old.1, HTD.out.bu.old.2.1⟩ HNW.out HPW.out.1 (HL3.out.drewN nq) ((HW4.out nq).more HTD.out.bu.old.2.2) ⟨HHD.out, HLE.out, HGE.out, HIE.out⟩)
              have HLI := Lib.hid (li_ok hk1 hk2 HE.out.ok.1 HE.out.ok.2.1 HE.out.ok.2.2.1 HE.out.bu.here)
              go_wp2_with fail
              refine HLI.out.mono ?_
              rintro e w16 ⟨vl, rfl, _, hl, hb⟩
              obtain ⟨Al, cl, rfl, _, _⟩ := hl.form
              have HE6 := Lib.hid (HE.out.below hb)
              have HL6 := Lib.hid hl
              clear hl hb r0 r1 r2 r3 r4 r5 hpl
              go_wp2_with fail
              refine (rsame_yes _ _ _ _ _ _ _ _ _ _ HL6.out HE6.out.wn.ls).mono ?_
              rintro e w17 ⟨rfl, hb⟩
              have HE7 := Lib.hid ((HE6.out.below hb).now (i' := i + 1) (by omega))
              obtain ⟨r0, r1, r2, r3, r4, r5, hpl⟩ := HE7.out.bu.rb.facts
              clear hb
              go_wp2
              go_roundw
              case rel => exact ⟨i + 1, _, _, _, L', by go_num, by omega, by omega, HE7.out⟩
              case measure => simp [intOf]; omega
            · have hL0 : L = [] := List.length_eq_zero_iff.1 (by omega)
              have HPF := Lib.hid (show Calls Try.prog 22 #[.agg #[.slice A k c, .int .i64 hd, .int .i64 L.length]] w9 (RMP w9 (qfC (fil k hd []) hd 0) 0 0 (qfM (fil k hd []) hd 0) 4) by
                have := qf_no (A := A) (c := c) (hd := hd) (W := w9) hk1 hk2 HOK.out.1 (by rw [← hL0]; exact HT.out.bu.here)
                rw [hL0]
                exact this)
              generalize qfC (fil k hd []) (hd : Int) 0 = ds at *
              generalize qfM (fil k hd []) (hd : Int) 0 = X0 at *
              have hn0 : ¬ ((0 : Int) < (L.length : Int)) := by omega
              have hnN : ¬ (0 < L.length) := by omega
              clear hL0
              go_wp2_with fail
              refine HPF.out.mono ?_
              rintro e w10 ⟨A3, c3, rfl, hnw, hl, hb⟩
              have HT10 := Lib.hid (HT.out.below hb)
              have HTX := Lib.hid (show RtAt w g p wr.heap.size A k c hd L (.slice Av L.length cv) m x q M A3 ds.length c3 0 0 X0 ((((((((((w10.setCell ⟨x, 0, none⟩ (.slice A3 ds.length c3)).setCell ⟨x, 1, none⟩ (.int .i64 0)).setCell ⟨x, 2, none⟩ (.int .i64 0)).setCell ⟨q, 0, none⟩ (.int .i64 X0.id)).setCell ⟨q, 1, none⟩ (.int .i64 X0.rt)).setCell ⟨q, 2, none⟩ (.int .i64 X0.ep)).setCell ⟨q, 3, none⟩ (.int .i64 X0.ct)).setCell ⟨q, 4, none⟩ (.int .i64 X0.gn)).setCell ⟨q, 5, none⟩ (.int .i64 X0.st)).setCell ⟨q, 6, none⟩ (.string X0.bd)) from (HT10.out.setx A3 ds.length c3 0 0).setq X0)
              clear hnw hl hb HT r0 r1 r2 r3 r4 r5 hpl v0 v1 v2 v3 v4 v5 v6 hml
              obtain ⟨x0, x1, x2, x3, x4, x5, hxl⟩ := HT10.out.rx.facts
              obtain ⟨r0, r1, r2, r3, r4, r5, hpl⟩ := HT10.out.bu.rb.facts
              obtain ⟨u0, u1, u2, u3, u4, u5, u6⟩ := HT10.out.mq.facts.1
              obtain ⟨f0, f1, f2, f3, f4, f5, f6⟩ := HT10.out.mq.fr
              have hql := HT10.out.mq.1
              go_wp2
              generalize (((((((((w10.setCell ⟨x, 0, none⟩ (.slice A3 ds.length c3)).setCell ⟨x, 1, none⟩ (.int .i64 0)).setCell ⟨x, 2, none⟩ (.int .i64 0)).setCell ⟨q, 0, none⟩ (.int .i64 X0.id)).setCell ⟨q, 1, none⟩ (.int .i64 X0.rt)).setCell ⟨q, 2, none⟩ (.int .i64 X0.ep)).setCell ⟨q, 3, none⟩ (.int .i64 X0.ct)).setCell ⟨q, 4, none⟩ (.int .i64 X0.gn)).setCell ⟨q, 5, none⟩ (.int .i64 X0.st)).setCell ⟨q, 6, none⟩ (.string X0.bd) = wz at *
              clear x0 x1 x2 x3 x4 x5 hxl r0 r1 r2 r3 r4 r5 hpl u0 u1 u2 u3 u4 u5 u6 f0 f1 f2 f3 f4 f5 f6 hql
              obtain ⟨r0, r1, r2, r3, r4, r5, hpl⟩ := HTX.out.bu.rb.facts
              go_quiet (fail)
              rename_i nq
              have HTD := Lib.hid (HTX.out.drewN nq)
              have HE := Lib.hid (RsAt.mk HTD.out.bu HTD.out.wn HOK.out)
              have HLI := Lib.hid (li_ok hk1 hk2 HE.out.ok.1 HE.out.ok.2.1 HE.out.ok.2.2.1 HE.out.bu.here)
              go_wp2_with fail
              refine HLI.out.mono ?_
              rintro e w16 ⟨vl, rfl, _, hl, hb⟩
              obtain ⟨Al, cl, rfl, _, _⟩ := hl.form
              have HE6 := Lib.hid (HE.out.below hb)
              have HL6 := Lib.hid hl
              clear hl hb r0 r1 r2 r3 r4 r5 hpl
              go_wp2_with fail
              refine (rsame_yes _ _ _ _ _ _ _ _ _ _ HL6.out HE6.out.wn.ls).mono ?_
              rintro e w17 ⟨rfl, hb⟩
              have HE7 := Lib.hid ((HE6.out.below hb).now (i' := i + 1) (by omega))
              obtain ⟨r0, r1, r2, r3, r4, r5, hpl⟩ := HE7.out.bu.rb.facts
              clear hb
              go_wp2
              go_roundw
              case rel => exact ⟨i + 1, _, _, _, L, by go_num, by omega, by omega, HE7.out⟩
              case measure => simp [intOf]; omega
          · by_cases hpos : 0 < L.length
            · have hln0 : L.length = (L.length - 1) + 1 := by omega
              have HPF0 := qb_ok (A := A) (c := c) (hd := hd) (W := w9) hk1 hk2 HOK.out.1 HOK.out.2.1 HOK.out.2.2.1 hln0 HT.out.bu.here
              have HGE := Lib.hid (gd_take HOK.out.2.2.1 (L.length - 1))
              have HIE := Lib.hid (show ∀ N ∈ L.take (L.length - 1), 1 ≤ N.id ∧ N.id < i from fun N hN => HOK.out.2.2.2 N (List.mem_of_mem_take hN))
              have HTK := Lib.hid (HT.out.wn.upto (L.length - 1) (by omega))
              obtain ⟨M0, hM0⟩ : ∃ M0, M0 = L[L.length - 1]'(by omega) := ⟨_, rfl⟩
              have hlt0 : (L.take (L.length - 1)).length = L.length - 1 := by rw [List.length_take]; omega
              obtain ⟨L', hL'⟩ : ∃ L', L' = L.take (L.length - 1) := ⟨_, rfl⟩
              rw [← hL'] at HPF0 HGE HIE hlt0
              rw [← hM0] at HPF0
              have HPF := Lib.hid HPF0
              have hln : L.length = L'.length + 1 := by omega
              have HHD := Lib.hid HOK.out.1
              have HMX := Lib.hid (show ∀ (h : L'.length < L.length), L[L'.length] = M0 from fun h => by rw [hM0]; congr 1)
              have HLT := Lib.hid hL'
              obtain ⟨hd', hhd⟩ : ∃ hd', hd' = hd := ⟨_, rfl⟩
              have HHE := Lib.hid hhd
              rw [← hhd] at HHD
              clear HPF0 hM0 hL' hlt0 hln0
              have HPF1 := Lib.hid (show Calls Try.prog 23 #[.agg #[.slice A k c, .int .i64 hd, .int .i64 L.length]] w9 (RMP w9 (fil k hd' L') hd' (L'.length : Nat) M0 0) by rw [hhd]; exact HPF.out)
              clear hhd HPF
              have HPF := HPF1
              have hn0 : (0 : Int) < (L.length : Int) := by omega
              have hnN : 0 < L.length := by omega
              have hl1 : (L'.length : Int) ≤ 12 := by omega
              have HLE := Lib.hid (show L'.length ≤ k by omega)
              have HLN := Lib.hid hln
              clear hln
              go_wp2_with fail
              refine HPF.out.mono ?_
              rintro e w10 ⟨A3, c3, rfl, hnw, hl, hb⟩
              rw [fil_len] at hl ⊢
              have HT10 := Lib.hid (HT.out.below hb)
              have HTX := Lib.hid (show RtAt w g p wr.heap.size A k c hd L (.slice Av L.length cv) m x q M A3 k c3 hd' L'.length M0 ((((((((((w10.setCell ⟨x, 0, none⟩ (.slice A3 k c3)).setCell ⟨x, 1, none⟩ (.int .i64 hd')).setCell ⟨x, 2, none⟩ (.int .i64 L'.length)).setCell ⟨q, 0, none⟩ (.int .i64 M0.id)).setCell ⟨q, 1, none⟩ (.int .i64 M0.rt)).setCell ⟨q, 2, none⟩ (.int .i64 M0.ep)).setCell ⟨q, 3, none⟩ (.int .i64 M0.ct)).setCell ⟨q, 4, none⟩ (.int .i64 M0.gn)).setCell ⟨q, 5, none⟩ (.int .i64 M0.st)).setCell ⟨q, 6, none⟩ (.string M0.bd)) from (HT10.out.setx A3 k c3 hd' L'.length).setq M0)
              have HNW := Lib.hid hnw
              have HPW := Lib.hid (And.intro (show p < w9.heap.size from HT.out.bu.rb.lt) (show wr.heap.size ≤ w9.heap.size from HT.out.bu.old.2.2))
              have HL3 := Lib.hid (((hl.off3 hnw HT.out.rx.lt (.slice A3 k c3) (.int .i64 hd') (.int .i64 L'.length)).off7 hnw HT.out.mq.1 M0).more (show w10.heap.size ≤ ((((((((((w10.setCell ⟨x, 0, none⟩ (.slice A3 k c3)).setCell ⟨x, 1, none⟩ (.int .i64 hd')).setCell ⟨x, 2, none⟩ (.int .i64 L'.length)).setCell ⟨q, 0, none⟩ (.int .i64 M0.id)).setCell ⟨q, 1, none⟩ (.int .i64 M0.rt)).setCell ⟨q, 2, none⟩ (.int .i64 M0.ep)).setCell ⟨q, 3, none⟩ (.int .i64 M0.ct)).setCell ⟨q, 4, none⟩ (.int .i64 M0.gn)).setCell ⟨q, 5, none⟩ (.int .i64 M0.st)).setCell ⟨q, 6, none⟩ (.string M0.bd)).heap.size by simp))
              have HMB := Lib.hid (show wr.heap.size ≤ m ∧ m < x ∧ x < q from ⟨HT.out.old.2.1, HT.out.old.2.2⟩)
              clear hnw hl hb HT r0 r1 r2 r3 r4 r5 hpl v0 v1 v2 v3 v4 v5 v6 hml
              obtain ⟨x0, x1, x2, x3, x4, x5, hxl⟩ := HT10.out.rx.facts
              obtain ⟨r0, r1, r2, r3, r4, r5, hpl⟩ := HT10.out.bu.rb.facts
              obtain ⟨u0, u1, u2, u3, u4, u5, u6⟩ := HT10.out.mq.facts.1
              obtain ⟨f0, f1, f2, f3, f4, f5, f6⟩ := HT10.out.mq.fr
              have hql := HT10.out.mq.1
              obtain ⟨b, o, hAv, hbb, hc7⟩ := HT10.out.wn.ls.at_ (k := L'.length) (by have := HLN.out; omega)
              rw [HMX.out _] at hc7
              have hbx : b ≠ x := by have := HMB.out; omega
              have hbq : b ≠ q := by have := HMB.out; omega
              have hxb : x ≠ b := fun e => hbx e.symm
              have hqb : q ≠ b := fun e => hbq e.symm
              have hcv : L.length ≤ cv := by obtain ⟨_, _, e, h, _⟩ := HT10.out.wn.ls; injection e with _ _ e3; subst e3; exact h
              have hcut' : ∀ W, (Instr.slice 22 (.slice Av L.length cv) none (some (.int .i64 (L'.length : Int))) none).run Try.prog W = .ok (.slice Av L'.length cv) W := run_lupto Av L.length cv .i64 L'.length (by have := HLN.out; omega)
              have hxw : IntKind.i64.wrap ((L.length : Int) - 1) = (L'.length : Int) := by rw [IntWalk.i64_in _ (by omega)]; have := HLN.out; omega
              have hli : (L'.length : Int) < (L.length : Int) := by have := HLN.out; omega
              have hli0 : (0 : Int) ≤ (L'.length : Int) := by omega
              have hliN : L'.length < L.length := by have := HLN.out; omega
              have hlcv : (L'.length : Int) ≤ (cv : Int) := by omega
              have HW4 := Lib.hid (fun j => (show Wn (((((((((((w10.setCell ⟨x, 0, none⟩ (.slice A3 k c3)).setCell ⟨x, 1, none⟩ (.int .i64 hd')).setCell ⟨x, 2, none⟩ (.int .i64 L'.length)).setCell ⟨q, 0, none⟩ (.int .i64 M0.id)).setCell ⟨q, 1, none⟩ (.int .i64 M0.rt)).setCell ⟨q, 2, none⟩ (.int .i64 M0.ep)).setCell ⟨q, 3, none⟩ (.int .i64 M0.ct)).setCell ⟨q, 4, none⟩ (.int .i64 M0.gn)).setCell ⟨q, 5, none⟩ (.int .i64 M0.st)).setCell ⟨q, 6, none⟩ (.string M0.bd)).drewN j) (p + 1) wr.heap.size (.slice Av L'.length cv) L' by
                have h := (HTX.out.drewN j).wn.upto (L.length - 1) (by omega)
                rw [← HLT.out, show L.length - 1 = L'.length by have := HLN.out; omega] at h
                exact h))
              have hneX := neqm M0
              go_wp2
              generalize (((((((((w10.setCell ⟨x, 0, none⟩ (.slice A3 k c3)).setCell ⟨x, 1, none⟩ (.int .i64 hd')).setCell ⟨x, 2, none⟩ (.int .i64 L'.length)).setCell ⟨q, 0, none⟩ (.int .i64 M0.id)).setCell ⟨q, 1, none⟩ (.int .i64 M0.rt)).setCell ⟨q, 2, none⟩ (.int .i64 M0.ep)).setCell ⟨q, 3, none⟩ (.int .i64 M0.ct)).setCell ⟨q, 4, none⟩ (.int .i64 M0.gn)).setCell ⟨q, 5, none⟩ (.int .i64 M0.st)).setCell ⟨q, 6, none⟩ (.string M0.bd) = wz at *
              clear x0 x1 x2 x3 x4 x5 hxl r0 r1 r2 r3 r4 r5 hpl u0 u1 u2 u3 u4 u5 u6 f0 f1 f2 f3 f4 f5 f6 hql hc7 hbb hbx hbq hxb hqb
              obtain ⟨x0, x1, x2, x3, x4, x5, hxl⟩ := HTX.out.rx.facts
              obtain ⟨r0, r1, r2, r3, r4, r5, hpl⟩ := HTX.out.bu.rb.facts
              obtain ⟨u0, u1, u2, u3, u4, u5, u6⟩ := mat_c7 HTX.out.mq
              obtain ⟨b2, o2, hAv2, hbb, hc7⟩ := HTX.out.wn.ls.at_ (k := L'.length) (by have := HLN.out; omega)
              rw [HMX.out _] at hc7
              obtain ⟨d0, d1, d2, d3, d4, d5, d6⟩ := hc7
              subst hAv
              injection hAv2 with hAv2
              injection hAv2 with hb2 ho2 _
              subst hb2 ho2
              go_quiet (fail)
              rename_i nq
              have HTD := Lib.hid (HTX.out.drewN nq)
              have HE := Lib.hid (rs_take (i := i) (W := wz.drewN nq) HTD.out.bu.src HTD.out.bu.rb HTD.out.bu.bel ⟨HTD.out.bu.old.1, HTD.out.bu.old.2.1⟩ HNW.out HPW.out.1 (HL3.out.drewN nq) ((HW4.out nq).more HTD.out.bu.old.2.2) ⟨HHD.out, HLE.out, HGE.out, HIE.out⟩)
              have HLI := Lib.hid (li_ok hk1 hk2 HE.out.ok.1 HE.out.ok.2.1 HE.out.ok.2.2.1 HE.out.bu.here)
              go_wp2_with fail
              refine HLI.out.mono ?_
              rintro e w16 ⟨vl, rfl, _, hl, hb⟩
              obtain ⟨Al, cl, rfl, _, _⟩ := hl.form
              have HE6 := Lib.hid (HE.out.below hb)
              have HL6 := Lib.hid hl
              clear hl hb r0 r1 r2 r3 r4 r5 hpl
              go_wp2_with fail
              refine (rsame_yes _ _ _ _ _ _ _ _ _ _ HL6.out HE6.out.wn.ls).mono ?_
              rintro e w17 ⟨rfl, hb⟩
              have HE7 := Lib.hid ((HE6.out.below hb).now (i' := i + 1) (by omega))
              obtain ⟨r0, r1, r2, r3, r4, r5, hpl⟩ := HE7.out.bu.rb.facts
              clear hb
              go_wp2
              go_roundw
              case rel => exact ⟨i + 1, _, _, _, L', by go_num, by omega, by omega, HE7.out⟩
              case measure => simp [intOf]; omega
            · have hL0 : L = [] := List.length_eq_zero_iff.1 (by omega)
              have HPF := Lib.hid (show Calls Try.prog 23 #[.agg #[.slice A k c, .int .i64 hd, .int .i64 L.length]] w9 (RMP w9 (qbC (fil k hd []) hd 0) 0 0 (qbM (fil k hd []) hd 0) 4) by
                have := qb_no (A := A) (c := c) (hd := hd) (W := w9) hk1 hk2 HOK.out.1 (by rw [← hL0]; exact HT.out.bu.here)
                rw [hL0]
                exact this)
              generalize qbC (fil k hd []) (hd : Int) 0 = ds at *
              generalize qbM (fil k hd []) (hd : Int) 0 = X0 at *
              have hn0 : ¬ ((0 : Int) < (L.length : Int)) := by omega
              have hnN : ¬ (0 < L.length) := by omega
              clear hL0
              go_wp2_with fail
              refine HPF.out.mono ?_
              rintro e w10 ⟨A3, c3, rfl, hnw, hl, hb⟩
              have HT10 := Lib.hid (HT.out.below hb)
              have HTX := Lib.hid (show RtAt w g p wr.heap.size A k c hd L (.slice Av L.length cv) m x q M A3 ds.length c3 0 0 X0 ((((((((((w10.setCell ⟨x, 0, none⟩ (.slice A3 ds.length c3)).setCell ⟨x, 1, none⟩ (.int .i64 0)).setCell ⟨x, 2, none⟩ (.int .i64 0)).setCell ⟨q, 0, none⟩ (.int .i64 X0.id)).setCell ⟨q, 1, none⟩ (.int .i64 X0.rt)).setCell ⟨q, 2, none⟩ (.int .i64 X0.ep)).setCell ⟨q, 3, none⟩ (.int .i64 X0.ct)).setCell ⟨q, 4, none⟩ (.int .i64 X0.gn)).setCell ⟨q, 5, none⟩ (.int .i64 X0.st)).setCell ⟨q, 6, none⟩ (.string X0.bd)) from (HT10.out.setx A3 ds.length c3 0 0).setq X0)
              clear hnw hl hb HT r0 r1 r2 r3 r4 r5 hpl v0 v1 v2 v3 v4 v5 v6 hml
              obtain ⟨x0, x1, x2, x3, x4, x5, hxl⟩ := HT10.out.rx.facts
              obtain ⟨r0, r1, r2, r3, r4, r5, hpl⟩ := HT10.out.bu.rb.facts
              obtain ⟨u0, u1, u2, u3, u4, u5, u6⟩ := HT10.out.mq.facts.1
              obtain ⟨f0, f1, f2, f3, f4, f5, f6⟩ := HT10.out.mq.fr
              have hql := HT10.out.mq.1
              go_wp2
              generalize (((((((((w10.setCell ⟨x, 0, none⟩ (.slice A3 ds.length c3)).setCell ⟨x, 1, none⟩ (.int .i64 0)).setCell ⟨x, 2, none⟩ (.int .i64 0)).setCell ⟨q, 0, none⟩ (.int .i64 X0.id)).setCell ⟨q, 1, none⟩ (.int .i64 X0.rt)).setCell ⟨q, 2, none⟩ (.int .i64 X0.ep)).setCell ⟨q, 3, none⟩ (.int .i64 X0.ct)).setCell ⟨q, 4, none⟩ (.int .i64 X0.gn)).setCell ⟨q, 5, none⟩ (.int .i64 X0.st)).setCell ⟨q, 6, none⟩ (.string X0.bd) = wz at *
              clear x0 x1 x2 x3 x4 x5 hxl r0 r1 r2 r3 r4 r5 hpl u0 u1 u2 u3 u4 u5 u6 f0 f1 f2 f3 f4 f5 f6 hql
              obtain ⟨r0, r1, r2, r3, r4, r5, hpl⟩ := HTX.out.bu.rb.facts
              go_quiet (fail)
              rename_i nq
              have HTD := Lib.hid (HTX.out.drewN nq)
              have HE := Lib.hid (RsAt.mk HTD.out.bu HTD.out.wn HOK.out)
              have HLI := Lib.hid (li_ok hk1 hk2 HE.out.ok.1 HE.out.ok.2.1 HE.out.ok.2.2.1 HE.out.bu.here)
              go_wp2_with fail
              refine HLI.out.mono ?_
              rintro e w16 ⟨vl, rfl, _, hl, hb⟩
              obtain ⟨Al, cl, rfl, _, _⟩ := hl.form
              have HE6 := Lib.hid (HE.out.below hb)
              have HL6 := Lib.hid hl
              clear hl hb r0 r1 r2 r3 r4 r5 hpl
              go_wp2_with fail
              refine (rsame_yes _ _ _ _ _ _ _ _ _ _ HL6.out HE6.out.wn.ls).mono ?_
              rintro e w17 ⟨rfl, hb⟩
              have HE7 := Lib.hid ((HE6.out.below hb).now (i' := i + 1) (by omega))
              obtain ⟨r0, r1, r2, r3, r4, r5, hpl⟩ := HE7.out.bu.rb.facts
              clear hb
              go_wp2
              go_roundw
              case rel => exact ⟨i + 1, _, _, _, L, by go_num, by omega, by omega, HE7.out⟩
              case measure => simp [intOf]; omega
/-! The row's step, as the guide's shell has it. -/
namespace ringScript
open Go.ChangeShapes Go.WideShapes Go.ChangeAt
open Go.ChangeMaps (open_string shut_string)
theorem own : ownKnob Try.prog.godebug = none := by kernel_rfl
theorem laidOut : laidOutB Try.prog = true := by kernel_rfl

set_option maxRecDepth 100000 in
theorem lifted (os : Os) (started : os.Started) (H : Type) (enc : TypeId × Value → H) :
    ReturnsInHanded {} Try.checked os 5 .any (Rows.ringScriptSpec.pre6 enc Try.prog Try.f5 Rows.ringScriptRow.domain false) (Rows.ringScriptSpec.post enc Try.prog Try.f5 false true false false) := by
  refine returnsInHanded_of_change (C := Try.checked) own started (by kernel_rfl) Try.func5
    (ChangeSpec.witness6 (enc := enc) (C := Try.checked) false ⟨#[], #[.slice none 0 0], []⟩ 8 (by kernel_rfl) (by kernel_rfl) (by kernel_rfl) (by kernel_rfl)) ?_
  intro W base args ds gs before hval0 hW hcnd _
  have hval : ∀ (j : Nat) t v, Try.f5.params[j]? = some t → args[j]? = some v → Value.okWide Try.prog W .any base t v := hval0
  have hW' := hW
  obtain ⟨p, q, hA0, hV, rfl, hfz, hnd⟩ := hW
  have hA : DataW.TrodAll enc Try.prog W 0 (fun _ => true) true Try.f5.params.toList args.toList ds p := hA0
  rw [Try.params5] at hA hval
  obtain ⟨v0, vs0, d0, ds0, p0, q0, hargs, rfl, rfl, h0, r0⟩ := trodAll_cons hA
  obtain ⟨rfl, rfl, rfl⟩ := trodAll_nil r0
  obtain rfl : args = #[v0] := by cases args; simp_all
  obtain ⟨rfl, rfl⟩ := trodVars_none hV
  obtain ⟨a0, len0, cap0, rfl⟩ := okWide_slice Try.underlying34 (hval 0 34 v0 rfl rfl)
  have k0 := h0
  have lt0 : ∀ x ∈ p0, x.block < W.heap.size := by obtain ⟨m, hm⟩ := k0; exact DataW.trod_lt m _ _ _ hm
  obtain ⟨z0, w0⟩ : ∃ zs, Ns W W.heap.size (.slice a0 len0 cap0) zs := by
    obtain ⟨fuel, hf⟩ := h0
    rcases open_ints Try.underlying34 Try.underlying3 (by kernel_rfl) hf with ⟨hcs, _⟩ | ⟨x, l, c, zs, hcs, _, hl, hm, hz, _, hcell, hwz⟩
    · simp [Value.cells] at hcs
      obtain ⟨rfl, rfl, rfl⟩ := hcs
      exact ⟨[], Ns.nil⟩
    · simp [Value.cells] at hcs
      obtain ⟨rfl, rfl, rfl⟩ := hcs
      exact Ns.of_cells hl hm (by simpa using hz) hcell hwz
  clear hA0 hval0
  refine (RingScript_walk W a0 len0 cap0 z0 w0).mono fun e W' ⟨he, bel⟩ => ?_
  subst he
  exact ⟨_, rfl, _, _, _, [], _, [], hW', trodAll_mk1 (shut_bool Try.underlying4 _), (trodAll_cons_mk (Below.trod laidOut (by kernel_rfl) (of_decide_eq_true (by kernel_rfl)) k0 bel lt0) trodAll_mk0), rfl, bel.frame _, fun h => by cases h⟩

theorem over : Rows.ringScriptRow.holds Try.pinned (OpenSpec.ofChange Rows.ringScriptSpec) :=
  OpenClaim.holds_of_wide 5 Try.f5 rfl rfl rfl rfl rfl rfl rfl ⟨rfl, rfl, rfl, rfl, rfl⟩ rfl rfl rfl rfl rfl (by kernel_rfl) Try.func5 (by kernel_rfl)
    (of_decide_eq_true (by kernel_rfl)) (by unfold Func.isWrapper; first | (rw [if_pos (by decide +kernel)]; kernel_rfl) | (rw [if_neg (by decide +kernel)]; exact ⟨rfl, rfl⟩))
    (fun os started H enc _ => lifted os started H enc)

/-- The statement. -/
theorem proved : Rows.RingScriptSaid := over
#print axioms proved
end ringScript
end Go.Proofs.Ytiklkagkmcapnaa
