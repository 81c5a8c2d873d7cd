/- What is proved here: a ring and a list of messages among the arguments opened to what lies in memory; all functions of ring agree with the reference for an arbitrary ring, message and list (shardqueuelaw04.agrees); Odd of the statements' base returns some message with a short body. -/
import Derived.Test.YtiklkagkmcapnaaJ24
import Derived.Test.YtiklkagkmcapnaaJ04
import Derived.Test.YtiklkagkmcapnaaJ09
import Derived.Deep.Slices
import Derived.Deep.Fields
import Derived.Test.YtiklkagkmcapnaaJ14
import Derived.Test.YtiklkagkmcapnaaJ23
import Derived.Test.YtiklkagkmcapnaaJ22
import Derived.Test.YtiklkagkmcapnaaJ20
import Derived.Test.YtiklkagkmcapnaaJ18
import Derived.Test.YtiklkagkmcapnaaJ08
namespace Go.Proofs.Ytiklkagkmcapnaa
open Go.Joins Go.ChangeShapes Go.WideShapes Go.RowKit Go.Deep
set_option linter.unusedVariables false

section
variable {H : Type} {enc : TypeId × Value → H} {w : World} {base : Nat} {spare : Nat → Bool} {held : Bool}
theorem cells7 {P : Program} {t : TypeId} {f0 f1 f2 f3 f4 f5 f6 : Field} {fuel : Nat} {cs : List Value} {x : DataW H × List MemPlace} (hs : P.underlying t = some (.struct #[f0, f1, f2, f3, f4, f5, f6])) (hone : oneCellFields P #[f0, f1, f2, f3, f4, f5, f6] = true)
    (hl : cs.length = 7) (h : DataW.trod enc P w base spare held fuel t cs = some x) :
    ∃ (v0 v1 v2 v3 v4 v5 v6 : Value) (y0 y1 y2 y3 y4 y5 y6 : DataW H × List MemPlace) (n : Nat), cs = [v0, v1, v2, v3, v4, v5, v6] ∧
      DataW.trod enc P w base spare held n f0.type [v0] = some y0 ∧ DataW.trod enc P w base spare held n f1.type [v1] = some y1 ∧ DataW.trod enc P w base spare held n f2.type [v2] = some y2 ∧ DataW.trod enc P w base spare held n f3.type [v3] = some y3 ∧ DataW.trod enc P w base spare held n f4.type [v4] = some y4 ∧ DataW.trod enc P w base spare held n f5.type [v5] = some y5 ∧ DataW.trod enc P w base spare held n f6.type [v6] = some y6 := by
  match cs, hl with
  | [c0, c1, c2, c3, c4, c5, c6], _ =>
    obtain ⟨xs, n, _, hx, _, hlen, hg⟩ := DataW.trod_struct hs h
    obtain ⟨o0, k0⟩ := hone_of hone 0 f0 rfl
    obtain ⟨o1, k1⟩ := hone_of hone 1 f1 rfl
    obtain ⟨o2, k2⟩ := hone_of hone 2 f2 rfl
    obtain ⟨o3, k3⟩ := hone_of hone 3 f3 rfl
    obtain ⟨o4, k4⟩ := hone_of hone 4 f4 rfl
    obtain ⟨o5, k5⟩ := hone_of hone 5 f5 rfl
    obtain ⟨o6, k6⟩ := hone_of hone 6 f6 rfl
    match xs, hlen with
    | [y0, y1, y2, y3, y4, y5, y6], _ =>
      exact ⟨c0, c1, c2, c3, c4, c5, c6, y0, y1, y2, y3, y4, y5, y6, n, rfl, by simpa [o0, k0] using hg 0 f0 rfl, by simpa [o1, k1] using hg 1 f1 rfl, by simpa [o2, k2] using hg 2 f2 rfl, by simpa [o3, k3] using hg 3 f3 rfl, by simpa [o4, k4] using hg 4 f4 rfl, by simpa [o5, k5] using hg 5 f5 rfl, by simpa [o6, k6] using hg 6 f6 rfl⟩
theorem msg_one {fuel : Nat} {cs : List Value} {x : DataW H × List MemPlace} (h : DataW.trod enc Try.prog w base spare held fuel 26 cs = some x) (hl : cs.length = 7) :
    ∃ M : Msg, cs = M.l := by
  obtain ⟨c0, c1, c2, c3, c4, c5, c6, y0, y1, y2, y3, y4, y5, y6, n, rfl, g0, g1, g2, g3, g4, g5, g6⟩ := cells7 Try.underlying26 (by kernel_rfl) hl h
  obtain ⟨a0, z0, _, _⟩ := DataW.trod_int Try.underlying3 g0
  obtain ⟨a1, z1, _, _⟩ := DataW.trod_int Try.underlying3 g1
  obtain ⟨a2, z2, _, _⟩ := DataW.trod_int Try.underlying3 g2
  obtain ⟨a3, z3, _, _⟩ := DataW.trod_int Try.underlying3 g3
  obtain ⟨a4, z4, _, _⟩ := DataW.trod_int Try.underlying3 g4
  obtain ⟨a5, z5, _, _⟩ := DataW.trod_int Try.underlying3 g5
  obtain ⟨a6, z6, _, _⟩ := DataW.trod_string Try.underlying9 g6
  simp at z0 z1 z2 z3 z4 z5 z6
  subst z0 z1 z2 z3 z4 z5 z6
  exact ⟨⟨a0, a1, a2, a3, a4, a5, a6⟩, rfl⟩

theorem open_msgs {fuel : Nat} {cs : List Value} {x : DataW H × List MemPlace} (h : DataW.trod enc Try.prog w base spare held fuel 22 cs = some x) :
    ∃ (A : Option Addr) (n c : Nat) (l : List Msg), cs = [.slice A n c] ∧ Ls w w.heap.size (.slice A n c) l := by
  rcases open_slice Try.underlying22 h with ⟨rfl, _⟩ | ⟨a, len, cap, m, n, D, Pl, rfl, _, hl, hm, hmm, _, hi⟩
  · exact ⟨none, 0, 0, [], rfl, Ls.nil⟩
  · have hlm : len ≤ m := by rw [hmm]; split <;> omega
    rw [msg_cells] at hi
    have hM : ∀ i, i < len → ∃ M : Msg, ∀ j, j < 7 → w.cell? (a.add (i * 7 + j)) = M.l[j]? := fun i hil => by
      obtain ⟨cs', hc, ht⟩ := hi i (by omega)
      obtain ⟨_, hcl, hat⟩ := World.cells?_some hc
      obtain ⟨M, rfl⟩ := msg_one ht hcl
      refine ⟨M, fun j hj => ?_⟩
      have g := hat j hj
      rw [← Go.Deep.add_add]
      exact g
    by_cases h0 : len = 0
    · subst h0
      exact ⟨some a, 0, cap, [], rfl, some a, cap, rfl, hl, hm, Rd.nil _⟩
    · let f : Nat → Msg := fun i => if h : i < len then (hM i h).choose else zM
      have hfs : ∀ i, i < len → ∀ j, j < 7 → w.cell? (a.add (i * 7 + j)) = (f i).l[j]? := fun i hil j hj => by
        show _ = (if h : i < len then (hM i h).choose else zM).l[j]?
        rw [dif_pos hil]
        exact (hM i hil).choose_spec j hj
      obtain ⟨b, o, spot⟩ := a
      have c0 := hfs 0 (by omega) 0 (by omega)
      have c0' : w.cell? (Addr.add ⟨b, o, spot⟩ (0 * 7 + 0)) = some (.int .i64 (f 0).id) := c0
      have hspot : spot = none := by simpa [Addr.add] using World.cell?_spot c0'
      subst hspot
      have hb : b < w.heap.size := World.block_lt_of_cell? w ⟨b, o, none⟩ (by simpa [Addr.add] using c0')
      have hll : ((List.range len).map f).length = len := by simp
      refine ⟨some ⟨b, o, none⟩, len, cap, (List.range len).map f, rfl, some ⟨b, o, none⟩, cap, by rw [hll], by rw [hll]; exact hl, hm, by rw [lcs_len, hll], fun _ => ⟨b, o, rfl, hb, fun i u hu => ?_⟩⟩
      have hi7 : i < len * 7 := by have := (List.getElem?_eq_some_iff.1 hu).1; rw [lcs_len, hll] at this; exact this
      have e : i = i / 7 * 7 + i % 7 := by omega
      have hlt : i / 7 < len := by omega
      rw [e] at hu ⊢
      rw [lcs_at _ _ _ (by rw [hll]; exact hlt) (by omega)] at hu
      have g := hfs (i / 7) hlt (i % 7) (by omega)
      rw [add_mk] at g
      rw [g, ← hu]
      simp

theorem open_ring {r : Reach} {b0 : Nat} {v : Value} {d : DataW H} {p : List MemPlace} (hv : Value.okWide Try.prog w r b0 24 v) (h : DataW.Trod enc Try.prog w base spare held 24 v d p) :
    ∃ (A : Option Addr) (n c : Nat) (hd sz : Int) (l : List Msg), v = .agg #[.slice A n c, .int .i64 hd, .int .i64 sz] ∧ Ls w w.heap.size (.slice A n c) l := by
  obtain ⟨c0, c1, c2, y0, y1, y2, n, rfl, _, _, hy0, hy1, hy2⟩ := open_agg3 Try.underlying24 (by kernel_rfl) (by kernel_rfl) hv h
  obtain ⟨A, n', c', l, e0, hl⟩ := open_msgs hy0
  obtain ⟨a1, e1, _, _⟩ := DataW.trod_int Try.underlying3 hy1
  obtain ⟨a2, e2, _, _⟩ := DataW.trod_int Try.underlying3 hy2
  simp at e0 e1 e2
  subst e0 e1 e2
  exact ⟨A, n', c', a1, a2, l, rfl, hl⟩
end
end Go.Proofs.Ytiklkagkmcapnaa
namespace Go.Proofs.Ytiklkagkmcapnaa
open Go.RowKit
set_option linter.unusedVariables false

theorem RmAt.set3 {w W : World} {p q n c : Nat} {A : Option Addr} {hd sz : Int} {M : Msg} (h : RmAt w p q A n c hd sz M W) {a : Nat} (ha : q < a) (x y z : Value) : RmAt w p q A n c hd sz M (((W.setCell ⟨a, 0, none⟩ x).setCell ⟨a, 1, none⟩ y).setCell ⟨a, 2, none⟩ z) := by
  have hp := h.ne
  have e : ∀ j o v W', (World.setCell W' ⟨a, j, none⟩ v).cell? ⟨p, o, none⟩ = W'.cell? ⟨p, o, none⟩ := fun j o v W' => World.cell?_setCell_other W' ⟨a, j, none⟩ ⟨p, o, none⟩ v (fun e => by injection e; omega)
  have hw : w.heap.size ≤ a := by have := h.rg.old; omega
  exact ⟨⟨by rw [e, e, e]; exact h.rg.c0, by rw [e, e, e]; exact h.rg.c1, by rw [e, e, e]; exact h.rg.c2, ((h.rg.bel.setCell (p := ⟨a, 0, none⟩) hw _).setCell (p := ⟨a, 1, none⟩) hw _).setCell (p := ⟨a, 2, none⟩) hw _, by simpa using h.rg.old⟩, h.ms.set3 (show a ≠ q by omega) _ _ _, h.ne⟩
theorem RmAt.lit7 {w W : World} {p q n c : Nat} {A : Option Addr} {hd sz : Int} {M : Msg} (h : RmAt w p q A n c hd sz M W) {b : Nat} (hb : q < b) (X : Msg) : RmAt w p q A n c hd sz M (set7 W b 0 X) := by
  have hp := h.ne
  have e : ∀ o, (set7 W b 0 X).cell? ⟨p, o, none⟩ = W.cell? ⟨p, o, none⟩ := fun o => sets_far (W := W) (q := b) (p := ⟨p, o, none⟩) (show p ≠ b by omega) 0 X.l
  have hw : w.heap.size ≤ b := by have := h.rg.old; omega
  exact ⟨⟨(e 0).trans h.rg.c0, (e 1).trans h.rg.c1, (e 2).trans h.rg.c2, below7 h.rg.bel hw _ _ _ _ _ _ _, by simpa using h.rg.old⟩, h.ms.lit7 (show b ≠ q by omega) X, h.ne⟩

/-- The work of agrees: the ring, the message, two results. -/
structure AgS (w : World) (p q a b : Nat) (A : Option Addr) (n c : Nat) (hd sz : Int) (M : Msg) (A1 : Option Addr) (n1 c1 : Nat) (h1 z1 : Int) (A2 : Option Addr) (n2 c2 : Nat) (h2 z2 : Int) (W : World) : Prop where
  rm : RmAt w p q A n c hd sz M W
  ra : RB W a A1 n1 c1 h1 z1
  rb : RB W b A2 n2 c2 h2 z2
  old : w.heap.size ≤ p ∧ p < q ∧ q < a ∧ a < b
section
variable {w W W' : World} {p q a b n c n1 c1 n2 c2 : Nat} {A A1 A2 : Option Addr} {hd sz h1 z1 h2 z2 : Int} {M : Msg}
theorem AgS.below (h : AgS w p q a b A n c hd sz M A1 n1 c1 h1 z1 A2 n2 c2 h2 z2 W) (hb : Below W.heap.size W W') : AgS w p q a b A n c hd sz M A1 n1 c1 h1 z1 A2 n2 c2 h2 z2 W' := ⟨h.rm.below hb, h.ra.below hb h.ra.lt, h.rb.below hb h.rb.lt, h.old⟩
theorem AgS.seta (h : AgS w p q a b A n c hd sz M A1 n1 c1 h1 z1 A2 n2 c2 h2 z2 W) (B : Option Addr) (m d : Nat) (x z : Int) : AgS w p q a b A n c hd sz M B m d x z A2 n2 c2 h2 z2 (((W.setCell ⟨a, 0, none⟩ (.slice B m d)).setCell ⟨a, 1, none⟩ (.int .i64 x)).setCell ⟨a, 2, none⟩ (.int .i64 z)) :=
  ⟨h.rm.set3 h.old.2.2.1 _ _ _, h.ra.all B m d x z, h.rb.set3 (show a ≠ b by have := h.old; omega) _ _ _, h.old⟩
theorem AgS.setb (h : AgS w p q a b A n c hd sz M A1 n1 c1 h1 z1 A2 n2 c2 h2 z2 W) (B : Option Addr) (m d : Nat) (x z : Int) : AgS w p q a b A n c hd sz M A1 n1 c1 h1 z1 B m d x z (((W.setCell ⟨b, 0, none⟩ (.slice B m d)).setCell ⟨b, 1, none⟩ (.int .i64 x)).setCell ⟨b, 2, none⟩ (.int .i64 z)) :=
  ⟨h.rm.set3 (show q < b by have := h.old; omega) _ _ _, h.ra.set3 (show b ≠ a by have := h.old; omega) _ _ _, h.rb.all B m d x z, h.old⟩
theorem AgS.lit7 (h : AgS w p q a b A n c hd sz M A1 n1 c1 h1 z1 A2 n2 c2 h2 z2 W) {y : Nat} (hy : b < y) (X : Msg) : AgS w p q a b A n c hd sz M A1 n1 c1 h1 z1 A2 n2 c2 h2 z2 (set7 W y 0 X) :=
  ⟨h.rm.lit7 (show q < y by have := h.old; omega) X, h.ra.lit7 (show y ≠ a by have := h.old; omega) X, h.rb.lit7 (show y ≠ b by omega) X, h.old⟩
theorem AgS.alloc (h : AgS w p q a b A n c hd sz M A1 n1 c1 h1 z1 A2 n2 c2 h2 z2 W) (o : Obj) : AgS w p q a b A n c hd sz M A1 n1 c1 h1 z1 A2 n2 c2 h2 z2 (W.alloc o) := h.below ((Below.refl _ _).alloc (Nat.le_refl _) o)
/-- What is at hand of the ring, the message and the two results. -/
theorem AgS.ne (h : AgS w p q a b A n c hd sz M A1 n1 c1 h1 z1 A2 n2 c2 h2 z2 W) : a ≠ p ∧ p ≠ a ∧ a ≠ q ∧ q ≠ a ∧ b ≠ p ∧ p ≠ b ∧ b ≠ q ∧ q ≠ b ∧ a ≠ b ∧ b ≠ a := by have := h.old; omega
end
/-- With two messages. -/
structure AgM (w : World) (p q a b x y : Nat) (A : Option Addr) (n c : Nat) (hd sz : Int) (M : Msg) (A1 : Option Addr) (n1 c1 : Nat) (h1 z1 : Int) (A2 : Option Addr) (n2 c2 : Nat) (h2 z2 : Int) (X Y : Msg) (W : World) : Prop where
  s : AgS w p q a b A n c hd sz M A1 n1 c1 h1 z1 A2 n2 c2 h2 z2 W
  mx : MAt W x X.nth X.bd
  my : MAt W y Y.nth Y.bd
  lt : b < x ∧ x < y
section
variable {w W W' : World} {p q a b x y n c n1 c1 n2 c2 : Nat} {A A1 A2 : Option Addr} {hd sz h1 z1 h2 z2 : Int} {M X Y : Msg}
theorem AgM.below (h : AgM w p q a b x y A n c hd sz M A1 n1 c1 h1 z1 A2 n2 c2 h2 z2 X Y W) (hb : Below W.heap.size W W') : AgM w p q a b x y A n c hd sz M A1 n1 c1 h1 z1 A2 n2 c2 h2 z2 X Y W' := ⟨h.s.below hb, h.mx.below hb h.mx.1, h.my.below hb h.my.1, h.lt⟩
theorem AgM.seta (h : AgM w p q a b x y A n c hd sz M A1 n1 c1 h1 z1 A2 n2 c2 h2 z2 X Y W) (B : Option Addr) (m d : Nat) (u v : Int) : AgM w p q a b x y A n c hd sz M B m d u v A2 n2 c2 h2 z2 X Y (((W.setCell ⟨a, 0, none⟩ (.slice B m d)).setCell ⟨a, 1, none⟩ (.int .i64 u)).setCell ⟨a, 2, none⟩ (.int .i64 v)) :=
  ⟨h.s.seta B m d u v, h.mx.set3 (show a ≠ x by have := h.lt; have := h.s.old; omega) _ _ _, h.my.set3 (show a ≠ y by have := h.lt; have := h.s.old; omega) _ _ _, h.lt⟩
theorem AgM.setb (h : AgM w p q a b x y A n c hd sz M A1 n1 c1 h1 z1 A2 n2 c2 h2 z2 X Y W) (B : Option Addr) (m d : Nat) (u v : Int) : AgM w p q a b x y A n c hd sz M A1 n1 c1 h1 z1 B m d u v X Y (((W.setCell ⟨b, 0, none⟩ (.slice B m d)).setCell ⟨b, 1, none⟩ (.int .i64 u)).setCell ⟨b, 2, none⟩ (.int .i64 v)) :=
  ⟨h.s.setb B m d u v, h.mx.set3 (show b ≠ x by have := h.lt; omega) _ _ _, h.my.set3 (show b ≠ y by have := h.lt; omega) _ _ _, h.lt⟩
theorem AgM.setx (h : AgM w p q a b x y A n c hd sz M A1 n1 c1 h1 z1 A2 n2 c2 h2 z2 X Y W) (Z : Msg) : AgM w p q a b x y A n c hd sz M A1 n1 c1 h1 z1 A2 n2 c2 h2 z2 Z Y (set7 W x 0 Z) :=
  ⟨h.s.lit7 h.lt.1 Z, h.mx.own7 Z, h.my.lit7 (show x ≠ y by have := h.lt; omega) Z, h.lt⟩
theorem AgM.sety (h : AgM w p q a b x y A n c hd sz M A1 n1 c1 h1 z1 A2 n2 c2 h2 z2 X Y W) (Z : Msg) : AgM w p q a b x y A n c hd sz M A1 n1 c1 h1 z1 A2 n2 c2 h2 z2 X Z (set7 W y 0 Z) :=
  ⟨h.s.lit7 (show b < y by have := h.lt; omega) Z, h.mx.lit7 (show y ≠ x by have := h.lt; omega) Z, h.my.own7 Z, h.lt⟩
theorem AgM.ne (h : AgM w p q a b x y A n c hd sz M A1 n1 c1 h1 z1 A2 n2 c2 h2 z2 X Y W) : (a ≠ x ∧ x ≠ a ∧ a ≠ y ∧ y ≠ a ∧ b ≠ x ∧ x ≠ b ∧ b ≠ y ∧ y ≠ b ∧ x ≠ y ∧ y ≠ x) ∧ (p ≠ x ∧ x ≠ p ∧ q ≠ x ∧ x ≠ q ∧ p ≠ y ∧ y ≠ p ∧ q ≠ y ∧ y ≠ q) := by have := h.lt; have := h.s.old; omega
end

set_option maxHeartbeats 32000000 in
set_option maxRecDepth 100000 in
theorem agrees_any (A : Option Addr) (n c : Nat) (cs : List Msg) (hd sz : Int) (M : Msg) (id k : Int) (A0 : Option Addr) (n0 c0 : Nat) (l : List Msg) (w : World) (hv : Ls w w.heap.size (.slice A n c) cs) (hv0 : Ls w w.heap.size (.slice A0 n0 c0) l) :
    Calls Try.prog 11 #[.agg #[.slice A n c, .int .i64 hd, .int .i64 sz], M.v, .int .i64 id, .int .i64 k, .slice A0 n0 c0] w fun e w' => e = .returned (.bool true) ∧ Below w.heap.size w w' := by
  have HV := Lib.hid hv
  have HV0 := Lib.hid hv0
  have HP0 := Lib.hid (fun W (h : Ls W W.heap.size (.slice A n c) cs) => (show Calls Try.prog 31 #[.agg #[.slice A n c, .int .i64 hd, .int .i64 sz]] W (VlT W (rgV cs hd sz)) from gvalid_any A n c cs hd sz W h))
  have HR0 := Lib.hid (fun W (h : Ls W W.heap.size (.slice A n c) cs) => (show Calls Try.prog 32 #[.agg #[.slice A n c, .int .i64 hd, .int .i64 sz]] W (VlT W (rgV cs hd sz)) from rvalid_any A n c cs hd sz W h))
  have HPL := Lib.hid (fun W (h : Ls W W.heap.size (.slice A n c) cs) => (show Calls Try.prog 25 #[.agg #[.slice A n c, .int .i64 hd, .int .i64 sz]] W (LsP (lsF cs hd sz) W) from glist_any A n c cs hd sz W h))
  have HRL := Lib.hid (fun W (h : Ls W W.heap.size (.slice A n c) cs) => (show Calls Try.prog 33 #[.agg #[.slice A n c, .int .i64 hd, .int .i64 sz]] W (LsP (lsF cs hd sz) W) from rlist_any A n c cs hd sz W h))
  have HP1 := Lib.hid (fun W (h : Ls W W.heap.size (.slice A n c) cs) => (show Calls Try.prog 20 #[.agg #[.slice A n c, .int .i64 hd, .int .i64 sz], M.v] W (RP W (pbC cs hd sz M) (ifE (puE cs hd sz M) hd) (ifE (puE cs hd sz M) (sz + 1)) (puE cs hd sz M)) from pback_any A n c cs hd sz M W h))
  have HR1 := Lib.hid (fun W (h : Ls W W.heap.size (.slice A n c) cs) => (show Calls Try.prog 34 #[.agg #[.slice A n c, .int .i64 hd, .int .i64 sz], M.v] W (RP W (pbC cs hd sz M) (ifE (puE cs hd sz M) hd) (ifE (puE cs hd sz M) (sz + 1)) (puE cs hd sz M)) from rpback_any A n c cs hd sz M W h))
  have HP2 := Lib.hid (fun W (h : Ls W W.heap.size (.slice A n c) cs) => (show Calls Try.prog 21 #[.agg #[.slice A n c, .int .i64 hd, .int .i64 sz], M.v] W (RP W (pfC cs hd sz M) (pfH cs hd sz M) (ifE (puE cs hd sz M) (sz + 1)) (puE cs hd sz M)) from pfront_any A n c cs hd sz M W h))
  have HR2 := Lib.hid (fun W (h : Ls W W.heap.size (.slice A n c) cs) => (show Calls Try.prog 35 #[.agg #[.slice A n c, .int .i64 hd, .int .i64 sz], M.v] W (RP W (pfC cs hd sz M) (pfH cs hd sz M) (ifE (puE cs hd sz M) (sz + 1)) (puE cs hd sz M)) from rpfront_any A n c cs hd sz M W h))
  have HP3 := Lib.hid (fun W (h : Ls W W.heap.size (.slice A n c) cs) => (show Calls Try.prog 22 #[.agg #[.slice A n c, .int .i64 hd, .int .i64 sz]] W (RMP W (qfC cs hd sz) (qfH cs hd sz) (ifE (poE cs hd sz) (sz - 1)) (qfM cs hd sz) (poE cs hd sz)) from pfpop_any A n c cs hd sz W h))
  have HR3 := Lib.hid (fun W (h : Ls W W.heap.size (.slice A n c) cs) => (show Calls Try.prog 36 #[.agg #[.slice A n c, .int .i64 hd, .int .i64 sz]] W (RMP W (qfC cs hd sz) (qfH cs hd sz) (ifE (poE cs hd sz) (sz - 1)) (qfM cs hd sz) (poE cs hd sz)) from rpfpop_any A n c cs hd sz W h))
  have HP4 := Lib.hid (fun W (h : Ls W W.heap.size (.slice A n c) cs) => (show Calls Try.prog 23 #[.agg #[.slice A n c, .int .i64 hd, .int .i64 sz]] W (RMP W (qbC cs hd sz) (ifE (poE cs hd sz) hd) (ifE (poE cs hd sz) (sz - 1)) (qbM cs hd sz) (poE cs hd sz)) from pbpop_any A n c cs hd sz W h))
  have HR4 := Lib.hid (fun W (h : Ls W W.heap.size (.slice A n c) cs) => (show Calls Try.prog 37 #[.agg #[.slice A n c, .int .i64 hd, .int .i64 sz]] W (RMP W (qbC cs hd sz) (ifE (poE cs hd sz) hd) (ifE (poE cs hd sz) (sz - 1)) (qbM cs hd sz) (poE cs hd sz)) from rpbpop_any A n c cs hd sz W h))
  have HP5 := Lib.hid (fun W (h : Ls W W.heap.size (.slice A n c) cs) => (show Calls Try.prog 28 #[.agg #[.slice A n c, .int .i64 hd, .int .i64 sz], .int .i64 id] W (RMP W (rmC cs hd sz id) (ifE (rmE cs hd sz id) hd) (ifE (rmE cs hd sz id) (sz - 1)) (rmM cs hd sz id) (rmE cs hd sz id)) from remove_any A n c cs hd sz id W h))
  have HR5 := Lib.hid (fun W (h : Ls W W.heap.size (.slice A n c) cs) => (show Calls Try.prog 38 #[.agg #[.slice A n c, .int .i64 hd, .int .i64 sz], .int .i64 id] W (RMP W (rmC cs hd sz id) (ifE (rmE cs hd sz id) hd) (ifE (rmE cs hd sz id) (sz - 1)) (rmM cs hd sz id) (rmE cs hd sz id)) from rremove_any A n c cs hd sz id W h))
  have HP6 := Lib.hid (fun W (h : Ls W W.heap.size (.slice A n c) cs) => (show Calls Try.prog 26 #[.agg #[.slice A n c, .int .i64 hd, .int .i64 sz], .int .i64 k] W (RLP W (dtC cs hd sz k) (ifE (dtE cs hd sz k) hd) (ifE (dtE cs hd sz k) (sz - k)) (dtL cs hd sz k) (dtE cs hd sz k)) from detach_any A n c cs hd sz k W h))
  have HR6 := Lib.hid (fun W (h : Ls W W.heap.size (.slice A n c) cs) => (show Calls Try.prog 39 #[.agg #[.slice A n c, .int .i64 hd, .int .i64 sz], .int .i64 k] W (RLP W (dtC cs hd sz k) (ifE (dtE cs hd sz k) hd) (ifE (dtE cs hd sz k) (sz - k)) (dtL cs hd sz k) (dtE cs hd sz k)) from rdetach_any A n c cs hd sz k W h))
  have HP7 := Lib.hid (fun W (h : Ls W W.heap.size (.slice A n c) cs) (h0 : Ls W W.heap.size (.slice A0 n0 c0) l) => (show Calls Try.prog 27 #[.agg #[.slice A n c, .int .i64 hd, .int .i64 sz], .slice A0 n0 c0] W (RP W (aoC cs hd sz l) (ifE (aoE cs hd sz l) hd) (ifE (aoE cs hd sz l) (sz + l.length)) (aoE cs hd sz l)) from absorb_any A n c cs hd sz A0 n0 c0 l W h h0))
  have HR7 := Lib.hid (fun W (hB : w.heap.size ≤ W.heap.size) (h : Ls W w.heap.size (.slice A n c) cs) (h0 : Ls W W.heap.size (.slice A0 n0 c0) l) => (show Calls Try.prog 40 #[.agg #[.slice A n c, .int .i64 hd, .int .i64 sz], .slice A0 n0 c0] W (RQX w.heap.size W A (aoC cs hd sz l) (ifE (aoE cs hd sz l) hd) (ifE (aoE cs hd sz l) (sz + l.length)) (aoE cs hd sz l)) from rabsorb_any A n c cs hd sz A0 n0 c0 l W w.heap.size hB h h0))
  clear hv hv0
  have HK0 := Lib.hid (And.intro (rfl : cs = cs) (rfl : l = l))
  generalize ifE (puE cs hd sz M) hd = h1 at *
  generalize ifE (puE cs hd sz M) (sz + 1) = z1 at *
  generalize pfH cs hd sz M = h2 at *
  generalize pbC cs hd sz M = d1 at *
  generalize pfC cs hd sz M = d2 at *
  generalize puE cs hd sz M = e1 at *
  generalize qfC cs hd sz = d3 at *
  generalize qfH cs hd sz = h3 at *
  generalize ifE (poE cs hd sz) (sz - 1) = z3 at *
  generalize qfM cs hd sz = X3 at *
  generalize qbC cs hd sz = d4 at *
  generalize ifE (poE cs hd sz) hd = h4 at *
  generalize qbM cs hd sz = X4 at *
  generalize poE cs hd sz = e3 at *
  generalize rmC cs hd sz id = d5 at *
  generalize ifE (rmE cs hd sz id) hd = h5 at *
  generalize ifE (rmE cs hd sz id) (sz - 1) = z5 at *
  generalize rmM cs hd sz id = X5 at *
  generalize rmE cs hd sz id = e5 at *
  generalize dtC cs hd sz k = d6 at *
  generalize ifE (dtE cs hd sz k) hd = h6 at *
  generalize ifE (dtE cs hd sz k) (sz - k) = z6 at *
  generalize dtL cs hd sz k = l6 at *
  generalize dtE cs hd sz k = e6 at *
  generalize aoC cs hd sz l = d7 at *
  generalize ifE (aoE cs hd sz l) hd = h7 at *
  generalize ifE (aoE cs hd sz l) (sz + l.length) = z7 at *
  generalize aoE cs hd sz l = e7 at *
  generalize rgV cs hd sz = g0 at *
  generalize lsF cs hd sz = ll at *
  go_enter Try.func11, Try.ntmps11
  go_wp2_with fail
  have HS := Lib.hid (RmAt.start w A n c hd sz M 24 26)
  obtain ⟨p, hp⟩ : ∃ p, p = w.heap.size := ⟨_, rfl⟩
  obtain ⟨q, hq⟩ : ∃ q, q = w.heap.size + 1 := ⟨_, rfl⟩
  rw [← hq, ← hp] at HS ⊢
  have HPQ := Lib.hid (show w.heap.size ≤ p ∧ p < q by omega)
  clear hp hq
  generalize (w.alloc (.cells #[.slice A n c, .int .i64 hd, .int .i64 sz] 24)).alloc (.cells #[.int .i64 M.id, .int .i64 M.rt, .int .i64 M.ep, .int .i64 M.ct, .int .i64 M.gn, .int .i64 M.st, .string M.bd] 26) = w0 at *
  go_cut [31] (fun s31 wx => s31 = .bool false ∧ RmAt w p q A n c hd sz M wx)
  case first =>
    have HB0 := Lib.hid (Below.refl w0.heap.size w0)
    have HSK := Lib.hid (show ∀ W, Below w0.heap.size w0 W → W.cell? ⟨p, 0, none⟩ = some (.slice A n c) ∧ W.cell? ⟨p, 1, none⟩ = some (.int .i64 hd) ∧ W.cell? ⟨p, 2, none⟩ = some (.int .i64 sz) from fun W h => by
      have hr := (HS.out.below h).rg
      exact ⟨hr.c0, hr.c1, hr.c2⟩)
    have HQ0 := Lib.hid (fun W (h : Below w0.heap.size w0 W) => (HP0.out W (HV.out.up (HS.out.below h).rg.bel)).mono fun e w' (g : VlT W g0 e w') => (show e = .returned (.int .i64 g0) ∧ Below w0.heap.size w0 w' from ⟨g.1, btr h g.2⟩))
    have HQ1 := Lib.hid (fun W (h : Below w0.heap.size w0 W) => (HR0.out W (HV.out.up (HS.out.below h).rg.bel)).mono fun e w' (g : VlT W g0 e w') => (show e = .returned (.int .i64 g0) ∧ Below w0.heap.size w0 w' from ⟨g.1, btr h g.2⟩))
    have HQ2 := Lib.hid (fun W (h : Below w0.heap.size w0 W) => (HPL.out W (HV.out.up (HS.out.below h).rg.bel)).mono fun e w' g => LsQ.of h g)
    have HQ3 := Lib.hid (fun W (h : Below w0.heap.size w0 W) => (HRL.out W (HV.out.up (HS.out.below h).rg.bel)).mono fun e w' g => LsQ.of h g)
    go_region_held3 (fun W => W.cell? ⟨p, 0, none⟩ = some (.slice A n c) ∧ W.cell? ⟨p, 1, none⟩ = some (.int .i64 hd) ∧ W.cell? ⟨p, 2, none⟩ = some (.int .i64 sz))
      ((refine HSK.out _ ?_; (repeat' (first | with_reducible exact HB0.out | with_reducible exact HBA.out | with_reducible exact HBB.out | with_reducible exact HBC.out | with_reducible exact HBD.out | with_reducible exact HBE.out | with_reducible refine bdr ?_))))
      (first
      | (go_at_call 31; (with_reducible refine (HQ0.out _ ?hbel).mono ?_); (case hbel => (repeat' (first | with_reducible exact HB0.out | with_reducible exact HBA.out | with_reducible exact HBB.out | with_reducible exact HBC.out | with_reducible exact HBD.out | with_reducible exact HBE.out | with_reducible refine bdr ?_))); rintro e wa ⟨rfl, hb0⟩; have HBA := Lib.hid hb0; clear hb0)
      | (go_at_call 32; (with_reducible refine (HQ1.out _ ?hbel).mono ?_); (case hbel => (repeat' (first | with_reducible exact HB0.out | with_reducible exact HBA.out | with_reducible exact HBB.out | with_reducible exact HBC.out | with_reducible exact HBD.out | with_reducible exact HBE.out | with_reducible refine bdr ?_))); rintro e wb ⟨rfl, hb0⟩; have HBB := Lib.hid hb0; clear hb0)
      | (go_at_call 25; (with_reducible refine (HQ2.out _ ?hbel).mono ?_); (case hbel => (repeat' (first | with_reducible exact HB0.out | with_reducible exact HBA.out | with_reducible exact HBB.out | with_reducible exact HBC.out | with_reducible exact HBD.out | with_reducible exact HBE.out | with_reducible refine bdr ?_))); rintro e wl ⟨Al, cl, rfl, _, hl, hb, hb0⟩; have HBC := Lib.hid hb0; have HLC := Lib.hid hl; (try have HLD2 := Lib.hid (HLD.out.up hb)); clear hl hb hb0)
      | (go_at_call 33; (with_reducible refine (HQ3.out _ ?hbel).mono ?_); (case hbel => (repeat' (first | with_reducible exact HB0.out | with_reducible exact HBA.out | with_reducible exact HBB.out | with_reducible exact HBC.out | with_reducible exact HBD.out | with_reducible exact HBE.out | with_reducible refine bdr ?_))); rintro e ww ⟨Aw, cw, rfl, _, hl, hb, hb0⟩; have HBD := Lib.hid hb0; have HLD := Lib.hid hl; (try have HLC2 := Lib.hid (HLC.out.up hb)); clear hl hb hb0)
      | (go_at_call 24; (first | (with_reducible refine (rsame_yes _ _ _ _ _ _ _ _ _ _ HLC2.out HLD.out).mono ?_) | (with_reducible refine (rsame_yes _ _ _ _ _ _ _ _ _ _ HLC.out HLD2.out).mono ?_)); rintro e ws ⟨rfl, hb⟩; (first | (have HBE := Lib.hid (btr HBC.out hb)) | (have HBE := Lib.hid (btr HBD.out hb))); clear hb))
    all_goals
      have HSE := Lib.hid (HS.out.below HBE.out)
      go_wp2_with fail
      go_meet
      exact ⟨rfl, HSE.out⟩
  case rest =>
    obtain ⟨rfl, hs⟩ := hcut
    have HS0 := Lib.hid hs
    clear hs HS
    generalize wc = w0 at *
    obtain ⟨⟨r0, r1, r2, hpl⟩, ⟨m0, m1, m2, m3, m4, m5, m6⟩, hql⟩ := HS0.out.facts
    go_wp2_with fail
    refine (HP1.out _ (HV.out.up HS0.out.rg.bel)).mono ?_
    rintro e w1 ⟨A1, c1, rfl, hnw1, hl1, hb1⟩
    have HS1 := Lib.hid ((HS0.out.below hb1).alloc (.cells #[.slice A1 d1.length c1, .int .i64 h1, .int .i64 z1] 24))
    have HA1 := Lib.hid (RB.fresh w1 A1 d1.length c1 h1 z1 24)
    have HL1 := Lib.hid ((hl1.alloc (Nat.le_refl _) (.cells #[.slice A1 d1.length c1, .int .i64 h1, .int .i64 z1] 24)).more (show w1.heap.size ≤ (w1.alloc (.cells #[.slice A1 d1.length c1, .int .i64 h1, .int .i64 z1] 24)).heap.size by simp))
    have HQA := Lib.hid (show q < w1.heap.size from (HS0.out.below hb1).ms.1)
    have HS1c := HS1
    clear r0 r1 r2 hpl m0 m1 m2 m3 m4 m5 m6 hql
    obtain ⟨⟨r0, r1, r2, hpl⟩, ⟨m0, m1, m2, m3, m4, m5, m6⟩, hql⟩ := (HS0.out.below hb1).facts
    go_wp2_with fail
    refine (HR1.out _ (HV.out.up HS1.out.rg.bel)).mono ?_
    rintro e w2 ⟨A2, c2, rfl, hnw2, hl2, hb2⟩
    have HAB := Lib.hid (show w1.heap.size < w2.heap.size from (HA1.out.below hb2 HA1.out.lt).lt)
    have HS2 := Lib.hid (AgS.mk ((HS1.out.below hb2).alloc (.cells #[.slice A2 d1.length c2, .int .i64 h1, .int .i64 z1] 24)) ((HA1.out.below hb2 HA1.out.lt).alloc (.cells #[.slice A2 d1.length c2, .int .i64 h1, .int .i64 z1] 24)) (RB.fresh w2 A2 d1.length c2 h1 z1 24) ⟨HPQ.out.1, HPQ.out.2, HQA.out, HAB.out⟩)
    have HL1' := Lib.hid ((HL1.out.up hb2).alloc (Nat.le_refl _) (.cells #[.slice A2 d1.length c2, .int .i64 h1, .int .i64 z1] 24))
    have HL2 := Lib.hid (hl2.alloc (Nat.le_refl _) (.cells #[.slice A2 d1.length c2, .int .i64 h1, .int .i64 z1] 24))
    have ha2 := (HA1.out.below hb2 HA1.out.lt).facts
    obtain ⟨s0, s1, s2, s3, s4, s5, sl⟩ := ha2
    clear hnw1 hnw2 hl1 hl2 hb1 hb2 HS1 HL1 HA1
    go_wp2_with fail
    refine (gsame_yes _ _ _ _ _ _ _ _ _ _ _ _ (by simp) (by simp) HL1'.out HL2.out).mono ?_
    rintro e w3 ⟨rfl, hb3⟩
    obtain ⟨a, ha⟩ : ∃ a, a = w1.heap.size := ⟨_, rfl⟩
    obtain ⟨b, hb⟩ : ∃ b, b = w2.heap.size := ⟨_, rfl⟩
    rw [← ha, ← hb] at HS2
    rw [← ha, ← hb]
    have HS3 := Lib.hid (HS2.out.below hb3)
    have HNE := Lib.hid HS2.out.ne
    clear hb3 HS2 HL1' HL2 HQA HAB ha hb s0 s1 s2 s3 s4 s5 sl
    obtain ⟨n1, n2, n3, n4, n5, n6, n7, n8, n9, n10⟩ := HNE.out
    obtain ⟨⟨r0, r1, r2, hpl⟩, ⟨m0, m1, m2, m3, m4, m5, m6⟩, hql⟩ := HS3.out.rm.facts
    go_wp2_with fail
    refine (HP2.out _ (HV.out.up HS3.out.rm.rg.bel)).mono ?_
    rintro e w4 ⟨A4, c4, rfl, hnw, hl, hb⟩
    have HC4 := Lib.hid (HS3.out.below hb)
    have HS4 := Lib.hid (HC4.out.seta A4 d2.length c4 h2 z1)
    have HNA := Lib.hid hnw
    have HLA := Lib.hid ((hl.off3 hnw HS3.out.ra.lt (.slice A4 d2.length c4) (.int .i64 h2) (.int .i64 z1)).more (show w4.heap.size ≤ (((w4.setCell ⟨a, 0, none⟩ (.slice A4 d2.length c4)).setCell ⟨a, 1, none⟩ (.int .i64 h2)).setCell ⟨a, 2, none⟩ (.int .i64 z1)).heap.size by simp))
    have HBL := Lib.hid (show b < w3.heap.size from HS3.out.rb.lt)
    clear hnw hl hb r0 r1 r2 hpl m0 m1 m2 m3 m4 m5 m6 hql
    obtain ⟨⟨r0, r1, r2, hpl⟩, ⟨m0, m1, m2, m3, m4, m5, m6⟩, hql⟩ := HC4.out.rm.facts
    obtain ⟨s0, s1, s2, s3, s4, s5, sl⟩ := HC4.out.ra.facts
    go_wp2_with fail
    refine (HR2.out _ (HV.out.up HS4.out.rm.rg.bel)).mono ?_
    rintro e w5 ⟨A5, c5, rfl, hnw, hl, hb⟩
    have HC5 := Lib.hid (HS4.out.below hb)
    have HS5 := Lib.hid (HC5.out.setb A5 d2.length c5 h2 z1)
    have HLA5 := Lib.hid (((HLA.out.up hb).off3 HNA.out HBL.out (.slice A5 d2.length c5) (.int .i64 h2) (.int .i64 z1)).more (show w5.heap.size ≤ (((w5.setCell ⟨b, 0, none⟩ (.slice A5 d2.length c5)).setCell ⟨b, 1, none⟩ (.int .i64 h2)).setCell ⟨b, 2, none⟩ (.int .i64 z1)).heap.size by simp))
    have HLB5 := Lib.hid ((hl.off3 hnw HS4.out.rb.lt (.slice A5 d2.length c5) (.int .i64 h2) (.int .i64 z1)).more (show w5.heap.size ≤ (((w5.setCell ⟨b, 0, none⟩ (.slice A5 d2.length c5)).setCell ⟨b, 1, none⟩ (.int .i64 h2)).setCell ⟨b, 2, none⟩ (.int .i64 z1)).heap.size by simp))
    clear hnw hl hb r0 r1 r2 hpl m0 m1 m2 m3 m4 m5 m6 hql s0 s1 s2 s3 s4 s5 sl HC4
    obtain ⟨s0, s1, s2, s3, s4, s5, sl⟩ := HC5.out.ra.facts
    obtain ⟨t0, t1, t2, t3, t4, t5, tl⟩ := HC5.out.rb.facts
    go_wp2_with fail
    refine (gsame_yes _ _ _ _ _ _ _ _ _ _ _ _ (Nat.le_refl _) (Nat.le_refl _) HLA5.out HLB5.out).mono ?_
    rintro e w6 ⟨rfl, hb⟩
    have HS6 := Lib.hid (HS5.out.below hb)
    clear hb HS3 HS4 HS5 HC5 HLA HLA5 HLB5 HNA HBL s0 s1 s2 s3 s4 s5 sl t0 t1 t2 t3 t4 t5 tl
    have hne3 := neqm X3
    obtain ⟨⟨r0, r1, r2, hpl⟩, ⟨m0, m1, m2, m3, m4, m5, m6⟩, hql⟩ := HS6.out.rm.facts
    go_wp2_with fail
    refine (HP3.out _ (HV.out.up HS6.out.rm.rg.bel)).mono ?_
    rintro e w7 ⟨A4, c4, rfl, hnw, hl, hb⟩
    have HC4 := Lib.hid (HS6.out.below hb)
    have HX7 := Lib.hid (MAt.new (((w7.setCell ⟨a, 0, none⟩ (.slice A4 d3.length c4)).setCell ⟨a, 1, none⟩ (.int .i64 h3)).setCell ⟨a, 2, none⟩ (.int .i64 z3)) X3 26)
    have HXZ := Lib.hid (show (((w7.setCell ⟨a, 0, none⟩ (.slice A4 d3.length c4)).setCell ⟨a, 1, none⟩ (.int .i64 h3)).setCell ⟨a, 2, none⟩ (.int .i64 z3)).heap.size = w7.heap.size by simp)
    rw [HXZ.out] at HX7
    have HS7 := Lib.hid ((HC4.out.seta A4 d3.length c4 h3 z3).alloc (.cells X3.cs 26))
    have HNA := Lib.hid hnw
    have HLA := Lib.hid (((hl.off3 hnw HS6.out.ra.lt (.slice A4 d3.length c4) (.int .i64 h3) (.int .i64 z3)).alloc (by simp) (.cells X3.cs 26)).more (show w7.heap.size ≤ ((((w7.setCell ⟨a, 0, none⟩ (.slice A4 d3.length c4)).setCell ⟨a, 1, none⟩ (.int .i64 h3)).setCell ⟨a, 2, none⟩ (.int .i64 z3)).alloc (.cells X3.cs 26)).heap.size by simp))
    have HBL := Lib.hid (And.intro (show b < w6.heap.size from HS6.out.rb.lt) (show w6.heap.size ≤ w7.heap.size from hb.size))
    clear hnw hl hb r0 r1 r2 hpl m0 m1 m2 m3 m4 m5 m6 hql
    obtain ⟨⟨r0, r1, r2, hpl⟩, ⟨m0, m1, m2, m3, m4, m5, m6⟩, hql⟩ := HC4.out.rm.facts
    obtain ⟨s0, s1, s2, s3, s4, s5, sl⟩ := HC4.out.ra.facts
    go_wp2_with fail
    refine (HR3.out _ (HV.out.up HS7.out.rm.rg.bel)).mono ?_
    rintro e w8 ⟨A5, c5, rfl, hnw, hl, hb⟩
    have HC5 := Lib.hid (HS7.out.below hb)
    have HX8 := Lib.hid (HX7.out.below hb HX7.out.1)
    have HY8 := Lib.hid (MAt.new (((w8.setCell ⟨b, 0, none⟩ (.slice A5 d3.length c5)).setCell ⟨b, 1, none⟩ (.int .i64 h3)).setCell ⟨b, 2, none⟩ (.int .i64 z3)) X3 26)
    have HYZ := Lib.hid (show (((w8.setCell ⟨b, 0, none⟩ (.slice A5 d3.length c5)).setCell ⟨b, 1, none⟩ (.int .i64 h3)).setCell ⟨b, 2, none⟩ (.int .i64 z3)).heap.size = w8.heap.size by simp)
    rw [HYZ.out] at HY8
    have HLT := Lib.hid (show b < w7.heap.size ∧ w7.heap.size < w8.heap.size from ⟨Nat.lt_of_lt_of_le HBL.out.1 HBL.out.2, HX8.out.1⟩)
    have HS8 := Lib.hid ((AgM.mk (Y := X3) ((HC5.out.setb A5 d3.length c5 h3 z3).alloc (.cells X3.cs 26)) ((HX8.out.set3 (show b ≠ w7.heap.size by have := HLT.out; omega) (.slice A5 d3.length c5) (.int .i64 h3) (.int .i64 z3)).alloc (.cells X3.cs 26)) HY8.out HLT.out))
    have HLA5 := Lib.hid ((((HLA.out.up hb).off3 HNA.out HBL.out.1 (.slice A5 d3.length c5) (.int .i64 h3) (.int .i64 z3)).alloc (by simp) (.cells X3.cs 26)).more (show w8.heap.size ≤ ((((w8.setCell ⟨b, 0, none⟩ (.slice A5 d3.length c5)).setCell ⟨b, 1, none⟩ (.int .i64 h3)).setCell ⟨b, 2, none⟩ (.int .i64 z3)).alloc (.cells X3.cs 26)).heap.size by simp))
    have HLB5 := Lib.hid (((hl.off3 hnw HS7.out.rb.lt (.slice A5 d3.length c5) (.int .i64 h3) (.int .i64 z3)).alloc (by simp) (.cells X3.cs 26)).more (show w8.heap.size ≤ ((((w8.setCell ⟨b, 0, none⟩ (.slice A5 d3.length c5)).setCell ⟨b, 1, none⟩ (.int .i64 h3)).setCell ⟨b, 2, none⟩ (.int .i64 z3)).alloc (.cells X3.cs 26)).heap.size by simp))
    clear hnw hl hb r0 r1 r2 hpl m0 m1 m2 m3 m4 m5 m6 hql s0 s1 s2 s3 s4 s5 sl HC4
    obtain ⟨s0, s1, s2, s3, s4, s5, sl⟩ := HC5.out.ra.facts
    obtain ⟨t0, t1, t2, t3, t4, t5, tl⟩ := HC5.out.rb.facts
    obtain ⟨v0, v1, v2, v3, v4, v5, v6⟩ := HX8.out.facts.1
    have hxl := HX8.out.1
    have hbx : b ≠ w7.heap.size := by have := HLT.out; omega
    have hxb : w7.heap.size ≠ b := fun e => hbx e.symm
    go_wp2_with fail
    refine (gsame_yes _ _ _ _ _ _ _ _ _ _ _ _ (Nat.le_refl _) (Nat.le_refl _) HLA5.out HLB5.out).mono ?_
    rintro e w9 ⟨rfl, hb⟩
    obtain ⟨x, hx⟩ : ∃ x, x = w7.heap.size := ⟨_, rfl⟩
    obtain ⟨y, hy⟩ : ∃ y, y = w8.heap.size := ⟨_, rfl⟩
    rw [← hx, ← hy] at HS8
    rw [← hx, ← hy]
    have HM9 := Lib.hid (HS8.out.below hb)
    have HNM := Lib.hid HS8.out.ne
    clear hb HS6 HS7 HS8 HC5 HLA HLA5 HLB5 HNA HBL HX7 HX8 HXZ HY8 HYZ HLT hx hy hbx hxb hxl s0 s1 s2 s3 s4 s5 sl t0 t1 t2 t3 t4 t5 tl v0 v1 v2 v3 v4 v5 v6 hne3
    obtain ⟨⟨k1, k2, k3, k4, k5, k6, k7, k8, k9, k10⟩, ⟨j1, j2, j3, j4, j5, j6, j7, j8⟩⟩ := HNM.out
    have hneX := neqm X4
    obtain ⟨⟨r0, r1, r2, hpl⟩, ⟨m0, m1, m2, m3, m4, m5, m6⟩, hql⟩ := HM9.out.s.rm.facts
    go_wp2_with fail
    refine (HP4.out _ (HV.out.up HM9.out.s.rm.rg.bel)).mono ?_
    rintro e w10 ⟨A4, c4, rfl, hnw, hl, hb⟩
    have HC4 := Lib.hid (HM9.out.below hb)
    have HS7 := Lib.hid ((HC4.out.seta A4 d4.length c4 h4 z3).setx X4)
    have HNA := Lib.hid hnw
    have HLA := Lib.hid (((hl.off3 hnw HM9.out.s.ra.lt (.slice A4 d4.length c4) (.int .i64 h4) (.int .i64 z3)).off7 hnw HM9.out.mx.1 X4).more (show w10.heap.size ≤ ((((((((((w10.setCell ⟨a, 0, none⟩ (.slice A4 d4.length c4)).setCell ⟨a, 1, none⟩ (.int .i64 h4)).setCell ⟨a, 2, none⟩ (.int .i64 z3)).setCell ⟨x, 0, none⟩ (.int .i64 X4.id)).setCell ⟨x, 1, none⟩ (.int .i64 X4.rt)).setCell ⟨x, 2, none⟩ (.int .i64 X4.ep)).setCell ⟨x, 3, none⟩ (.int .i64 X4.ct)).setCell ⟨x, 4, none⟩ (.int .i64 X4.gn)).setCell ⟨x, 5, none⟩ (.int .i64 X4.st)).setCell ⟨x, 6, none⟩ (.string X4.bd)).heap.size by simp))
    have HBL := Lib.hid (And.intro (show b < w9.heap.size from HM9.out.s.rb.lt) (show y < w9.heap.size from HM9.out.my.1))
    clear hnw hl hb r0 r1 r2 hpl m0 m1 m2 m3 m4 m5 m6 hql
    obtain ⟨⟨r0, r1, r2, hpl⟩, ⟨m0, m1, m2, m3, m4, m5, m6⟩, hql⟩ := HC4.out.s.rm.facts
    obtain ⟨s0, s1, s2, s3, s4, s5, sl⟩ := HC4.out.s.ra.facts
    obtain ⟨v0, v1, v2, v3, v4, v5, v6⟩ := HC4.out.mx.facts.1
    obtain ⟨f0, f1, f2, f3, f4, f5, f6⟩ := HC4.out.mx.fr
    have hxl := HC4.out.mx.1
    go_wp2_with fail
    refine (HR4.out _ (HV.out.up HS7.out.s.rm.rg.bel)).mono ?_
    rintro e w11 ⟨A5, c5, rfl, hnw, hl, hb⟩
    have HC5 := Lib.hid (HS7.out.below hb)
    have HS8 := Lib.hid ((HC5.out.setb A5 d4.length c5 h4 z3).sety X4)
    have HLA5 := Lib.hid ((((HLA.out.up hb).off3 HNA.out HBL.out.1 (.slice A5 d4.length c5) (.int .i64 h4) (.int .i64 z3)).off7 HNA.out HBL.out.2 X4).more (show w11.heap.size ≤ ((((((((((w11.setCell ⟨b, 0, none⟩ (.slice A5 d4.length c5)).setCell ⟨b, 1, none⟩ (.int .i64 h4)).setCell ⟨b, 2, none⟩ (.int .i64 z3)).setCell ⟨y, 0, none⟩ (.int .i64 X4.id)).setCell ⟨y, 1, none⟩ (.int .i64 X4.rt)).setCell ⟨y, 2, none⟩ (.int .i64 X4.ep)).setCell ⟨y, 3, none⟩ (.int .i64 X4.ct)).setCell ⟨y, 4, none⟩ (.int .i64 X4.gn)).setCell ⟨y, 5, none⟩ (.int .i64 X4.st)).setCell ⟨y, 6, none⟩ (.string X4.bd)).heap.size by simp))
    have HLB5 := Lib.hid (((hl.off3 hnw HS7.out.s.rb.lt (.slice A5 d4.length c5) (.int .i64 h4) (.int .i64 z3)).off7 hnw HS7.out.my.1 X4).more (show w11.heap.size ≤ ((((((((((w11.setCell ⟨b, 0, none⟩ (.slice A5 d4.length c5)).setCell ⟨b, 1, none⟩ (.int .i64 h4)).setCell ⟨b, 2, none⟩ (.int .i64 z3)).setCell ⟨y, 0, none⟩ (.int .i64 X4.id)).setCell ⟨y, 1, none⟩ (.int .i64 X4.rt)).setCell ⟨y, 2, none⟩ (.int .i64 X4.ep)).setCell ⟨y, 3, none⟩ (.int .i64 X4.ct)).setCell ⟨y, 4, none⟩ (.int .i64 X4.gn)).setCell ⟨y, 5, none⟩ (.int .i64 X4.st)).setCell ⟨y, 6, none⟩ (.string X4.bd)).heap.size by simp))
    clear hnw hl hb r0 r1 r2 hpl m0 m1 m2 m3 m4 m5 m6 hql s0 s1 s2 s3 s4 s5 sl v0 v1 v2 v3 v4 v5 v6 f0 f1 f2 f3 f4 f5 f6 hxl HC4
    obtain ⟨s0, s1, s2, s3, s4, s5, sl⟩ := HC5.out.s.ra.facts
    obtain ⟨t0, t1, t2, t3, t4, t5, tl⟩ := HC5.out.s.rb.facts
    obtain ⟨v0, v1, v2, v3, v4, v5, v6⟩ := HC5.out.mx.facts.1
    obtain ⟨u0, u1, u2, u3, u4, u5, u6⟩ := HC5.out.my.facts.1
    obtain ⟨f0, f1, f2, f3, f4, f5, f6⟩ := HC5.out.my.fr
    have hxl := HC5.out.mx.1
    have hyl := HC5.out.my.1
    go_wp2_with fail
    refine (gsame_yes _ _ _ _ _ _ _ _ _ _ _ _ (Nat.le_refl _) (Nat.le_refl _) HLA5.out HLB5.out).mono ?_
    rintro e w12 ⟨rfl, hb⟩
    have HN0 := Lib.hid (HS8.out.below hb)
    clear hb HM9 HS7 HS8 HC5 HLA HLA5 HLB5 HNA HBL hxl hyl s0 s1 s2 s3 s4 s5 sl t0 t1 t2 t3 t4 t5 tl v0 v1 v2 v3 v4 v5 v6 u0 u1 u2 u3 u4 u5 u6 f0 f1 f2 f3 f4 f5 f6 hneX
    have hneX := neqm X5
    obtain ⟨⟨r0, r1, r2, hpl⟩, ⟨m0, m1, m2, m3, m4, m5, m6⟩, hql⟩ := HN0.out.s.rm.facts
    go_wp2_with fail
    refine (HP5.out _ (HV.out.up HN0.out.s.rm.rg.bel)).mono ?_
    rintro e w13 ⟨A4, c4, rfl, hnw, hl, hb⟩
    have HC4 := Lib.hid (HN0.out.below hb)
    have HS7 := Lib.hid ((HC4.out.seta A4 d5.length c4 h5 z5).setx X5)
    have HNA := Lib.hid hnw
    have HLA := Lib.hid (((hl.off3 hnw HN0.out.s.ra.lt (.slice A4 d5.length c4) (.int .i64 h5) (.int .i64 z5)).off7 hnw HN0.out.mx.1 X5).more (show w13.heap.size ≤ ((((((((((w13.setCell ⟨a, 0, none⟩ (.slice A4 d5.length c4)).setCell ⟨a, 1, none⟩ (.int .i64 h5)).setCell ⟨a, 2, none⟩ (.int .i64 z5)).setCell ⟨x, 0, none⟩ (.int .i64 X5.id)).setCell ⟨x, 1, none⟩ (.int .i64 X5.rt)).setCell ⟨x, 2, none⟩ (.int .i64 X5.ep)).setCell ⟨x, 3, none⟩ (.int .i64 X5.ct)).setCell ⟨x, 4, none⟩ (.int .i64 X5.gn)).setCell ⟨x, 5, none⟩ (.int .i64 X5.st)).setCell ⟨x, 6, none⟩ (.string X5.bd)).heap.size by simp))
    have HBL := Lib.hid (And.intro (show b < w12.heap.size from HN0.out.s.rb.lt) (show y < w12.heap.size from HN0.out.my.1))
    clear hnw hl hb r0 r1 r2 hpl m0 m1 m2 m3 m4 m5 m6 hql
    obtain ⟨⟨r0, r1, r2, hpl⟩, ⟨m0, m1, m2, m3, m4, m5, m6⟩, hql⟩ := HC4.out.s.rm.facts
    obtain ⟨s0, s1, s2, s3, s4, s5, sl⟩ := HC4.out.s.ra.facts
    obtain ⟨v0, v1, v2, v3, v4, v5, v6⟩ := HC4.out.mx.facts.1
    obtain ⟨f0, f1, f2, f3, f4, f5, f6⟩ := HC4.out.mx.fr
    have hxl := HC4.out.mx.1
    go_wp2_with fail
    refine (HR5.out _ (HV.out.up HS7.out.s.rm.rg.bel)).mono ?_
    rintro e w14 ⟨A5, c5, rfl, hnw, hl, hb⟩
    have HC5 := Lib.hid (HS7.out.below hb)
    have HS8 := Lib.hid ((HC5.out.setb A5 d5.length c5 h5 z5).sety X5)
    have HLA5 := Lib.hid ((((HLA.out.up hb).off3 HNA.out HBL.out.1 (.slice A5 d5.length c5) (.int .i64 h5) (.int .i64 z5)).off7 HNA.out HBL.out.2 X5).more (show w14.heap.size ≤ ((((((((((w14.setCell ⟨b, 0, none⟩ (.slice A5 d5.length c5)).setCell ⟨b, 1, none⟩ (.int .i64 h5)).setCell ⟨b, 2, none⟩ (.int .i64 z5)).setCell ⟨y, 0, none⟩ (.int .i64 X5.id)).setCell ⟨y, 1, none⟩ (.int .i64 X5.rt)).setCell ⟨y, 2, none⟩ (.int .i64 X5.ep)).setCell ⟨y, 3, none⟩ (.int .i64 X5.ct)).setCell ⟨y, 4, none⟩ (.int .i64 X5.gn)).setCell ⟨y, 5, none⟩ (.int .i64 X5.st)).setCell ⟨y, 6, none⟩ (.string X5.bd)).heap.size by simp))
    have HLB5 := Lib.hid (((hl.off3 hnw HS7.out.s.rb.lt (.slice A5 d5.length c5) (.int .i64 h5) (.int .i64 z5)).off7 hnw HS7.out.my.1 X5).more (show w14.heap.size ≤ ((((((((((w14.setCell ⟨b, 0, none⟩ (.slice A5 d5.length c5)).setCell ⟨b, 1, none⟩ (.int .i64 h5)).setCell ⟨b, 2, none⟩ (.int .i64 z5)).setCell ⟨y, 0, none⟩ (.int .i64 X5.id)).setCell ⟨y, 1, none⟩ (.int .i64 X5.rt)).setCell ⟨y, 2, none⟩ (.int .i64 X5.ep)).setCell ⟨y, 3, none⟩ (.int .i64 X5.ct)).setCell ⟨y, 4, none⟩ (.int .i64 X5.gn)).setCell ⟨y, 5, none⟩ (.int .i64 X5.st)).setCell ⟨y, 6, none⟩ (.string X5.bd)).heap.size by simp))
    clear hnw hl hb r0 r1 r2 hpl m0 m1 m2 m3 m4 m5 m6 hql s0 s1 s2 s3 s4 s5 sl v0 v1 v2 v3 v4 v5 v6 f0 f1 f2 f3 f4 f5 f6 hxl HC4
    obtain ⟨s0, s1, s2, s3, s4, s5, sl⟩ := HC5.out.s.ra.facts
    obtain ⟨t0, t1, t2, t3, t4, t5, tl⟩ := HC5.out.s.rb.facts
    obtain ⟨v0, v1, v2, v3, v4, v5, v6⟩ := HC5.out.mx.facts.1
    obtain ⟨u0, u1, u2, u3, u4, u5, u6⟩ := HC5.out.my.facts.1
    obtain ⟨f0, f1, f2, f3, f4, f5, f6⟩ := HC5.out.my.fr
    have hxl := HC5.out.mx.1
    have hyl := HC5.out.my.1
    go_wp2_with fail
    refine (gsame_yes _ _ _ _ _ _ _ _ _ _ _ _ (Nat.le_refl _) (Nat.le_refl _) HLA5.out HLB5.out).mono ?_
    rintro e w15 ⟨rfl, hb⟩
    have HN1 := Lib.hid (HS8.out.below hb)
    clear hb HN0 HS7 HS8 HC5 HLA HLA5 HLB5 HNA HBL hxl hyl s0 s1 s2 s3 s4 s5 sl t0 t1 t2 t3 t4 t5 tl v0 v1 v2 v3 v4 v5 v6 u0 u1 u2 u3 u4 u5 u6 f0 f1 f2 f3 f4 f5 f6 hneX
    obtain ⟨⟨r0, r1, r2, hpl⟩, ⟨m0, m1, m2, m3, m4, m5, m6⟩, hql⟩ := HN1.out.s.rm.facts
    go_wp2_with fail
    refine (HP6.out _ (HV.out.up HN1.out.s.rm.rg.bel)).mono ?_
    rintro e wx ⟨A4, c4, A6, c6, rfl, hnw, hnw6, hl, hl6, hb⟩
    have HC4 := Lib.hid (HN1.out.below hb)
    have HS7 := Lib.hid (HC4.out.seta A4 d6.length c4 h6 z6)
    have HNA := Lib.hid hnw
    have HNU := Lib.hid hnw6
    have HLA := Lib.hid ((hl.off3 hnw HN1.out.s.ra.lt (.slice A4 d6.length c4) (.int .i64 h6) (.int .i64 z6)).more (show wx.heap.size ≤ (((wx.setCell ⟨a, 0, none⟩ (.slice A4 d6.length c4)).setCell ⟨a, 1, none⟩ (.int .i64 h6)).setCell ⟨a, 2, none⟩ (.int .i64 z6)).heap.size by simp))
    have HLU := Lib.hid ((hl6.off3 hnw6 HN1.out.s.ra.lt (.slice A4 d6.length c4) (.int .i64 h6) (.int .i64 z6)).more (show wx.heap.size ≤ (((wx.setCell ⟨a, 0, none⟩ (.slice A4 d6.length c4)).setCell ⟨a, 1, none⟩ (.int .i64 h6)).setCell ⟨a, 2, none⟩ (.int .i64 z6)).heap.size by simp))
    have HBL := Lib.hid (show b < w15.heap.size from HN1.out.s.rb.lt)
    clear hnw hl hnw6 hl6 hb r0 r1 r2 hpl m0 m1 m2 m3 m4 m5 m6 hql
    obtain ⟨⟨r0, r1, r2, hpl⟩, ⟨m0, m1, m2, m3, m4, m5, m6⟩, hql⟩ := HC4.out.s.rm.facts
    obtain ⟨s0, s1, s2, s3, s4, s5, sl⟩ := HC4.out.s.ra.facts
    go_wp2_with fail
    refine (HR6.out _ (HV.out.up HS7.out.s.rm.rg.bel)).mono ?_
    rintro e wy ⟨A5, c5, A7, c7, rfl, hnw, hnw6, hl, hl6, hb⟩
    have HC5 := Lib.hid (HS7.out.below hb)
    have HS8 := Lib.hid (HC5.out.setb A5 d6.length c5 h6 z6)
    have HLA5 := Lib.hid (((HLA.out.up hb).off3 HNA.out HBL.out (.slice A5 d6.length c5) (.int .i64 h6) (.int .i64 z6)).more (show wy.heap.size ≤ (((wy.setCell ⟨b, 0, none⟩ (.slice A5 d6.length c5)).setCell ⟨b, 1, none⟩ (.int .i64 h6)).setCell ⟨b, 2, none⟩ (.int .i64 z6)).heap.size by simp))
    have HLB5 := Lib.hid ((hl.off3 hnw HS7.out.s.rb.lt (.slice A5 d6.length c5) (.int .i64 h6) (.int .i64 z6)).more (show wy.heap.size ≤ (((wy.setCell ⟨b, 0, none⟩ (.slice A5 d6.length c5)).setCell ⟨b, 1, none⟩ (.int .i64 h6)).setCell ⟨b, 2, none⟩ (.int .i64 z6)).heap.size by simp))
    have HLU5 := Lib.hid (((HLU.out.up hb).off3 HNU.out HBL.out (.slice A5 d6.length c5) (.int .i64 h6) (.int .i64 z6)).more (show wy.heap.size ≤ (((wy.setCell ⟨b, 0, none⟩ (.slice A5 d6.length c5)).setCell ⟨b, 1, none⟩ (.int .i64 h6)).setCell ⟨b, 2, none⟩ (.int .i64 z6)).heap.size by simp))
    have HLV5 := Lib.hid ((hl6.off3 hnw6 HS7.out.s.rb.lt (.slice A5 d6.length c5) (.int .i64 h6) (.int .i64 z6)).more (show wy.heap.size ≤ (((wy.setCell ⟨b, 0, none⟩ (.slice A5 d6.length c5)).setCell ⟨b, 1, none⟩ (.int .i64 h6)).setCell ⟨b, 2, none⟩ (.int .i64 z6)).heap.size by simp))
    clear hnw hl hnw6 hl6 hb r0 r1 r2 hpl m0 m1 m2 m3 m4 m5 m6 hql s0 s1 s2 s3 s4 s5 sl HC4
    obtain ⟨s0, s1, s2, s3, s4, s5, sl⟩ := HC5.out.s.ra.facts
    obtain ⟨t0, t1, t2, t3, t4, t5, tl⟩ := HC5.out.s.rb.facts
    go_wp2_with fail
    refine (rsame_yes _ _ _ _ _ _ _ _ _ _ HLU5.out HLV5.out).mono ?_
    rintro e wz ⟨rfl, hb⟩
    have HS9 := Lib.hid (HS8.out.below hb)
    have HLA6 := Lib.hid (HLA5.out.up hb)
    have HLB6 := Lib.hid (HLB5.out.up hb)
    clear hb s0 s1 s2 s3 s4 s5 sl t0 t1 t2 t3 t4 t5 tl HC5
    obtain ⟨s0, s1, s2, s3, s4, s5, sl⟩ := HS9.out.s.ra.facts
    obtain ⟨t0, t1, t2, t3, t4, t5, tl⟩ := HS9.out.s.rb.facts
    go_wp2_with fail
    refine (gsame_yes _ _ _ _ _ _ _ _ _ _ _ _ (Nat.le_refl _) (Nat.le_refl _) HLA6.out HLB6.out).mono ?_
    rintro e wt ⟨rfl, hb⟩
    have HT := Lib.hid (HS9.out.below hb)
    clear hb HN1 HS7 HS8 HS9 HLA HLA5 HLB5 HLA6 HLB6 HLU HLU5 HLV5 HNA HNU HBL s0 s1 s2 s3 s4 s5 sl t0 t1 t2 t3 t4 t5 tl
    obtain ⟨⟨r0, r1, r2, hpl⟩, ⟨m0, m1, m2, m3, m4, m5, m6⟩, hql⟩ := HT.out.s.rm.facts
    go_wp2_with fail
    refine (HP7.out _ (HV.out.up HT.out.s.rm.rg.bel) (HV0.out.up HT.out.s.rm.rg.bel)).mono ?_
    rintro e wp ⟨A4, c4, rfl, hnw, hl, hb⟩
    have HC4 := Lib.hid (HT.out.below hb)
    have HS7 := Lib.hid (HC4.out.seta A4 d7.length c4 h7 z7)
    have HNA := Lib.hid hnw
    have HLA := Lib.hid ((hl.off3 hnw HT.out.s.ra.lt (.slice A4 d7.length c4) (.int .i64 h7) (.int .i64 z7)).more (show wp.heap.size ≤ (((wp.setCell ⟨a, 0, none⟩ (.slice A4 d7.length c4)).setCell ⟨a, 1, none⟩ (.int .i64 h7)).setCell ⟨a, 2, none⟩ (.int .i64 z7)).heap.size by simp))
    have HBL := Lib.hid (show b < wt.heap.size from HT.out.s.rb.lt)
    clear hnw hl hb r0 r1 r2 hpl m0 m1 m2 m3 m4 m5 m6 hql
    obtain ⟨⟨r0, r1, r2, hpl⟩, ⟨m0, m1, m2, m3, m4, m5, m6⟩, hql⟩ := HC4.out.s.rm.facts
    obtain ⟨s0, s1, s2, s3, s4, s5, sl⟩ := HC4.out.s.ra.facts
    go_wp2_with fail
    refine (HR7.out _ HS7.out.s.rm.rg.bel.size (HV.out.below HS7.out.s.rm.rg.bel) (HV0.out.up HS7.out.s.rm.rg.bel)).mono ?_
    rintro e wq ⟨A5, c5, rfl, hlx, hb⟩
    have HC5 := Lib.hid (HS7.out.below hb)
    have HS8 := Lib.hid (HC5.out.setb A5 d7.length c5 h7 z7)
    have HLA5 := Lib.hid (((HLA.out.up hb).off3 HNA.out HBL.out (.slice A5 d7.length c5) (.int .i64 h7) (.int .i64 z7)).more (show wq.heap.size ≤ (((wq.setCell ⟨b, 0, none⟩ (.slice A5 d7.length c5)).setCell ⟨b, 1, none⟩ (.int .i64 h7)).setCell ⟨b, 2, none⟩ (.int .i64 z7)).heap.size by simp))
    have HLB5 := Lib.hid ((hlx.set3 (show w.heap.size ≤ b by have := HS7.out.s.old; omega) HS7.out.s.rb.lt (.slice A5 d7.length c5) (.int .i64 h7) (.int .i64 z7)).ls (show w.heap.size ≤ (((wq.setCell ⟨b, 0, none⟩ (.slice A5 d7.length c5)).setCell ⟨b, 1, none⟩ (.int .i64 h7)).setCell ⟨b, 2, none⟩ (.int .i64 z7)).heap.size from HS8.out.s.rm.rg.bel.size))
    clear hlx hb r0 r1 r2 hpl m0 m1 m2 m3 m4 m5 m6 hql s0 s1 s2 s3 s4 s5 sl HC4
    obtain ⟨s0, s1, s2, s3, s4, s5, sl⟩ := HC5.out.s.ra.facts
    obtain ⟨t0, t1, t2, t3, t4, t5, tl⟩ := HC5.out.s.rb.facts
    go_wp2_with fail
    refine (gsame_yes _ _ _ _ _ _ _ _ _ _ _ _ (Nat.le_refl _) (Nat.le_refl _) HLA5.out HLB5.out).mono ?_
    rintro e wu ⟨rfl, hb⟩
    have HU := Lib.hid (HS8.out.below hb).s.rm.rg.bel
    clear hb s0 s1 s2 s3 s4 s5 sl t0 t1 t2 t3 t4 t5 tl
    go_wp2
    go_ret
    exact ⟨rfl, HU.out⟩
end Go.Proofs.Ytiklkagkmcapnaa
namespace Go.Proofs.Ytiklkagkmcapnaa
open Go.RowKit
set_option linter.unusedVariables false

/-- Some message, made by a source. -/
def SrOdd (B g : Nat) (w : World) (e : Ending) (w' : World) : Prop := ∃ M : Msg, e = .returned M.v ∧ M.bd.size ≤ 18 ∧ SrcAt w' B g ∧ w.grownBy w' (some g)

theorem row_cells (w : World) (zs : List Int) (t : TypeId) : ∀ j (hj : j < zs.length), (w.alloc (.cells (zs.map i64v).toArray t)).cell? ⟨w.heap.size, j, none⟩ = some (.int .i64 zs[j]) := by
  intro j hj
  rw [World.cell?_alloc_new]
  simp [hj, i64v]

set_option maxHeartbeats 16000000 in
set_option maxRecDepth 20000 in
theorem odd_any (B g : Nat) (w : World) (h : SrcAt w B g) (id lo hi : Int) : Calls Try.prog 16 #[.pointer (some ⟨g, 0, none⟩), .int .i64 id, .int .i64 lo, .int .i64 hi] w (SrOdd B g w) := by
  have H := Lib.hid h
  have hr := MAt.fresh (f := fun _ => 0) w 0 0 0 0 0 0 ByteArray.empty 26 rfl rfl rfl rfl rfl rfl
  obtain ⟨r, hrr⟩ : ∃ r, r = w.heap.size := ⟨_, rfl⟩
  rw [← hrr] at hr
  have HR := Lib.hid hr
  have HRR := Lib.hid hrr
  have HBR := Lib.hid (show B ≤ r by have := h.1; have := h.2.1; omega)
  have HNR := Lib.hid (show r ≠ g by have := h.2.1; omega)
  have HC := Lib.hid (message_any B g (w.alloc (.cells #[.int .i64 0, .int .i64 0, .int .i64 0, .int .i64 0, .int .i64 0, .int .i64 0, .string ByteArray.empty] 26)) (h.alloc _) id lo hi)
  clear h hr hrr
  go_enter Try.func16, Try.ntmps16
  go_wp2_with fail
  refine HC.out.mono ?_
  rintro e w1 ⟨M, rfl, m0, m1, _, ⟨m2, m3⟩, _, _, m6, hs, hg⟩
  clear m0 m1
  have HR1 := Lib.hid ((HR.out.grown hg HNR.out).alloc (.cells M.cs 26))
  have HG1 := Lib.hid (only_alloc ((only_alloc (World.grownBy.refl w (some g)) _).trans hg) (.cells M.cs 26))
  have HS1 := Lib.hid (hs.alloc (.cells M.cs 26))
  have HK1 := Lib.hid (MAt.fresh (f := M.nth) w1 M.id M.rt M.ep M.ct M.gn M.st M.bd 26 rfl rfl rfl rfl rfl rfl)
  obtain ⟨k, hkk⟩ : ∃ k, k = w1.heap.size := ⟨_, rfl⟩
  have HKK := Lib.hid hkk
  have HNK := Lib.hid (show k ≠ g by have := hs.2.1; omega)
  have HBK := Lib.hid (show B ≤ k by have := hs.1; have := hs.2.1; omega)
  have HRK := Lib.hid (show r ≠ k by have := (HR.out.grown hg HNR.out).1; omega)
  have HWK := Lib.hid (show w.heap.size ≤ k by have := ((only_alloc (World.grownBy.refl w (some g)) (.cells #[.int .i64 0, .int .i64 0, .int .i64 0, .int .i64 0, .int .i64 0, .int .i64 0, .string ByteArray.empty] 26)).trans hg).size; omega)
  have HM6 := Lib.hid m6
  clear hs hg hkk m6
  go_wp2_with fail
  rw [← HKK.out, ← HRR.out]
  rw [← HKK.out] at HK1
  refine (n_any B g _ HS1.out 12 (by omega) (by omega)).mono ?_
  rintro e w3 ⟨y, rfl, y1, y2, hs, hg⟩
  have HS3 := Lib.hid hs
  have HG3 := Lib.hid (HG1.out.trans hg)
  have HK3 := Lib.hid (HK1.out.grown hg HNK.out)
  have HR3 := Lib.hid (HR1.out.grown hg HNR.out)
  clear hs hg y1 y2
  by_cases hy0 : y = 0
  · subst hy0
    have HKR := Lib.hid (HK3.out.alloc (.cells ([0, 1073741824, 1073741825, -1].map i64v).toArray 3))
    have HRR3 := Lib.hid (HR3.out.alloc (.cells ([0, 1073741824, 1073741825, -1].map i64v).toArray 3))
    have HGR := Lib.hid (only_alloc HG3.out (.cells ([0, 1073741824, 1073741825, -1].map i64v).toArray 3))
    go_wp2_with fail
    refine (pick_any B g (w3.alloc (.cells ([0, 1073741824, 1073741825, -1].map i64v).toArray 3)) (HS3.out.alloc _) w3.heap.size 4 [0, 1073741824, 1073741825, -1] rfl (by simp) (by have := HS3.out.2.1; omega) (by omega) (by omega) (row_cells w3 _ _)).mono ?_
    rintro e w5 ⟨x, rfl, _, hs, hg⟩
    have HS5 := Lib.hid hs
    have HG5 := Lib.hid (HGR.out.trans hg)
    have HK5 := Lib.hid (HKR.out.grown hg HNK.out)
    have HR5 := Lib.hid (HRR3.out.grown hg HNR.out)
    obtain ⟨⟨a0, a1, a2, a3, a4, a5, a6⟩, b0, b1, b2, b3, b4, b5, b6⟩ := HK5.out.facts
    obtain ⟨⟨c0, c1, c2, c3, c4, c5, c6⟩, d0, d1, d2, d3, d4, d5, d6⟩ := HR5.out.facts
    simp only [Msg.nth] at a0 a1 a2 a3 a4 a5
    have hrk := HRK.out
    have hkr : k ≠ r := fun e => hrk e.symm
    clear hs hg
    go_wp2
    exact bodyPost_ret (v := Msg.v ⟨x, M.rt, M.ep, M.ct, M.gn, M.st, M.bd⟩) (by simp only [results, Try.results16]; go_simp <;> rfl) rfl ⟨_, rfl, (by have := HM6.out; show M.bd.size ≤ 18; omega), src7 (HS5.out.other (p := ⟨k, 0, none⟩) HNK.out HBK.out _) HNR.out HBR.out _ _ _ _ _ _ _, only7 (only_set HG5.out (p := ⟨k, 0, none⟩) (.inr HWK.out) _) (by rw [HRR.out]; exact Nat.le_refl _) _ _ _ _ _ _ _⟩
  by_cases hy1 : y = 1
  · subst hy1
    have HKR := Lib.hid (HK3.out.alloc (.cells ([-1, 65535, 65536].map i64v).toArray 3))
    have HRR3 := Lib.hid (HR3.out.alloc (.cells ([-1, 65535, 65536].map i64v).toArray 3))
    have HGR := Lib.hid (only_alloc HG3.out (.cells ([-1, 65535, 65536].map i64v).toArray 3))
    go_wp2_with fail
    refine (pick_any B g (w3.alloc (.cells ([-1, 65535, 65536].map i64v).toArray 3)) (HS3.out.alloc _) w3.heap.size 3 [-1, 65535, 65536] rfl (by simp) (by have := HS3.out.2.1; omega) (by omega) (by omega) (row_cells w3 _ _)).mono ?_
    rintro e w5 ⟨x, rfl, _, hs, hg⟩
    have HS5 := Lib.hid hs
    have HG5 := Lib.hid (HGR.out.trans hg)
    have HK5 := Lib.hid (HKR.out.grown hg HNK.out)
    have HR5 := Lib.hid (HRR3.out.grown hg HNR.out)
    obtain ⟨⟨a0, a1, a2, a3, a4, a5, a6⟩, b0, b1, b2, b3, b4, b5, b6⟩ := HK5.out.facts
    obtain ⟨⟨c0, c1, c2, c3, c4, c5, c6⟩, d0, d1, d2, d3, d4, d5, d6⟩ := HR5.out.facts
    simp only [Msg.nth] at a0 a1 a2 a3 a4 a5
    have hrk := HRK.out
    have hkr : k ≠ r := fun e => hrk e.symm
    clear hs hg
    go_wp2
    exact bodyPost_ret (v := Msg.v ⟨M.id, x, M.ep, M.ct, M.gn, M.st, M.bd⟩) (by simp only [results, Try.results16]; go_simp <;> rfl) rfl ⟨_, rfl, (by have := HM6.out; show M.bd.size ≤ 18; omega), src7 (HS5.out.other (p := ⟨k, 1, none⟩) HNK.out HBK.out _) HNR.out HBR.out _ _ _ _ _ _ _, only7 (only_set HG5.out (p := ⟨k, 1, none⟩) (.inr HWK.out) _) (by rw [HRR.out]; exact Nat.le_refl _) _ _ _ _ _ _ _⟩
  by_cases hy2 : y = 2
  · subst hy2
    have HKR := Lib.hid (HK3.out.alloc (.cells ([M.ct, M.ct - 1, 65536, 65537].map i64v).toArray 3))
    have HRR3 := Lib.hid (HR3.out.alloc (.cells ([M.ct, M.ct - 1, 65536, 65537].map i64v).toArray 3))
    have HGR := Lib.hid (only_alloc HG3.out (.cells ([M.ct, M.ct - 1, 65536, 65537].map i64v).toArray 3))
    obtain ⟨⟨p0, p1, p2, p3, p4, p5, p6⟩, o0, o1, o2, o3, o4, o5, o6⟩ := HK3.out.facts
    simp only [Msg.nth] at p0 p1 p2 p3 p4 p5
    go_wp2_with fail
    refine (pick_any B g (w3.alloc (.cells ([M.ct, M.ct - 1, 65536, 65537].map i64v).toArray 3)) (HS3.out.alloc _) w3.heap.size 4 [M.ct, M.ct - 1, 65536, 65537] rfl (by simp) (by have := HS3.out.2.1; omega) (by omega) (by omega) (row_cells w3 _ _)).mono ?_
    clear p0 p1 p2 p3 p4 p5 p6 o0 o1 o2 o3 o4 o5 o6
    rintro e w5 ⟨x, rfl, _, hs, hg⟩
    have HS5 := Lib.hid hs
    have HG5 := Lib.hid (HGR.out.trans hg)
    have HK5 := Lib.hid (HKR.out.grown hg HNK.out)
    have HR5 := Lib.hid (HRR3.out.grown hg HNR.out)
    obtain ⟨⟨a0, a1, a2, a3, a4, a5, a6⟩, b0, b1, b2, b3, b4, b5, b6⟩ := HK5.out.facts
    obtain ⟨⟨c0, c1, c2, c3, c4, c5, c6⟩, d0, d1, d2, d3, d4, d5, d6⟩ := HR5.out.facts
    simp only [Msg.nth] at a0 a1 a2 a3 a4 a5
    have hrk := HRK.out
    have hkr : k ≠ r := fun e => hrk e.symm
    clear hs hg
    go_wp2
    exact bodyPost_ret (v := Msg.v ⟨M.id, M.rt, M.ep, M.ct, x, M.st, M.bd⟩) (by simp only [results, Try.results16]; go_simp <;> rfl) rfl ⟨_, rfl, (by have := HM6.out; show M.bd.size ≤ 18; omega), src7 (HS5.out.other (p := ⟨k, 4, none⟩) HNK.out HBK.out _) HNR.out HBR.out _ _ _ _ _ _ _, only7 (only_set HG5.out (p := ⟨k, 4, none⟩) (.inr HWK.out) _) (by rw [HRR.out]; exact Nat.le_refl _) _ _ _ _ _ _ _⟩
  by_cases hy3 : y = 3
  · subst hy3
    have HKR := Lib.hid (HK3.out.alloc (.cells ([8, 9, -1].map i64v).toArray 3))
    have HRR3 := Lib.hid (HR3.out.alloc (.cells ([8, 9, -1].map i64v).toArray 3))
    have HGR := Lib.hid (only_alloc HG3.out (.cells ([8, 9, -1].map i64v).toArray 3))
    go_wp2_with fail
    refine (pick_any B g (w3.alloc (.cells ([8, 9, -1].map i64v).toArray 3)) (HS3.out.alloc _) w3.heap.size 3 [8, 9, -1] rfl (by simp) (by have := HS3.out.2.1; omega) (by omega) (by omega) (row_cells w3 _ _)).mono ?_
    rintro e w5 ⟨x, rfl, _, hs, hg⟩
    have HS5 := Lib.hid hs
    have HG5 := Lib.hid (HGR.out.trans hg)
    have HK5 := Lib.hid (HKR.out.grown hg HNK.out)
    have HR5 := Lib.hid (HRR3.out.grown hg HNR.out)
    obtain ⟨⟨a0, a1, a2, a3, a4, a5, a6⟩, b0, b1, b2, b3, b4, b5, b6⟩ := HK5.out.facts
    obtain ⟨⟨c0, c1, c2, c3, c4, c5, c6⟩, d0, d1, d2, d3, d4, d5, d6⟩ := HR5.out.facts
    simp only [Msg.nth] at a0 a1 a2 a3 a4 a5
    have hrk := HRK.out
    have hkr : k ≠ r := fun e => hrk e.symm
    clear hs hg
    go_wp2
    exact bodyPost_ret (v := Msg.v ⟨M.id, M.rt, M.ep, x, max M.gn x, M.st, M.bd⟩) (by simp only [results, Try.results16]; go_simp <;> rfl) rfl ⟨_, rfl, (by have := HM6.out; show M.bd.size ≤ 18; omega), src7 ((HS5.out.other (p := ⟨k, 3, none⟩) HNK.out HBK.out _).other (p := ⟨k, 4, none⟩) HNK.out HBK.out _) HNR.out HBR.out _ _ _ _ _ _ _, only7 (only_set (only_set HG5.out (p := ⟨k, 3, none⟩) (.inr HWK.out) _) (p := ⟨k, 4, none⟩) (.inr HWK.out) _) (by rw [HRR.out]; exact Nat.le_refl _) _ _ _ _ _ _ _⟩
  by_cases hy5 : y = 5
  · subst hy5
    have HKR := Lib.hid (HK3.out.alloc (.cells ([-1, 1073741824, 1073741825].map i64v).toArray 3))
    have HRR3 := Lib.hid (HR3.out.alloc (.cells ([-1, 1073741824, 1073741825].map i64v).toArray 3))
    have HGR := Lib.hid (only_alloc HG3.out (.cells ([-1, 1073741824, 1073741825].map i64v).toArray 3))
    go_wp2_with fail
    refine (pick_any B g (w3.alloc (.cells ([-1, 1073741824, 1073741825].map i64v).toArray 3)) (HS3.out.alloc _) w3.heap.size 3 [-1, 1073741824, 1073741825] rfl (by simp) (by have := HS3.out.2.1; omega) (by omega) (by omega) (row_cells w3 _ _)).mono ?_
    rintro e w5 ⟨x, rfl, _, hs, hg⟩
    have HS5 := Lib.hid hs
    have HG5 := Lib.hid (HGR.out.trans hg)
    have HK5 := Lib.hid (HKR.out.grown hg HNK.out)
    have HR5 := Lib.hid (HRR3.out.grown hg HNR.out)
    obtain ⟨⟨a0, a1, a2, a3, a4, a5, a6⟩, b0, b1, b2, b3, b4, b5, b6⟩ := HK5.out.facts
    obtain ⟨⟨c0, c1, c2, c3, c4, c5, c6⟩, d0, d1, d2, d3, d4, d5, d6⟩ := HR5.out.facts
    simp only [Msg.nth] at a0 a1 a2 a3 a4 a5
    have hrk := HRK.out
    have hkr : k ≠ r := fun e => hrk e.symm
    clear hs hg
    go_wp2
    exact bodyPost_ret (v := Msg.v ⟨M.id, M.rt, M.ep, M.ct, M.gn, x, M.bd⟩) (by simp only [results, Try.results16]; go_simp <;> rfl) rfl ⟨_, rfl, (by have := HM6.out; show M.bd.size ≤ 18; omega), src7 (HS5.out.other (p := ⟨k, 5, none⟩) HNK.out HBK.out _) HNR.out HBR.out _ _ _ _ _ _ _, only7 (only_set HG5.out (p := ⟨k, 5, none⟩) (.inr HWK.out) _) (by rw [HRR.out]; exact Nat.le_refl _) _ _ _ _ _ _ _⟩
  by_cases hy6 : y = 6
  · subst hy6
    have HKR := Lib.hid (HK3.out.alloc (.cells ([-1, 65536, 65537].map i64v).toArray 3))
    have HRR3 := Lib.hid (HR3.out.alloc (.cells ([-1, 65536, 65537].map i64v).toArray 3))
    have HGR := Lib.hid (only_alloc HG3.out (.cells ([-1, 65536, 65537].map i64v).toArray 3))
    go_wp2_with fail
    refine (pick_any B g (w3.alloc (.cells ([-1, 65536, 65537].map i64v).toArray 3)) (HS3.out.alloc _) w3.heap.size 3 [-1, 65536, 65537] rfl (by simp) (by have := HS3.out.2.1; omega) (by omega) (by omega) (row_cells w3 _ _)).mono ?_
    rintro e w5 ⟨x, rfl, _, hs, hg⟩
    have HS5 := Lib.hid hs
    have HG5 := Lib.hid (HGR.out.trans hg)
    have HK5 := Lib.hid (HKR.out.grown hg HNK.out)
    have HR5 := Lib.hid (HRR3.out.grown hg HNR.out)
    obtain ⟨⟨a0, a1, a2, a3, a4, a5, a6⟩, b0, b1, b2, b3, b4, b5, b6⟩ := HK5.out.facts
    obtain ⟨⟨c0, c1, c2, c3, c4, c5, c6⟩, d0, d1, d2, d3, d4, d5, d6⟩ := HR5.out.facts
    simp only [Msg.nth] at a0 a1 a2 a3 a4 a5
    have hrk := HRK.out
    have hkr : k ≠ r := fun e => hrk e.symm
    clear hs hg
    go_wp2
    exact bodyPost_ret (v := Msg.v ⟨M.id, M.rt, x, M.ct, M.gn, M.st, M.bd⟩) (by simp only [results, Try.results16]; go_simp <;> rfl) rfl ⟨_, rfl, (by have := HM6.out; show M.bd.size ≤ 18; omega), src7 (HS5.out.other (p := ⟨k, 2, none⟩) HNK.out HBK.out _) HNR.out HBR.out _ _ _ _ _ _ _, only7 (only_set HG5.out (p := ⟨k, 2, none⟩) (.inr HWK.out) _) (by rw [HRR.out]; exact Nat.le_refl _) _ _ _ _ _ _ _⟩
  by_cases hy4 : y = 4
  · subst hy4
    have hk6 := HK3.out.2.2.1
    have hf6 := HK3.out.2.2.2 6 (by omega)
    go_wp2_with fail
    go_region_with ((go_at_call 44; refine (body_any B g _ (SrcAt.drew HS3.out)).mono ?_; rintro e w5 ⟨s, rfl, s1, hs, hg⟩; have HS5 := Lib.hid hs; have HG5 := Lib.hid (HG3.out.trans (gdrew hg)); have HK5 := Lib.hid (HK3.out.grown (gdrew hg) HNK.out); have HR5 := Lib.hid (HR3.out.grown (gdrew hg) HNR.out); have g6 := HK5.out.2.2.1; have f6 := HK5.out.2.2.2 6 (by omega); clear hs hg))
    have HZ := Lib.hid (show (ByteArray.extract ⟨#[48, 49, 50, 51, 52, 53, 54, 55, 56, 57, 97, 98, 99, 100, 101, 102]⟩ 0 15 ++ s).size ≤ 18 by
      rw [ByteArray.size_append, show (ByteArray.extract ⟨#[48, 49, 50, 51, 52, 53, 54, 55, 56, 57, 97, 98, 99, 100, 101, 102]⟩ 0 15).size = 15 by decide +kernel]; omega)
    generalize ByteArray.extract ⟨#[48, 49, 50, 51, 52, 53, 54, 55, 56, 57, 97, 98, 99, 100, 101, 102]⟩ 0 15 ++ s = bd at *
    clear g6 f6 hk6 hf6
    obtain ⟨⟨a0, a1, a2, a3, a4, a5, a6⟩, b0, b1, b2, b3, b4, b5, b6⟩ := HK5.out.facts
    obtain ⟨⟨c0, c1, c2, c3, c4, c5, c6⟩, d0, d1, d2, d3, d4, d5, d6⟩ := HR5.out.facts
    simp only [Msg.nth] at a0 a1 a2 a3 a4 a5
    have hrk := HRK.out
    have hkr : k ≠ r := fun e => hrk e.symm
    go_wp2
    exact bodyPost_ret (v := Msg.v ⟨M.id, M.rt, M.ep, M.ct, M.gn, M.st, bd⟩) (by simp only [results, Try.results16]; go_simp <;> rfl) rfl ⟨_, rfl, HZ.out, src7 (HS5.out.other (p := ⟨k, 6, none⟩) HNK.out HBK.out _) HNR.out HBR.out _ _ _ _ _ _ _, only7 (only_set HG5.out (p := ⟨k, 6, none⟩) (.inr HWK.out) _) (by rw [HRR.out]; exact Nat.le_refl _) _ _ _ _ _ _ _⟩
  have hz0 : (y == 0) = false := beq_eq_false_iff_ne.2 hy0
  have hz1 : (y == 1) = false := beq_eq_false_iff_ne.2 hy1
  have hz2 : (y == 2) = false := beq_eq_false_iff_ne.2 hy2
  have hz3 : (y == 3) = false := beq_eq_false_iff_ne.2 hy3
  have hz4 : (y == 4) = false := beq_eq_false_iff_ne.2 hy4
  have hz5 : (y == 5) = false := beq_eq_false_iff_ne.2 hy5
  have hz6 : (y == 6) = false := beq_eq_false_iff_ne.2 hy6
  clear hy0 hy1 hy2 hy3 hy4 hy5 hy6
  obtain ⟨⟨a0, a1, a2, a3, a4, a5, a6⟩, b0, b1, b2, b3, b4, b5, b6⟩ := HK3.out.facts
  obtain ⟨⟨c0, c1, c2, c3, c4, c5, c6⟩, d0, d1, d2, d3, d4, d5, d6⟩ := HR3.out.facts
  simp only [Msg.nth] at a0 a1 a2 a3 a4 a5
  have hrk := HRK.out
  have hkr : k ≠ r := fun e => hrk e.symm
  go_wp2
  exact bodyPost_ret (v := Msg.v M) (by simp only [results, Try.results16]; go_simp <;> rfl) rfl ⟨_, rfl, (by have := HM6.out; omega), src7 HS3.out HNR.out HBR.out _ _ _ _ _ _ _, only7 HG3.out (by rw [HRR.out]; exact Nat.le_refl _) _ _ _ _ _ _ _⟩
end Go.Proofs.Ytiklkagkmcapnaa
