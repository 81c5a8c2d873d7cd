/- What is proved here: Js; ref13.SameInts, Same of equal lockers, Free by contracts; ref12.task, Owner, own by contracts. -/
import Derived.Test.YtommkhjgockpfaaJ35
import Derived.Deep.DeepCutAuto
import Derived.Deep.RegionHeld3
import Derived.Test.YtommkhjgockpfaaJ25
import Derived.Deep.QuietTactic
import Derived.BigQuiet
import Derived.Test.YtommkhjgockpfaaJ02
import Derived.Deep.AppendLies
import Derived.Test.YtommkhjgockpfaaJ31
/- Plain: a box of an arena and one of a locker, and the results' boxes. -/
namespace Go.Proofs.Ytommkhjgockpfaa
open Go.RowKit
set_option linter.unusedVariables false

/-- The lists of an arena and of a locker in a box each, and the results' boxes. -/
structure Js (w : World) (p q r s : Nat) (a : Ar) (Y : Ax) (l : Lk) (A : Option Addr) (c : Nat) (W : World) : Prop where
  pb : QB W p a Y
  qb : LB W q l A c
  rb : QB W r zA zAx
  sb : LB W s zK none 0
  ne : w.heap.size ≤ p ∧ p < q ∧ q < r ∧ r < s
  ar : AR W W.heap.size a Y
  ao : AOff a Y p ∧ AOff a Y q ∧ AOff a Y r ∧ AOff a Y s
  fl : Fl W W.heap.size (.slice A l.cs.length c) l.cs
  fo : OffB p l.cs.length A ∧ OffB q l.cs.length A ∧ OffB r l.cs.length A ∧ OffB s l.cs.length A
  bel : Below w.heap.size w W
section
variable {w W W' : World} {p q r s : Nat} {a b : Ar} {Y Z : Ax} {l m : Lk} {A A' : Option Addr} {c c' : Nat}
theorem Js.below (h : Js w p q r s a Y l A c W) (hb : Below W.heap.size W W') : Js w p q r s a Y l A c W' :=
  ⟨h.pb.up hb, h.qb.up hb, h.rb.up hb, h.sb.up hb, h.ne, h.ar.up hb, h.ao, h.fl.up hb, h.fo, h.bel.trans (hb.mono h.bel.size)⟩
theorem Js.drew (h : Js w p q r s a Y l A c W) : Js w p q r s a Y l A c W.drew := h.below (Below.refl _ _).drew
theorem Js.start (har : AR w w.heap.size a Y) (hf : Fl w w.heap.size (.slice A l.cs.length c) l.cs) : Js w w.heap.size (w.heap.size + 1) (w.heap.size + 2) (w.heap.size + 3) a Y l A c ((((w.alloc (.cells #[.slice Y.A a.sl.length Y.c, .slice Y.A2 a.st.length Y.c2, .int .i64 a.ow, .int .i64 a.cap, .slice Y.A3 a.dl.length Y.c3, .int .i64 a.dir.vn, .slice Y.D.A a.dir.l.length Y.D.c, .slice Y.D.A2 a.dir.F.length Y.D.c2, .int .i64 a.ep, .int .i64 a.ck, .int .i64 a.ni] 46)).alloc (.cells #[.slice A l.cs.length c, .int .i64 l.ph, .int .i64 l.hv, .int .i64 l.tr, .int .i64 l.wt] 28)).alloc (.cells #[.slice none 0 0, .slice none 0 0, .int .i64 0, .int .i64 0, .slice none 0 0, .int .i64 0, .slice none 0 0, .slice none 0 0, .int .i64 0, .int .i64 0, .int .i64 0] 46)).alloc (.cells #[.slice none 0 0, .int .i64 0, .int .i64 0, .int .i64 0, .int .i64 0] 28)) := by
  have b1 := (Below.refl w.heap.size w).alloc (Nat.le_refl _) (.cells #[.slice Y.A a.sl.length Y.c, .slice Y.A2 a.st.length Y.c2, .int .i64 a.ow, .int .i64 a.cap, .slice Y.A3 a.dl.length Y.c3, .int .i64 a.dir.vn, .slice Y.D.A a.dir.l.length Y.D.c, .slice Y.D.A2 a.dir.F.length Y.D.c2, .int .i64 a.ep, .int .i64 a.ck, .int .i64 a.ni] 46)
  have b2 := b1.alloc (by simp) (.cells #[.slice A l.cs.length c, .int .i64 l.ph, .int .i64 l.hv, .int .i64 l.tr, .int .i64 l.wt] 28)
  have b3 := b2.alloc (by simp; omega) (.cells #[.slice none 0 0, .slice none 0 0, .int .i64 0, .int .i64 0, .slice none 0 0, .int .i64 0, .slice none 0 0, .slice none 0 0, .int .i64 0, .int .i64 0, .int .i64 0] 46)
  have b4 := b3.alloc (by simp; omega) (.cells #[.slice none 0 0, .int .i64 0, .int .i64 0, .int .i64 0, .int .i64 0] 28)
  have e1 : (w.alloc (.cells #[.slice Y.A a.sl.length Y.c, .slice Y.A2 a.st.length Y.c2, .int .i64 a.ow, .int .i64 a.cap, .slice Y.A3 a.dl.length Y.c3, .int .i64 a.dir.vn, .slice Y.D.A a.dir.l.length Y.D.c, .slice Y.D.A2 a.dir.F.length Y.D.c2, .int .i64 a.ep, .int .i64 a.ck, .int .i64 a.ni] 46)).heap.size = w.heap.size + 1 := by simp
  have e2 : ((w.alloc (.cells #[.slice Y.A a.sl.length Y.c, .slice Y.A2 a.st.length Y.c2, .int .i64 a.ow, .int .i64 a.cap, .slice Y.A3 a.dl.length Y.c3, .int .i64 a.dir.vn, .slice Y.D.A a.dir.l.length Y.D.c, .slice Y.D.A2 a.dir.F.length Y.D.c2, .int .i64 a.ep, .int .i64 a.ck, .int .i64 a.ni] 46)).alloc (.cells #[.slice A l.cs.length c, .int .i64 l.ph, .int .i64 l.hv, .int .i64 l.tr, .int .i64 l.wt] 28)).heap.size = w.heap.size + 2 := by simp
  have e3 : (((w.alloc (.cells #[.slice Y.A a.sl.length Y.c, .slice Y.A2 a.st.length Y.c2, .int .i64 a.ow, .int .i64 a.cap, .slice Y.A3 a.dl.length Y.c3, .int .i64 a.dir.vn, .slice Y.D.A a.dir.l.length Y.D.c, .slice Y.D.A2 a.dir.F.length Y.D.c2, .int .i64 a.ep, .int .i64 a.ck, .int .i64 a.ni] 46)).alloc (.cells #[.slice A l.cs.length c, .int .i64 l.ph, .int .i64 l.hv, .int .i64 l.tr, .int .i64 l.wt] 28)).alloc (.cells #[.slice none 0 0, .slice none 0 0, .int .i64 0, .int .i64 0, .slice none 0 0, .int .i64 0, .slice none 0 0, .slice none 0 0, .int .i64 0, .int .i64 0, .int .i64 0] 46)).heap.size = w.heap.size + 3 := by simp
  have k1 := LB.start (w.alloc (.cells #[.slice Y.A a.sl.length Y.c, .slice Y.A2 a.st.length Y.c2, .int .i64 a.ow, .int .i64 a.cap, .slice Y.A3 a.dl.length Y.c3, .int .i64 a.dir.vn, .slice Y.D.A a.dir.l.length Y.D.c, .slice Y.D.A2 a.dir.F.length Y.D.c2, .int .i64 a.ep, .int .i64 a.ck, .int .i64 a.ni] 46)) l A c 28
  have k2 := QB.start ((w.alloc (.cells #[.slice Y.A a.sl.length Y.c, .slice Y.A2 a.st.length Y.c2, .int .i64 a.ow, .int .i64 a.cap, .slice Y.A3 a.dl.length Y.c3, .int .i64 a.dir.vn, .slice Y.D.A a.dir.l.length Y.D.c, .slice Y.D.A2 a.dir.F.length Y.D.c2, .int .i64 a.ep, .int .i64 a.ck, .int .i64 a.ni] 46)).alloc (.cells #[.slice A l.cs.length c, .int .i64 l.ph, .int .i64 l.hv, .int .i64 l.tr, .int .i64 l.wt] 28)) zA zAx 46
  have k3 := LB.start (((w.alloc (.cells #[.slice Y.A a.sl.length Y.c, .slice Y.A2 a.st.length Y.c2, .int .i64 a.ow, .int .i64 a.cap, .slice Y.A3 a.dl.length Y.c3, .int .i64 a.dir.vn, .slice Y.D.A a.dir.l.length Y.D.c, .slice Y.D.A2 a.dir.F.length Y.D.c2, .int .i64 a.ep, .int .i64 a.ck, .int .i64 a.ni] 46)).alloc (.cells #[.slice A l.cs.length c, .int .i64 l.ph, .int .i64 l.hv, .int .i64 l.tr, .int .i64 l.wt] 28)).alloc (.cells #[.slice none 0 0, .slice none 0 0, .int .i64 0, .int .i64 0, .slice none 0 0, .int .i64 0, .slice none 0 0, .slice none 0 0, .int .i64 0, .int .i64 0, .int .i64 0] 46)) zK none 0 28
  rw [e1] at k1
  rw [e2] at k2
  rw [e3] at k3
  have o := fun p hp => har.offs (p := p) hp
  have g := fun p hp => rd_off (p := p) hf.rd hp
  exact ⟨(((QB.start w a Y _).alloc _).alloc _).alloc _, (k1.alloc _).alloc _, k2.alloc _, k3, by omega, har.up b4, ⟨o _ (by omega), o _ (by omega), o _ (by omega), o _ (by omega)⟩, hf.up b4, ⟨g _ (by omega), g _ (by omega), g _ (by omega), g _ (by omega)⟩, b4⟩
theorem QB.set11o (h : QB W q a Y) (hp : p ≠ q) (b : Ar) (Z : Ax) : QB (set11 W p b Z) q a Y :=
  ((((((((((h.other (x := ⟨p, 0, none⟩) hp _).other (x := ⟨p, 1, none⟩) hp _).other (x := ⟨p, 2, none⟩) hp _).other (x := ⟨p, 3, none⟩) hp _).other (x := ⟨p, 4, none⟩) hp _).other (x := ⟨p, 5, none⟩) hp _).other (x := ⟨p, 6, none⟩) hp _).other (x := ⟨p, 7, none⟩) hp _).other (x := ⟨p, 8, none⟩) hp _).other (x := ⟨p, 9, none⟩) hp _).other (x := ⟨p, 10, none⟩) hp _
/-- Another arena is stored. -/
theorem Js.setA (h : Js w p q r s a Y l A c W) (hn : Z.nw (s + 1)) (har : AR W W.heap.size b Z) : Js w p q r s b Z l A c (set11 W p b Z) := by
  have hne := h.ne
  exact ⟨h.pb.set b Z, h.qb.set11 (by omega) b Z, h.rb.set11o (by omega) b Z, h.sb.set11 (by omega) b Z, h.ne, (har.set11 (hn.off (by omega)) b Z).more (by rw [set11_size]; exact Nat.le_refl _), ⟨hn.off (by omega), hn.off (by omega), hn.off (by omega), hn.off (by omega)⟩, (h.fl.set11 h.fo.1 b Z).more (by rw [set11_size]; exact Nat.le_refl _), h.fo, set11_below h.bel h.ne.1 b Z⟩
/-- A cell of the locker's box is stored. -/
theorem Js.setC (h : Js w p q r s a Y l A c W) {j : Nat} {v : Value} (hc : m.cs = l.cs) (hq : LB (W.setCell ⟨q, j, none⟩ v) q m A c) : Js w p q r s a Y m A c (W.setCell ⟨q, j, none⟩ v) := by
  have hne := h.ne
  exact ⟨h.pb.other (x := ⟨q, j, none⟩) (show q ≠ p by omega) v, hq, h.rb.other (x := ⟨q, j, none⟩) (show q ≠ r by omega) v, h.sb.other (x := ⟨q, j, none⟩) (show q ≠ s by omega) v, h.ne, (h.ar.offp (q := ⟨q, j, none⟩) h.ao.2.1 v).more (by simp), h.ao, by rw [hc]; exact (h.fl.offb (p := ⟨q, j, none⟩) h.fo.2.1 v).more (by simp), by rw [hc]; exact h.fo, h.bel.setCell (p := ⟨q, j, none⟩) (by show w.heap.size ≤ q; omega) v⟩
/-- Another list of cells is stored. -/
theorem Js.setL (h : Js w p q r s a Y l A c W) (hn : Nw (s + 1) A') (hf : Fl W W.heap.size (.slice A' l.cs.length c') l.cs) : Js w p q r s a Y l A' c' (W.setCell ⟨q, 0, none⟩ (.slice A' l.cs.length c')) := by
  have hne := h.ne
  exact ⟨h.pb.other (x := ⟨q, 0, none⟩) (show q ≠ p by omega) _, h.qb.setA A' c', h.rb.other (x := ⟨q, 0, none⟩) (show q ≠ r by omega) _, h.sb.other (x := ⟨q, 0, none⟩) (show q ≠ s by omega) _, h.ne, (h.ar.offp (q := ⟨q, 0, none⟩) h.ao.2.1 _).more (by simp), h.ao, (hf.offb (p := ⟨q, 0, none⟩) (offb_nw hn (by show q < s + 1; omega)) _).more (by simp), ⟨offb_nw hn (by omega), offb_nw hn (by omega), offb_nw hn (by omega), offb_nw hn (by omega)⟩, h.bel.setCell (p := ⟨q, 0, none⟩) (by show w.heap.size ≤ q; omega) _⟩
/-- A locker of a call is stored. -/
theorem Js.putL (h : Js w p q r s a Y l A c W) (ho : OffB p m.cs.length A' ∧ OffB q m.cs.length A' ∧ OffB r m.cs.length A' ∧ OffB s m.cs.length A') (hf : Fl W W.heap.size (.slice A' m.cs.length c') m.cs) : Js w p q r s a Y m A' c' (set5 W q m A' c') := by
  have hne := h.ne
  exact ⟨h.pb.set5 (by omega) m A' c', h.qb.set m A' c', h.rb.set5 (by omega) m A' c', (h.sb.other (x := ⟨q, 0, none⟩) (show q ≠ s by omega) _).other (x := ⟨q, 1, none⟩) (show q ≠ s by omega) _ |>.other (x := ⟨q, 2, none⟩) (show q ≠ s by omega) _ |>.other (x := ⟨q, 3, none⟩) (show q ≠ s by omega) _ |>.other (x := ⟨q, 4, none⟩) (show q ≠ s by omega) _, h.ne, (h.ar.set5 h.ao.2.1 m A' c').more (by rw [set5_size]; exact Nat.le_refl _), h.ao, (hf.set5 ho.2.1 m A' c').more (by rw [set5_size]; exact Nat.le_refl _), ho, set5_below h.bel (by omega) m A' c'⟩
/-- The results are stored. -/
theorem so_out {A0 : Option Addr} {x : Int} (hr : w.heap.size ≤ r) (hs : w.heap.size ≤ s) (hb : Below w.heap.size w W) (hy : Y.nw w.heap.size) (ho : AOff a Y r ∧ AOff a Y s) (har : AR W W.heap.size a Y) (hn : ∀ lo, Nw lo A0 → Nw lo A) (hf : Fl W W.heap.size (.slice A l.cs.length c) l.cs) (hof : OffB r l.cs.length A ∧ OffB s l.cs.length A) : SE13o A0 w a l x (.returned (.tuple #[av a Y, lv l A c, .int .i64 x])) (Go.Proofs.Ytommkhjgockpfaa.set5 (Go.Proofs.Ytommkhjgockpfaa.set11 W r a Y) s l A c) :=
  ⟨Y, A, c, rfl, hy, hn, ((har.set11 ho.1 a Y).set5 ho.2 l A c).more (by rw [set5_size, set11_size]; exact Nat.le_refl _), ((hf.set11 hof.1 a Y).set5 hof.2 l A c).more (by rw [set5_size, set11_size]; exact Nat.le_refl _), set5_below (set11_below hb hr a Y) hs l A c⟩
theorem se13_out {x : Int} (hr : w.heap.size ≤ r) (hs : w.heap.size ≤ s) (hb : Below w.heap.size w W) (hy : Y.nw w.heap.size) (ho : AOff a Y r ∧ AOff a Y s) (har : AR W W.heap.size a Y) (hn : Nw w.heap.size A) (hf : Fl W W.heap.size (.slice A l.cs.length c) l.cs) (hof : OffB r l.cs.length A ∧ OffB s l.cs.length A) : SE13 w a l x (.returned (.tuple #[av a Y, lv l A c, .int .i64 x])) (Go.Proofs.Ytommkhjgockpfaa.set5 (Go.Proofs.Ytommkhjgockpfaa.set11 W r a Y) s l A c) :=
  ⟨Y, A, c, rfl, hy, hn, ((har.set11 ho.1 a Y).set5 ho.2 l A c).more (by rw [set5_size, set11_size]; exact Nat.le_refl _), ((hf.set11 hof.1 a Y).set5 hof.2 l A c).more (by rw [set5_size, set11_size]; exact Nat.le_refl _), set5_below (set11_below hb hr a Y) hs l A c⟩
theorem SE13o.drew {A0 : Option Addr} {x : Int} {e : Ending} (h : SE13o A0 w a l x e W) : SE13o A0 w a l x e W.drew := by
  obtain ⟨Y, A', c', rfl, h1, h2, h3, h4, h5⟩ := h
  have hd := (Below.refl W.heap.size W).drew
  exact ⟨Y, A', c', rfl, h1, h2, h3.up hd, h4.up hd, h5.trans (hd.mono h5.size)⟩
theorem SE13.drew {x : Int} {e : Ending} (h : SE13 w a l x e W) : SE13 w a l x e W.drew := by
  obtain ⟨Y, A', c', rfl, h1, h2, h3, h4, h5⟩ := h
  have hd := (Below.refl W.heap.size W).drew
  exact ⟨Y, A', c', rfl, h1, h2, h3.up hd, h4.up hd, h5.trans (hd.mono h5.size)⟩
theorem aoff_z (p : Nat) : AOff zA zAx p := (zAx_nw (p + 1)).off (Nat.lt_succ_self p)
theorem offb_0 (p : Nat) (A : Option Addr) : OffB p 0 A := fun h => absurd h (Nat.lt_irrefl 0)
/-- The cells of the two boxes. -/
abbrev C16 (p q : Nat) (a : Ar) (Y : Ax) (l : Lk) (A : Option Addr) (c : Nat) (W : World) : Prop := K11 p a Y W ∧ K5l W q l A c
theorem Js.cl (h : Js w p q r s a Y l A c W) : C16 p q a Y l A c W := ⟨h.pb.k, h.qb.k⟩
end
end Go.Proofs.Ytommkhjgockpfaa
namespace Go.Proofs.Ytommkhjgockpfaa
open Go.RowKit
set_option linter.unusedVariables false

/-- Two boxes of one locker. -/
structure Tw13 (w : World) (p q : Nat) (l : Lk) (A A' : Option Addr) (c c' : Nat) (W : World) : Prop where
  a : LB W p l A c
  b : LB W q l A' c'
  ra : Fl W W.heap.size (.slice A l.cs.length c) l.cs
  rb : Fl W W.heap.size (.slice A' l.cs.length c') l.cs
  bel : Below w.heap.size w W
section
variable {w W W' : World} {p q : Nat} {l : Lk} {A A' : Option Addr} {c c' : Nat}
theorem Tw13.up (h : Tw13 w p q l A A' c c' W) (hb : Below W.heap.size W W') : Tw13 w p q l A A' c c' W' := ⟨h.a.up hb, h.b.up hb, h.ra.up hb, h.rb.up hb, h.bel.trans (hb.mono h.bel.size)⟩
theorem Tw13.start (ha : Fl w w.heap.size (.slice A l.cs.length c) l.cs) (hb : Fl w w.heap.size (.slice A' l.cs.length c') l.cs) : Tw13 w w.heap.size (w.heap.size + 1) l A A' c c' ((w.alloc (.cells #[.slice A l.cs.length c, .int .i64 l.ph, .int .i64 l.hv, .int .i64 l.tr, .int .i64 l.wt] 28)).alloc (.cells #[.slice A' l.cs.length c', .int .i64 l.ph, .int .i64 l.hv, .int .i64 l.tr, .int .i64 l.wt] 28)) := by
  have h1 := LB.start (w.alloc (.cells #[.slice A l.cs.length c, .int .i64 l.ph, .int .i64 l.hv, .int .i64 l.tr, .int .i64 l.wt] 28)) l A' c' 28
  rw [show (w.alloc (.cells #[.slice A l.cs.length c, .int .i64 l.ph, .int .i64 l.hv, .int .i64 l.tr, .int .i64 l.wt] 28)).heap.size = w.heap.size + 1 by simp] at h1
  exact ⟨(LB.start w l A c _).alloc _, h1, (ha.alloc2 _).alloc2 _, (hb.alloc2 _).alloc2 _, ((Below.refl _ _).alloc (Nat.le_refl _) _).alloc (by simp) _⟩
end
end Go.Proofs.Ytommkhjgockpfaa
namespace Go.Proofs.Ytommkhjgockpfaa
open Go.RowKit
set_option linter.unusedVariables false

set_option maxHeartbeats 2000000 in
set_option maxRecDepth 20000 in
theorem rowner12_any (a : Ar) (Y : Ax) (n : Nat) (w : World) (har : AR w w.heap.size a Y) (hn : n ≤ a.sl.length) : Calls Try.prog 23 #[av a Y, .int .i64 (n : Int)] w fun e w' => e = .returned (.int .i64 (a.own n)) ∧ Below w.heap.size w w' := by
  have HB := Lib.hid (QB.start w a Y 46)
  have HW := Lib.hid ((Below.refl w.heap.size w).alloc (Nat.le_refl _) (.cells #[.slice Y.A a.sl.length Y.c, .slice Y.A2 a.st.length Y.c2, .int .i64 a.ow, .int .i64 a.cap, .slice Y.A3 a.dl.length Y.c3, .int .i64 a.dir.vn, .slice Y.D.A a.dir.l.length Y.D.c, .slice Y.D.A2 a.dir.F.length Y.D.c2, .int .i64 a.ep, .int .i64 a.ck, .int .i64 a.ni] 46))
  have HR := Lib.hid (har.alloc (.cells #[.slice Y.A a.sl.length Y.c, .slice Y.A2 a.st.length Y.c2, .int .i64 a.ow, .int .i64 a.cap, .slice Y.A3 a.dl.length Y.c3, .int .i64 a.dir.vn, .slice Y.D.A a.dir.l.length Y.D.c, .slice Y.D.A2 a.dir.F.length Y.D.c2, .int .i64 a.ep, .int .i64 a.ck, .int .i64 a.ni] 46))
  by_cases hl : n = a.sl.length
  · have HX := Lib.hid (show a.own n = a.ow from if_pos hl)
    have hb : ((n : Int) == (a.sl.length : Int)) = true := by simp [hl]
    clear hl hn har
    go_enter Try.func23, Try.ntmps23
    obtain ⟨y0, y1, y2, y3, y4, y5, y6, y7, y8, y9, y10⟩ := HB.out.k
    have yl := HB.out.lt
    go_wp2
    go_ret
    exact ⟨by rw [HX.out]; rfl, HW.out⟩
  · have hlt : n < a.sl.length := by omega
    have HX := Lib.hid (show a.own n = (og a.sl n).ow from if_neg hl)
    have hb : ((n : Int) == (a.sl.length : Int)) = false := beq_eq_false_iff_ne.2 (by omega)
    have HLT := Lib.hid hlt
    clear hl hn har
    go_enter Try.func23, Try.ntmps23
    obtain ⟨y0, y1, y2, y3, y4, y5, y6, y7, y8, y9, y10⟩ := HB.out.k
    have yl := HB.out.lt
    go_upto_region 1 with (fail)
    generalize (w.alloc (.cells #[.slice Y.A a.sl.length Y.c, .slice Y.A2 a.st.length Y.c2, .int .i64 a.ow, .int .i64 a.cap, .slice Y.A3 a.dl.length Y.c3, .int .i64 a.dir.vn, .slice Y.D.A a.dir.l.length Y.D.c, .slice Y.D.A2 a.dir.F.length Y.D.c2, .int .i64 a.ep, .int .i64 a.ck, .int .i64 a.ni] 46)) = w1 at *
    obtain ⟨D, b, o, hA, hbb, h9, -, -⟩ := HR.out.at2 HLT.out
    have h0 := h9.1
    generalize og a.sl n = TT at *
    simp only at h0
    rw [hA] at y0
    clear hA HR h9
    go_wp2
    go_ret
    exact ⟨by rw [HX.out]; rfl, HW.out⟩
section
variable {w W W' : World} {p r b : Nat} {a : Ar} {Y : Ax}
end
end Go.Proofs.Ytommkhjgockpfaa
