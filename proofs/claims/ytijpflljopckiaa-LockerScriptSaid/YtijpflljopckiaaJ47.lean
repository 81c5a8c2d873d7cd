/- What is proved here: Jd2; More of the statements' base. -/
import Derived.Test.YtijpflljopckiaaJ46
import Derived.Deep.DeepCutAuto
import Derived.Deep.RegionHeld3
import Derived.Test.YtijpflljopckiaaJ13
/- Plain: two rows of lockers begin; what boxes keep behind an append. -/
namespace Go.Proofs.Ytijpflljopckiaa
open Go.RowKit
set_option linter.unusedVariables false

theorem LB.grownN {W W' : World} {q : Nat} {l : Lk} {A : Option Addr} {c : Nat} {g : Option Nat} (h : LB W q l A c) (hg : W.grownBy W' g) (hne : ∀ x, g = some x → q ≠ x) : LB W' q l A c := by
  cases g with
  | none => exact h.up ((Below.refl _ _).grown hg (Nat.le_refl _) (fun k e => by cases e))
  | some x => exact h.grown hg (hne x rfl)
theorem Jd1.of {w W : World} {g pa : Nat} {a : Ar} {Y : Ax} (h : Jb1 w g pa a Y none 0 [] W) : Jd1 w g pa W.heap.size a Y Y none none 0 0 [] [] (W.alloc (.cells #[.slice Y.A a.sl.length Y.c, .slice Y.A2 a.st.length Y.c2, .int .i64 a.ow, .int .i64 a.cap, .slice Y.A3 a.dl.length Y.c3, .int .i64 a.dir.vn, .slice Y.D.A a.dir.l.length Y.D.c, .slice Y.D.A2 a.dir.F.length Y.D.c2, .int .i64 a.ep, .int .i64 a.ck, .int .i64 a.ni] 36)) := by
  have hal := (Below.refl W.heap.size W).alloc (Nat.le_refl _) (.cells #[.slice Y.A a.sl.length Y.c, .slice Y.A2 a.st.length Y.c2, .int .i64 a.ow, .int .i64 a.cap, .slice Y.A3 a.dl.length Y.c3, .int .i64 a.dir.vn, .slice Y.D.A a.dir.l.length Y.D.c, .slice Y.D.A2 a.dir.F.length Y.D.c2, .int .i64 a.ep, .int .i64 a.ck, .int .i64 a.ni] 36)
  have hp := h.qb.lt
  have ho : ∀ q ∈ [g, pa, W.heap.size], AOff a Y q := fun q hq => by
    simp only [List.mem_cons, List.not_mem_nil, or_false] at hq
    rcases hq with rfl | rfl | rfl
    · exact h.ao.2
    · exact h.ao.1
    · exact h.ar.offs (Nat.le_refl _)
  exact ⟨h.src.below hal, h.qb.alloc _, QB.start W a Y _, h.ar.alloc _, h.ar.alloc _, ho, ho, World.ownsRow_nil _ _ _ _, World.ownsRow_nil _ _ _ _, fun t ht => absurd ht (by simp), fun t ht => absurd ht (by simp), fun b e => by simp [Value.ownBlock] at e, fun b e => by simp [Value.ownBlock] at e, ⟨h.ne.1, h.ne.2, hp⟩, h.bel.alloc h.bel.size _⟩
/-- A new locker's cells lie in none of the blocks that are written. -/
theorem Lz.of {w W0 W W' : World} {g pa pb : Nat} {a : Ar} {Y V : Ax} {A A2 A4 : Option Addr} {c c2 c4 : Nat} {Q K : List Lc} {l : Lk} (h : Jd1 w g pa pb a Y V A A2 c c2 Q K W0) (hf : Fl W' W'.heap.size (.slice A4 l.cs.length c4) l.cs) (hn : Nw W.heap.size A4) (hs : W0.heap.size ≤ W.heap.size) : Lz g pa pb A A2 Q.length K.length c c2 ⟨l, A4, c4⟩ W' := by
  have h1 := h.src.2.1
  have h2 := h.qa.lt
  have h3 := h.qb.lt
  refine ⟨⟨hf, fun q hq => ?_⟩, fun b e => offb_nw hn (by have := (h.o1.lt b e).2; omega), fun b e => offb_nw hn (by have := (h.o2.lt b e).2; omega)⟩
  simp only [List.mem_cons, List.not_mem_nil, or_false] at hq
  rcases hq with rfl | rfl | rfl <;> exact offb_nw hn (by omega)
/-- All that region 15 needs of its world. -/
structure Jr15 (w : World) (g pa pb x y : Nat) (a : Ar) (Y V : Ax) (A A2 : Option Addr) (c c2 : Nat) (Q K : List Lc) (t s : Lc) (W : World) : Prop where
  j : Jd1 w g pa pb a Y V A A2 c c2 Q K W
  lt : Lz g pa pb A A2 Q.length K.length c c2 t W
  ls : Lz g pa pb A A2 Q.length K.length c c2 s W
  xb : LB W x t.l t.A t.c
  yb : LB W y s.l s.A s.c
  o1 : ∀ b, (Value.slice A Q.length c).ownBlock = some b → x ≠ b ∧ y ≠ b
  o2 : ∀ b, (Value.slice A2 K.length c2).ownBlock = some b → x ≠ b ∧ y ≠ b
section
variable {w W W' : World} {g pa pb x y : Nat} {a : Ar} {Y V : Ax} {A A2 : Option Addr} {c c2 : Nat} {Q K : List Lc} {t s : Lc} {g1 c1 : Nat}
theorem Jr15.below (h : Jr15 w g pa pb x y a Y V A A2 c c2 Q K t s W) (hb : Below W.heap.size W W') : Jr15 w g pa pb x y a Y V A A2 c c2 Q K t s W' := ⟨h.j.below hb, h.lt.below hb, h.ls.below hb, h.xb.up hb, h.yb.up hb, h.o1, h.o2⟩
/-- Behind the first append: the other locker, the boxes. -/
structure Jp15 (w : World) (g pa pb x y : Nat) (a : Ar) (Y V : Ax) (A A2 : Option Addr) (c c2 : Nat) (Q K : List Lc) (t s r : Lc) (W : World) : Prop where
  j : Jd1 w g pa pb a Y V A A2 c c2 Q K W
  lr : Lz g pa pb A A2 Q.length K.length c c2 r W
  xb : LB W x t.l t.A t.c
  yb : LB W y s.l s.A s.c
theorem Jp15.below {r : Lc} (h : Jp15 w g pa pb x y a Y V A A2 c c2 Q K t s r W) (hb : Below W.heap.size W W') : Jp15 w g pa pb x y a Y V A A2 c c2 Q K t s r W' := ⟨h.j.below hb, h.lr.below hb, h.xb.up hb, h.yb.up hb⟩
theorem Jr15.p (h : Jr15 w g pa pb x y a Y V A A2 c c2 Q K t s W) (hown : W'.ownsRow (pb + 1) 60 5 (.slice (some ⟨g1, 0, none⟩) (Q.length + 1) c1) (Q.length + 1) (kcs Q ++ t.v)) (hg : W.grownBy W' (Value.slice A Q.length c).ownBlock) (hat : (Value.slice A Q.length c).ownBlock = some g1 ∨ g1 = W.heap.size) :
    Jp15 w g pa pb x y a Y V (some ⟨g1, 0, none⟩) A2 c1 c2 (Q ++ [t]) K t s s W' :=
  ⟨h.j.app1 h.lt hown hg hat, by rw [show (Q ++ [t]).length = Q.length + 1 by simp]; exact Lz.app1 h.j h.ls hg hat, h.xb.grownN hg (fun b e => (h.o1 b e).1), h.yb.grownN hg (fun b e => (h.o1 b e).2)⟩
theorem Jr15.q (h : Jr15 w g pa pb x y a Y V A A2 c c2 Q K t s W) (hown : W'.ownsRow (pb + 1) 60 5 (.slice (some ⟨g1, 0, none⟩) (K.length + 1) c1) (K.length + 1) (kcs K ++ s.v)) (hg : W.grownBy W' (Value.slice A2 K.length c2).ownBlock) (hat : (Value.slice A2 K.length c2).ownBlock = some g1 ∨ g1 = W.heap.size) :
    Jp15 w g pa pb x y a Y V A (some ⟨g1, 0, none⟩) c c1 Q (K ++ [s]) t s t W' :=
  ⟨h.j.app2 h.ls hown hg hat, by rw [show (K ++ [s]).length = K.length + 1 by simp]; exact Lz.app2 h.j h.lt hg hat, h.xb.grownN hg (fun b e => (h.o2 b e).1), h.yb.grownN hg (fun b e => (h.o2 b e).2)⟩
theorem Ns13.p {B : Nat} (n : Ns13 W B s) (h : Jr15 w g pa pb x y a Y V A A2 c c2 Q K t s W) (hx : x < B) (hob : ∀ b, (Value.slice A Q.length c).ownBlock = some b → b < x) (hg : W.grownBy W' (Value.slice A Q.length c).ownBlock) : Ns13 W' B s := n.grown hg (fun e => by have := hob B e; omega)
end
end Go.Proofs.Ytijpflljopckiaa
namespace Go.Proofs.Ytijpflljopckiaa
open Go.RowKit
set_option linter.unusedVariables false

/-- A yes or no of a source. -/
def SrBool (B g : Nat) (w : World) (e : Ending) (w' : World) : Prop := ∃ b : Bool, e = .returned (.bool b) ∧ SrcAt w' B g ∧ w.grownBy w' (some g)
set_option maxHeartbeats 2000000 in
theorem more_any (B g : Nat) (w : World) (h : SrcAt w B g) : Calls Try.prog 21 #[.pointer (some ⟨g, 0, none⟩)] w (SrBool B g w) := by
  have H := Lib.hid h
  obtain ⟨hB, hg, A, n, c, k, zs, a1, a2, a3, a4, a5, a6, a7, a8, a9⟩ := h
  have HK := Lib.hid (show ∀ b : Bool, decide ((k : Int) < (n : Int)) = b → True from fun _ _ => trivial)
  clear hB hg a2 a3 a4 a8 a9
  go_enter Try.func21, Try.ntmps21
  go_wp2
  go_quiet (fail)
  go_wp2
  go_ret
  exact ⟨_, rfl, H.out.drewN _, only_drewN (World.grownBy.refl _ _) _⟩
end Go.Proofs.Ytijpflljopckiaa
