/- What is proved here: what shardqueuelaw07.ShardLeases reads; (plain) what the laws of stage 11 keep in memory beside a source; Stripes of the statements' base; what a source and a row of stripes keep; RingOf of the statements' base makes a valid ring whose messages have routes of the span and low counts. -/
import Derived.Test.YtdilgeabcacbdaaGreatJ32
import Derived.Test.YtdilgeabcacbdaaGreatJ39
import Derived.Test.YtdilgeabcacbdaaGreatJ42
import Derived.Test.YtdilgeabcacbdaaGreatJ29
import Derived.Test.YtdilgeabcacbdaaGreatJ38
import Derived.Deep.AppendLies
namespace Go.Proofs.YtdilgeabcacbdaaGreat
open Go.RowKit
set_option linter.unusedVariables false

theorem SAt.grownG {w W W' : World} {p g : Nat} {S : Sh} {D : Sx} (h : SAt w p S D W) (hg : W.grownBy W' (some g)) (ho : SOff S D g) (hne : p ≠ g) (hB : w.heap.size ≤ g) : SAt w p S D W' :=
  ⟨h.s8.grownG hg hne, ⟨(h.sr.ls.grownR (Nat.le_refl _) hg (fun q e => by injection e with e; subst e; exact ho.o1)).more hg.size, (h.sr.el.grownR (Nat.le_refl _) hg (fun q e => by injection e with e; subst e; exact ho.o2)).more hg.size, (h.sr.dl.grownR (Nat.le_refl _) hg (fun q e => by injection e with e; subst e; exact ho.o3)).more hg.size⟩, h.off,
   h.bel.grown hg h.bel.size (fun x e => by injection e with e; omega), h.old⟩
/-- The numbers that were drawn lie in block d. -/
structure D5 (W : World) (d : Nat) (mx now vis ep lim : Int) : Prop where
  c0 : W.cell? ⟨d, 0, none⟩ = some (.int .i64 mx)
  c1 : W.cell? ⟨d, 1, none⟩ = some (.int .i64 now)
  c2 : W.cell? ⟨d, 2, none⟩ = some (.int .i64 vis)
  c3 : W.cell? ⟨d, 3, none⟩ = some (.int .i64 ep)
  c4 : W.cell? ⟨d, 4, none⟩ = some (.int .i64 lim)
  lt : d < W.heap.size
theorem D5.up {W W' : World} {d : Nat} {mx now vis ep lim : Int} (h : D5 W d mx now vis ep lim) (hb : Below W.heap.size W W') : D5 W' d mx now vis ep lim :=
  ⟨(hb.cell (p := ⟨d, 0, none⟩) h.lt).trans h.c0, (hb.cell (p := ⟨d, 1, none⟩) h.lt).trans h.c1, (hb.cell (p := ⟨d, 2, none⟩) h.lt).trans h.c2, (hb.cell (p := ⟨d, 3, none⟩) h.lt).trans h.c3, (hb.cell (p := ⟨d, 4, none⟩) h.lt).trans h.c4, Nat.lt_of_lt_of_le h.lt hb.size⟩
theorem D5.start (w : World) (mx now vis ep lim a b c : Int) (t : TypeId) : D5 (w.alloc (.cells #[.int .i64 mx, .int .i64 now, .int .i64 vis, .int .i64 ep, .int .i64 lim, .int .i64 a, .int .i64 b, .int .i64 c] t)) w.heap.size mx now vis ep lim :=
  ⟨by simp [go_sem], by simp [go_sem], by simp [go_sem], by simp [go_sem], by simp [go_sem], by simp⟩
/-- Block q holds a handle, and may be written. -/
def H4f (W : World) (q : Nat) (H : Hn) : Prop := H4 W q H ∧ ∀ o, W.frozen? ⟨q, o, none⟩ = false
theorem H4f.up {W W' : World} {q : Nat} {H : Hn} (h : H4f W q H) (hb : Below W.heap.size W W') : H4f W' q H := ⟨h.1.up hb, fun o => (hb.frozen (p := ⟨q, o, none⟩) h.1.2.2.2.2).trans (h.2 o)⟩
theorem h4_drew {W : World} {q : Nat} {H : Hn} (h : H4f W q H) : H4f W.drew q H := h.up (Below.refl _ _).drew
theorem h4_new (w : World) (t : TypeId) (i g r : Int) : H4f (w.alloc (.cells #[.int .i64 i, .int .i64 g, .int .i64 r, .int .i64 0] t)) w.heap.size ⟨i, g, r, 0⟩ :=
  ⟨H4.start w ⟨i, g, r, 0⟩ t, fun o => by simp [go_sem]⟩
theorem h4_two {W : World} {a z : Nat} {i g r x y : Int} (ha : H4 W a ⟨i, g, r, 0⟩) (hz : H4 W z ⟨i, g, r, 0⟩) (h1 : ¬ a = z) (h2 : ¬ z = a) : H4 ((W.setCell ⟨a, 1, none⟩ (.int .i64 x)).setCell ⟨z, 2, none⟩ (.int .i64 y)) a ⟨i, x, r, 0⟩ ∧ H4 ((W.setCell ⟨a, 1, none⟩ (.int .i64 x)).setCell ⟨z, 2, none⟩ (.int .i64 y)) z ⟨i, g, y, 0⟩ := by
  obtain ⟨a0, a1, a2, a3, al⟩ := ha
  obtain ⟨z0, z1, z2, z3, zl⟩ := hz
  simp only at a0 a1 a2 a3 z0 z1 z2 z3
  refine ⟨⟨?_, ?_, ?_, ?_, ?_⟩, ⟨?_, ?_, ?_, ?_, ?_⟩⟩ <;> simp [go_sem, a0, a1, a2, a3, al, z0, z1, z2, z3, zl]
/-- What the loop keeps: the shard, the draw, what Take made of the shard, the leases. -/
structure LwAt (w : World) (p d s : Nat) (S T : Sh) (D E : Sx) (mx now vis ep lim : Int) (A : Option Addr) (c : Nat) (K : List Le) (W : World) : Prop where
  sa : SAt w p S D W
  sb : SAt w s T E W
  d5 : D5 W d mx now vis ep lim
  el : El W W.heap.size (.slice A K.length c) K
theorem LwAt.below {w W W' : World} {p d s c : Nat} {S T : Sh} {D E : Sx} {mx now vis ep lim : Int} {A : Option Addr} {K : List Le} (h : LwAt w p d s S T D E mx now vis ep lim A c K W) (hb : Below W.heap.size W W') : LwAt w p d s S T D E mx now vis ep lim A c K W' :=
  ⟨h.sa.below hb, h.sb.below hb, h.d5.up hb, (h.el.below hb).more hb.size⟩
/-- What a round of the loop keeps: that, the handle, the older one, the newer one. -/
structure LuAt (w : World) (p d s q a z : Nat) (S T : Sh) (D E : Sx) (mx now vis ep lim i g r x y : Int) (A : Option Addr) (c : Nat) (K : List Le) (W : World) : Prop where
  lw : LwAt w p d s S T D E mx now vis ep lim A c K W
  hq : H4 W q ⟨i, g, r, 0⟩
  ha : H4 W a ⟨i, x, r, 0⟩
  hz : H4 W z ⟨i, g, y, 0⟩
theorem LuAt.below {w W W' : World} {p d s q a z c : Nat} {S T : Sh} {D E : Sx} {mx now vis ep lim i g r x y : Int} {A : Option Addr} {K : List Le} (h : LuAt w p d s q a z S T D E mx now vis ep lim i g r x y A c K W) (hb : Below W.heap.size W W') : LuAt w p d s q a z S T D E mx now vis ep lim i g r x y A c K W' :=
  ⟨h.lw.below hb, h.hq.up hb, h.ha.up hb, h.hz.up hb⟩
/-- What is kept once Ack and Nack were tried. -/
structure LzAt (w : World) (p d s q a z u v : Nat) (S T F1 F2 : Sh) (D E D3 D4 : Sx) (mx now vis ep lim i g r x y : Int) (A : Option Addr) (c : Nat) (K : List Le) (W : World) : Prop where
  lu : LuAt w p d s q a z S T D E mx now vis ep lim i g r x y A c K W
  s1 : SAt w u F1 D3 W
  s2 : SAt w v F2 D4 W
abbrev LzK (d s q u v : Nat) (T F1 F2 : Sh) (E D3 D4 : Sx) (now ep i g r : Int) (W : World) : Prop := K8 u F1 D3 W ∧ K8 v F2 D4 W ∧ K8 s T E W ∧ W.cell? ⟨q, 0, none⟩ = some (.int .i64 i) ∧ W.cell? ⟨q, 1, none⟩ = some (.int .i64 g) ∧ W.cell? ⟨q, 2, none⟩ = some (.int .i64 r) ∧ W.cell? ⟨q, 3, none⟩ = some (.int .i64 0) ∧ W.cell? ⟨d, 1, none⟩ = some (.int .i64 now) ∧ W.cell? ⟨d, 3, none⟩ = some (.int .i64 ep)
section
variable {w W W' : World} {p d s q a z u v c : Nat} {S T F1 F2 : Sh} {D E D3 D4 : Sx} {mx now vis ep lim i g r x y : Int} {A : Option Addr} {K : List Le}
theorem LzAt.below (h : LzAt w p d s q a z u v S T F1 F2 D E D3 D4 mx now vis ep lim i g r x y A c K W) (hb : Below W.heap.size W W') : LzAt w p d s q a z u v S T F1 F2 D E D3 D4 mx now vis ep lim i g r x y A c K W' := ⟨h.lu.below hb, h.s1.below hb, h.s2.below hb⟩
theorem LzAt.k (h : LzAt w p d s q a z u v S T F1 F2 D E D3 D4 mx now vis ep lim i g r x y A c K W) : LzK d s q u v T F1 F2 E D3 D4 now ep i g r W := ⟨h.s1.k8, h.s2.k8, h.lu.lw.sb.k8, h.lu.hq.1, h.lu.hq.2.1, h.lu.hq.2.2.1, h.lu.hq.2.2.2.1, h.lu.lw.d5.c1, h.lu.lw.d5.c3⟩
end
end Go.Proofs.YtdilgeabcacbdaaGreat
namespace Go.Proofs.YtdilgeabcacbdaaGreat
open Go.RowKit
set_option linter.unusedVariables false

theorem YT.grownG {W W' : World} {r g : Nat} {T : St} (h : YT W r T) (hg : W.grownBy W' (some g)) (hne : r ≠ g) : YT W' r T :=
  ⟨⟨(hg.cell_far ⟨r, 0, none⟩ h.2 (fun e => by injection e with e; exact hne e)).trans h.1.1, (hg.cell_far ⟨r, 1, none⟩ h.2 (fun e => by injection e with e; exact hne e)).trans h.1.2.1, (hg.cell_far ⟨r, 2, none⟩ h.2 (fun e => by injection e with e; exact hne e)).trans h.1.2.2.1, (hg.cell_far ⟨r, 3, none⟩ h.2 (fun e => by injection e with e; exact hne e)).trans h.1.2.2.2⟩, Nat.lt_of_lt_of_le h.2 hg.size⟩
theorem SR.grownS {W W' : World} {g : Nat} {S : Sh} {D : Sx} (h : SR W W.heap.size S D) (hg : W.grownBy W' (some g)) (ho : SOff S D g) : SR W' W'.heap.size S D :=
  ⟨(h.ls.grownR (Nat.le_refl _) hg (fun q e => by injection e with e; subst e; exact ho.o1)).more hg.size, (h.el.grownR (Nat.le_refl _) hg (fun q e => by injection e with e; subst e; exact ho.o2)).more hg.size, (h.dl.grownR (Nat.le_refl _) hg (fun q e => by injection e with e; subst e; exact ho.o3)).more hg.size⟩
theorem SrSh.va {S : Sh} (h : SrSh S) : shV S = 0 := by
  rcases h with ⟨V, k, rfl⟩ | ⟨k, h1, h2, rfl⟩
  · exact k.va
  · exact fr_va h1 h2
/-- Two boxes of stripes become a row of their own. -/
theorem quB_two (a b : St) : quB [a, b] = (evB a.sq && evB b.sq) := by simp [quB, evB]
end Go.Proofs.YtdilgeabcacbdaaGreat
namespace Go.Proofs.YtdilgeabcacbdaaGreat
open Go.RowKit
set_option linter.unusedVariables false

theorem info_st : (Tryz.prog.info? 28).map (fun i => (i.zero, i.size, i.bytes)) = some (some (St.v zSt), 4, 32) := by kernel_rfl
theorem own_farT {W W' : World} {base size n : Nat} {ob : Option Nat} {t : TypeId} {v : Value} {xs : List Value} (h : W.ownsRow base t size v n xs) (hg : W.grownBy W' ob) (hne : ∀ k, v.ownBlock = some k → ob ≠ some k) : W'.ownsRow base t size v n xs :=
  ⟨h.1, h.2.imp_right fun ⟨k, cap, cur, hv, hk, hh, rr⟩ => ⟨k, cap, cur, hv, hk, (hg.block k (Array.getElem?_eq_some_iff.1 hh).1 (by
    have := hne k (by rw [hv]; rfl)
    exact fun e => this e.symm)).trans hh, rr⟩⟩
theorem own_upT {W W' : World} {base size n : Nat} {t : TypeId} {v : Value} {xs : List Value} (h : W.ownsRow base t size v n xs) (hb : Below W.heap.size W W') : W'.ownsRow base t size v n xs :=
  ⟨h.1, h.2.imp_right fun ⟨k, cap, cur, hv, hk, hh, rr⟩ => ⟨k, cap, cur, hv, hk, (hb.block k (Array.getElem?_eq_some_iff.1 hh).1).trans hh, rr⟩⟩
/-- A source and a row of stripes that may be appended to. -/
structure YW (w : World) (B g : Nat) (A : Option Addr) (c : Nat) (l : List St) (W : World) : Prop where
  src : SrcAt W B g
  own : W.ownsRow w.heap.size 28 4 (.slice A l.length c) l.length (tcs l)
  grow : w.grownBy W (some g)
  gl : g < w.heap.size
section
variable {w W W' : World} {B g c : Nat} {A : Option Addr} {l : List St}
theorem YW.start (h : SrcAt w B g) : YW w B g none 0 [] w := ⟨h, World.ownsRow_nil _ _ _ _, World.grownBy.refl _ _, h.2.1⟩
theorem YW.turn (h : YW w B g A c l W) (hs : SrcAt W' B g) (hg : W.grownBy W' (some g)) : YW w B g A c l W' :=
  ⟨hs, own_farT h.own hg (fun k hk e => by injection e with e; have := (h.own.lt k hk).1; have := h.gl; omega), h.grow.trans hg, h.gl⟩
theorem YW.below (h : YW w B g A c l W) (hb : Below W.heap.size W W') : YW w B g A c l W' :=
  ⟨h.src.below hb, own_upT h.own hb, only_below h.grow hb, h.gl⟩
theorem YW.alloc (h : YW w B g A c l W) (o : Obj) : YW w B g A c l (W.alloc o) := h.below ((Below.refl _ _).alloc (Nat.le_refl _) o)
theorem YW.app (h : YW w B g A c l W) {S : St} {A1 : Option Addr} {c1 : Nat} (ho : W'.ownsRow w.heap.size 28 4 (.slice A1 (l.length + 1) c1) (l.length + 1) (tcs l ++ S.l)) (hg : W.grownBy W' (Value.ownBlock (.slice A l.length c))) : YW w B g A1 c1 (l ++ [S]) W' := by
  have hlt : ∀ x, Value.ownBlock (.slice A l.length c) = some x → w.heap.size ≤ x := fun x e => (h.own.lt x e).1
  have hgl := h.gl
  have hB := h.src.1
  have hs : SrcAt W' B g := by
    refine h.src.keep hg.size (fun o => hg.cell_far ⟨g, o, none⟩ h.src.2.1 (fun e => by have := hlt g e.symm; omega)) (fun o => hg.frozen_far ⟨g, o, none⟩ h.src.2.1 (fun e => by have := hlt g e.symm; omega)) (fun x hx => hg.cell_far x (by have := h.src.2.1; omega) (fun e => by have := hlt _ e.symm; omega))
  have hw : w.grownBy W' (some g) := by
    refine ⟨hg.os.trans h.grow.os, hg.tape.trans h.grow.tape, hg.output.trans h.grow.output, Nat.le_trans h.grow.size hg.size, fun x hx hne => ?_⟩
    rw [hg.block x (Nat.lt_of_lt_of_le hx h.grow.size) (fun e => by have := hlt x e.symm; omega), h.grow.block x hx hne]
  have e1 : (l ++ [S]).length = l.length + 1 := by simp
  have e2 : tcs (l ++ [S]) = tcs l ++ S.l := by rw [tcs_app, tcs_one1]
  exact ⟨hs, by rw [e1, e2]; exact ho, hw, hgl⟩
theorem YW.tl (h : YW w B g A c l W) : Tl W W.heap.size (.slice A l.length c) l := Tl.of_own h.own
end
theorem row_ints (w : World) (zs : List Int) (t : TypeId) : ∀ j (hj : j < zs.length), (w.alloc (.cells (zs.map i64v).toArray t)).cell? ⟨w.heap.size, j, none⟩ = some (.int .i64 zs[j]) := by
  intro j hj
  rw [World.cell?_alloc_new]
  simp [hj, i64v]
theorem Tl.grownT {W W' : World} {g n c : Nat} {A : Option Addr} {l : List St} (h : Tl W W.heap.size (.slice A n c) l) (hg : W.grownBy W' (some g)) (ho : ∀ a, A = some a → a.block ≠ g) : Tl W' W'.heap.size (.slice A n c) l := by
  obtain ⟨h1, h2, h3⟩ := h.len
  subst h1
  refine Tl.more ⟨A, c, rfl, h2, h3, h.rd.1, fun hn => ?_⟩ hg.size
  obtain ⟨b, o, e, hb, hc⟩ := h.rd.2 hn
  have := ho _ e
  exact ⟨b, o, e, hb, fun j u hu => (hg.cell_far ⟨b, o + j, none⟩ hb (fun e => by injection e with e; exact this e)).trans (hc j u hu)⟩
/-- Stripes that a source has made. -/
def SrStr (B g : Nat) (w : World) (e : Ending) (w' : World) : Prop := ∃ A c l, e = .returned (.slice A l.length c) ∧ l.length ≤ 4 ∧ Nw w.heap.size A ∧ Tl w' w'.heap.size (.slice A l.length c) l ∧ SrcAt w' B g ∧ w.grownBy w' (some g)
theorem YW.nw {w W : World} {B g c : Nat} {A : Option Addr} {l : List St} (h : YW w B g A c l W) : Nw w.heap.size A := nwv_of (nwv_own h.own (Nat.le_refl _))
set_option maxHeartbeats 4000000 in
set_option maxRecDepth 20000 in
theorem stripes_any (B g : Nat) (w : World) (hsrc : SrcAt w B g) :
    Calls Tryz.prog 15 #[.pointer (some ⟨g, 0, none⟩)] w (SrStr B g w) := by
  have H0 := Lib.hid (YW.start hsrc)
  obtain ⟨i0, hi0, hz0⟩ := Option.map_eq_some_iff.1 info_st
  simp only [Prod.mk.injEq] at hz0
  have HI := Lib.hid hi0
  have HZ := Lib.hid hz0
  clear hsrc hi0 hz0
  go_enter Tryz.func15, Tryz.ntmps15
  go_wp2_with fail
  refine (n_any B g _ H0.out.src 5 (by omega) (by omega)).mono ?_
  rintro e w1 ⟨n, rfl, n1, n2, hs, hg⟩
  have H1 := Lib.hid (H0.out.turn hs hg)
  obtain ⟨m, hm⟩ : ∃ m : Nat, n = m := ⟨n.toNat, by omega⟩
  subst hm
  have hm4 : m ≤ 4 := by omega
  clear hs hg n1 n2 H0
  go_wp2_with fail
  go_loopw [3, 4] (fun sv iv wr => ∃ (i : Nat) (A : Option Addr) (c : Nat) (l : List St), iv = .int .i64 i ∧ sv = .slice A l.length c ∧ i + l.length ≤ 4 ∧ Hid (YW w B g A c l wr)) (fun _ iv _ => (intOf iv).toNat)
  case atStart => exact ⟨m, none, 0, [], rfl, rfl, by simpa using hm4, H1⟩
  case round =>
    clear H1 hm4
    obtain ⟨i, A, c, l, rfl, rfl, hil, HY⟩ := hrel
    by_cases hi : 0 < i
    · have hi' : (0 : Int) < (i : Int) := by omega
      have HIL := Lib.hid hil
      have hw2 : IntKind.i64.wrap ((i : Int) - 1) = (i : Int) - 1 := IntWalk.i64_in _ (by omega)
      have hw3 : wrap64 ((i : Int) - 1) = (i : Int) - 1 := IntWalk.wrap64_in _ (by omega)
      clear hil
      go_wp2_with fail
      refine (n_any B g _ HY.out.src 6 (by omega) (by omega)).mono ?_
      rintro e w2 ⟨x0, rfl, -, -, hs, hg⟩
      have HY := Lib.hid (HY.out.turn hs hg)
      clear hs hg
      go_wp2_with fail
      refine (n_any B g _ HY.out.src 3 (by omega) (by omega)).mono ?_
      rintro e w3 ⟨x1, rfl, -, -, hs, hg⟩
      have HY := Lib.hid (HY.out.turn hs hg)
      clear hs hg
      go_wp2_with fail
      refine (n_any B g _ HY.out.src 5 (by omega) (by omega)).mono ?_
      rintro e w4 ⟨x2, rfl, -, -, hs, hg⟩
      have HY := Lib.hid (HY.out.turn hs hg)
      clear hs hg
      go_wp2_with fail
      refine (n_any B g _ HY.out.src 5 (by omega) (by omega)).mono ?_
      rintro e w5 ⟨x3, rfl, -, -, hs, hg⟩
      have HY := Lib.hid (HY.out.turn hs hg)
      clear hs hg
      go_wp2_with (at_builtin; refine wpList_append_lies _ rfl _ _ _ rfl w.heap.size 28 i0 _ 4 32 Tryz.underlying44 HI.out HZ.out.1 HZ.out.2.1 HZ.out.2.2 rfl (by omega) (.slice A l.length c) l.length (tcs l) (by rfl) (HY.out.alloc _).own ⟨w5.heap.size, 0, none⟩ 1 1 (St.mk x0 x1 x2 x3).l (by rfl) (by rfl) (World.news_of_block (cs := (St.mk x0 x1 x2 x3).l.toArray) (t := 28) (fr := (0, 0)) (heap_alloc_new w5 _)) (St.l_one _) (by omega) (by have := HIL.out; unfold maxLen; omega) (by have := HIL.out; omega) ((HY.out.alloc _).grow.size) _ rfl ?_; intro g1 cp1 w8 hown1 hgrow1 hat1 hlt1; have HP8 := Lib.hid ((HY.out.alloc _).app (S := St.mk x0 x1 x2 x3) hown1 hgrow1); clear hown1 hgrow1 hat1 hlt1)
      exact ⟨⟨i - 1, _, _, l ++ [St.mk x0 x1 x2 x3], by congr 1; omega, by simp, by have := HIL.out; simp; omega, HP8⟩, by simp [intOf]; omega⟩
    · have hi0 : i = 0 := by omega
      subst hi0
      go_wp2
      go_ret
      exact ⟨A, c, l, rfl, by omega, HY.out.nw, HY.out.tl, HY.out.src, HY.out.grow⟩
end Go.Proofs.YtdilgeabcacbdaaGreat
namespace Go.Proofs.YtdilgeabcacbdaaGreat
open Go.RowKit
set_option linter.unusedVariables false

/-- A ring that a source has made, with its capacity and the routes of its messages. -/
def SrRing3 (B g k : Nat) (n id lo hi : Int) (w : World) (e : Ending) (w' : World) : Prop := ∃ (A : Option Addr) (c hd : Nat) (L : List Msg), e = .returned (.agg #[.slice A k c, .int .i64 hd, .int .i64 L.length]) ∧ Nw w.heap.size A ∧ Ls w' w'.heap.size (.slice A k c) (fil k hd L) ∧ hd < k ∧ L.length ≤ k ∧ (L.length : Int) ≤ n ∧ Gd L ∧ (∀ M ∈ L, id ≤ M.id ∧ M.id < id + L.length ∧ lo ≤ M.rt ∧ M.rt ≤ hi ∧ M.ct ≤ 3) ∧ SrcAt w' B g ∧ w.grownBy w' (some g)
set_option maxHeartbeats 8000000 in
set_option maxRecDepth 20000 in
theorem ringof3_any (B g : Nat) (w : World) (h : SrcAt w B g) (k : Nat) (n id lo hi : Int) (k1 : 1 ≤ k) (k2 : k ≤ 12) (n0 : 0 ≤ n) (n1 : n ≤ 12) (i1 : 1 ≤ id) (i2 : id ≤ 1000000) (l0 : 0 ≤ lo) (l1 : lo ≤ hi) (l2 : hi ≤ 65535) :
    Calls Tryz.prog 71 #[.pointer (some ⟨g, 0, none⟩), .int .i64 k, .int .i64 n, .int .i64 id, .int .i64 lo, .int .i64 hi] w (SrRing3 B g k n id lo hi w) := by
  have H := Lib.hid h
  have HN := Lib.hid (fun w => rnew4_any (k : Int) w)
  have HNC := Lib.hid (fun hd hh => nwC_fil k1 k2 hd hh)
  have hnl : (nwC (k : Int)).length = k := by rw [(nwC_fil k1 k2 0 (by omega)).1, fil_len]
  rw [(nwC_fil k1 k2 0 (by omega)).2] at HN
  have HNL := Lib.hid hnl
  have HGW := Lib.hid (show g < w.heap.size from h.2.1)
  have HBG := Lib.hid (show B ≤ g from h.1)
  have k1' : (1 : Int) ≤ (k : Int) := by omega
  have k2' : (k : Int) ≤ 12 := by omega
  clear h hnl
  generalize nwC (k : Int) = cs at *
  go_enter Tryz.func71, Tryz.ntmps71
  go_wp2_with fail
  have HR0 := Lib.hid (RB.fresh w none 0 0 0 0 31)
  obtain ⟨r, hr⟩ : ∃ r, r = w.heap.size := ⟨_, rfl⟩
  have HRR := Lib.hid hr
  rw [← hr] at HR0 ⊢
  clear hr
  refine (HN.out _).mono ?_
  rintro e w1 ⟨A1, c1, rfl, hnw, hl, hb⟩
  rw [HNL.out] at hl ⊢
  have HL1 := Lib.hid hl
  have HA1 := Lib.hid (show Nw (r + 1) A1 from nw_low hnw (by have := HRR.out; simp; omega))
  have HR1 := Lib.hid (HR0.out.below hb HR0.out.lt)
  have HS1 := Lib.hid ((H.out.alloc _).below hb)
  have HG1 := Lib.hid (only_below (only_alloc (World.grownBy.refl w (some g)) _) hb)
  have HY1 := Lib.hid (RB.fresh w1 A1 k c1 0 0 31)
  clear hnw hl hb
  go_wp2_with fail
  obtain ⟨y, hy⟩ : ∃ y, y = w1.heap.size := ⟨_, rfl⟩
  have HYY := Lib.hid hy
  rw [← hy] at HY1 ⊢
  clear hy
  refine (n_any B g _ (HS1.out.alloc _) k (by omega) (by omega)).mono ?_
  rintro e w2 ⟨hd, rfl, hd0, hd1, hs, hg⟩
  obtain ⟨hd, rfl⟩ := Int.eq_ofNat_of_zero_le hd0
  have HS2 := Lib.hid hs
  have HG2 := Lib.hid hg
  have HYG := Lib.hid (show y ≠ g by have := HYY.out; have := HS1.out.2.1; omega)
  have HRG := Lib.hid (show r ≠ g by have := HRR.out; have := HGW.out; omega)
  have HY2 := Lib.hid (HY1.out.grownG hg HYG.out)
  have HR2 := Lib.hid ((HR1.out.alloc (.cells #[.slice A1 k c1, .int .i64 0, .int .i64 0] 31)).grownG hg HRG.out)
  have HL2 := Lib.hid ((HL1.out.alloc (Nat.le_refl _) (.cells #[.slice A1 k c1, .int .i64 0, .int .i64 0] 31)).grownG hg (by simp) (off_nw HA1.out (by have := HRR.out; have := HGW.out; omega)))
  obtain ⟨r0, r1, r2, r3, r4, r5, hpl⟩ := HY2.out.facts
  clear hs hg
  go_wp2_with fail
  obtain ⟨mn, hmn⟩ : ∃ mn, mn = min n (k : Int) := ⟨_, rfl⟩
  rw [← hmn]
  have HMN := Lib.hid hmn
  have hm0 : 0 ≤ mn := by omega
  have hm1 : mn ≤ 12 := by omega
  have hmk : mn ≤ (k : Int) := by omega
  have hhd : hd < k := by omega
  have HFC := Lib.hid (HNC.out hd hhd).1
  have HOY := Lib.hid (off_ls HL1.out (by rw [HNL.out]; omega) (b := y) (by rw [HYY.out]; exact Nat.le_refl _))
  have HY0 := Lib.hid (show r < y by have := HYY.out; have := HR1.out.lt; omega)
  have HRO := Lib.hid (RoAt.mk (w := w) (B := B) (g := g) (L := []) (HY2.out.setH hd) (HR2.out.other (a := ⟨y, 1, none⟩) (show y ≠ r by have := HY0.out; omega) (.int .i64 hd)) (by rw [← HFC.out]; have := ((HL2.out.off' (p := ⟨y, 1, none⟩) HOY.out (.int .i64 hd)).more (show w1.heap.size ≤ (w2.setCell ⟨y, 1, none⟩ (.int .i64 hd)).heap.size by have := HG2.out.size; simp at this ⊢; omega)); exact this) (HS2.out.other (p := ⟨y, 1, none⟩) HYG.out (by have := HRR.out; have := HGW.out; have := HBG.out; have := HY0.out; show B ≤ y; omega) (.int .i64 hd)) (only_set ((only_alloc HG1.out _).trans HG2.out) (p := ⟨y, 1, none⟩) (.inr (by show w.heap.size ≤ y; have := HRR.out; have := HY0.out; omega)) (.int .i64 hd)) HA1.out HOY.out ⟨by have := HRR.out; omega, HY0.out, HGW.out, HBG.out⟩)
  clear r0 r1 r2 r3 r4 r5 hpl hmn HNC
  refine (n_any B g _ HRO.out.src (mn + 1) (by omega) (by omega)).mono ?_
  rintro e w4 ⟨j, rfl, j0, j1, hs, hg⟩
  obtain ⟨j, rfl⟩ := Int.eq_ofNat_of_zero_le j0
  have HR4 := Lib.hid (HRO.out.grownG hs hg)
  clear hs hg
  go_wp2
  go_loopw [3, 15] (fun idv iv wr => ∃ (j : Nat) (A : Option Addr) (c hd : Nat) (L : List Msg), iv = .int .i64 j ∧ idv = .int .i64 (id + L.length) ∧ RoAt w B g r y A k c hd L wr ∧ hd < k ∧ (L.length : Int) + j ≤ mn ∧ Gd L ∧ ∀ M ∈ L, id ≤ M.id ∧ M.id < id + L.length ∧ lo ≤ M.rt ∧ M.rt ≤ hi ∧ M.ct ≤ 3) (fun _ iv _ => (intOf iv).toNat)
  case atStart => exact ⟨j, A1, c1, hd, [], rfl, by simp, HR4.out, hhd, by simp; omega, gd_nil, by simp⟩
  case round =>
    obtain ⟨j, A, c, hd, L, rfl, rfl, hro, hhk, hjm, hgd, hids⟩ := hrel
    have HR := Lib.hid hro
    clear hro
    by_cases hj : 0 < j
    · have hlk : L.length < k := by omega
      have hL12 : (L.length : Int) ≤ 12 := by omega
      go_wp2_with fail
      refine (n_any B g _ HR.out.src 2 (by omega) (by omega)).mono ?_
      rintro e w5 ⟨x, rfl, x0, x1, hs, hg⟩
      have HR5 := Lib.hid (HR.out.grownG hs hg)
      clear hs hg
      by_cases hx : x = 0
      · subst hx
        have HGD := Lib.hid hgd
        have HID := Lib.hid hids
        obtain ⟨r0, r1, r2, r3, r4, r5, hpl⟩ := HR5.out.rb.facts
        clear hgd hids
        go_wp2
        go_region_with
          (first
          | (go_at_call 94; (with_reducible refine (message_any B g _ (HR5.out.drew.src) (id + L.length) lo hi).mono ?_); rintro e w6 ⟨M, rfl, m0, m1, m2, m3, m4, m5, m6, hs, hg⟩; have HM := Lib.hid (msg_ok m0 m1 m2 m3 m4 m5 m6 (by omega) (by omega) l0 l1 l2); have HMI := Lib.hid m0; have HMR := Lib.hid (And.intro (msg_rt m1 l0 l1 l2) m3.2); have HR6 := Lib.hid (HR5.out.drew.grownG hs hg); obtain ⟨q0, q1, q2, q3, q4, q5, hql⟩ := HR6.out.rb.facts; have HPB := Lib.hid (rpback_good A c k hd L M w6 k1 k2 hhk hlk HGD.out HM.out (fun N hN => by have := (HID.out N hN).2; have := HMI.out; omega) HR6.out.ls); clear m0 m1 m2 m3 m4 m5 m6 hs hg)
          | (go_at_call 93; (with_reducible refine HPB.out.mono ?_); rintro e w7 ⟨A7, c7, rfl, hnw, hl, hb⟩; rw [fil_len] at hl ⊢; have HR7 := Lib.hid (HR6.out.store hb hnw hl ((L.length : Int) + 1) (by simp)); obtain ⟨t0, t1, t2, t3, t4, t5, htl⟩ := (HR6.out.below hb).rb.facts; clear hnw hl hb))
        all_goals
          have HGE := Lib.hid (gd_back HGD.out HM.out (fun N hN => by have := (HID.out N hN).2; have := HMI.out; omega))
          have HIE := Lib.hid (show ∀ N ∈ L ++ [M], id ≤ N.id ∧ N.id < id + (L ++ [M]).length ∧ lo ≤ N.rt ∧ N.rt ≤ hi ∧ N.ct ≤ 3 from fun N hN => by
            rcases List.mem_append.1 hN with h | h
            · have := HID.out N h; simp; omega
            · rw [List.mem_singleton.1 h]; have := HMI.out; have := HMR.out; simp; omega)
          clear q0 q1 q2 q3 q4 q5 hql t0 t1 t2 t3 t4 t5 htl r0 r1 r2 r3 r4 r5 hpl
          go_wp2
          go_roundw
          case rel => exact ⟨j - 1, A7, c7, hd, L ++ [M], by rw [show ((j - 1 : Nat) : Int) = (j : Int) - 1 by omega], by simp; omega, HR7.out, hhk, by simp; omega, HGE.out, HIE.out⟩
          case measure => simp [intOf]; omega
      · have hx' : (x == 0) = false := beq_eq_false_iff_ne.2 hx
        have HGD := Lib.hid hgd
        have HID := Lib.hid hids
        obtain ⟨r0, r1, r2, r3, r4, r5, hpl⟩ := HR5.out.rb.facts
        clear hgd hids
        go_wp2
        go_region_with
          (first
          | (go_at_call 94; (with_reducible refine (message_any B g _ (HR5.out.drew.src) (id + L.length) lo hi).mono ?_); rintro e w6 ⟨M, rfl, m0, m1, m2, m3, m4, m5, m6, hs, hg⟩; have HM := Lib.hid (msg_ok m0 m1 m2 m3 m4 m5 m6 (by omega) (by omega) l0 l1 l2); have HMI := Lib.hid m0; have HMR := Lib.hid (And.intro (msg_rt m1 l0 l1 l2) m3.2); have HR6 := Lib.hid (HR5.out.drew.grownG hs hg); obtain ⟨q0, q1, q2, q3, q4, q5, hql⟩ := HR6.out.rb.facts; have HPB := Lib.hid (rpfront_good A c k hd L M w6 k1 k2 hhk hlk HGD.out HM.out (fun N hN => by have := (HID.out N hN).2; have := HMI.out; omega) HR6.out.ls); clear m0 m1 m2 m3 m4 m5 m6 hs hg)
          | (go_at_call 95; (with_reducible refine HPB.out.mono ?_); rintro e w7 ⟨A7, c7, rfl, hnw, hl, hb⟩; rw [fil_len] at hl ⊢; have HR7 := Lib.hid (HR6.out.store hb hnw hl ((L.length : Int) + 1) (by simp)); obtain ⟨t0, t1, t2, t3, t4, t5, htl⟩ := (HR6.out.below hb).rb.facts; clear hnw hl hb))
        all_goals
          have HGE := Lib.hid (gd_front HGD.out HM.out (fun N hN => by have := (HID.out N hN).2; have := HMI.out; omega))
          have HIE := Lib.hid (show ∀ N ∈ M :: L, id ≤ N.id ∧ N.id < id + (M :: L).length ∧ lo ≤ N.rt ∧ N.rt ≤ hi ∧ N.ct ≤ 3 from fun N hN => by
            rcases List.mem_cons.1 hN with h | h
            · rw [h]; have := HMI.out; have := HMR.out; simp; omega
            · have := HID.out N h; simp; omega)
          clear q0 q1 q2 q3 q4 q5 hql t0 t1 t2 t3 t4 t5 htl r0 r1 r2 r3 r4 r5 hpl
          go_wp2
          go_roundw
          case rel => exact ⟨j - 1, A7, c7, (hd + (k - 1)) % k, M :: L, by rw [show ((j - 1 : Nat) : Int) = (j : Int) - 1 by omega], by simp; omega, HR7.out, Nat.mod_lt _ (by omega), by simp; omega, HGE.out, HIE.out⟩
          case measure => simp [intOf]; omega
    · obtain rfl : j = 0 := by omega
      obtain ⟨r0, r1, r2, r3, r4, r5, hpl⟩ := HR.out.rb.facts
      obtain ⟨t0, t1, t2, t3, t4, t5, htl⟩ := HR.out.rs.facts
      have hyr : y ≠ r := by have := HY0.out; omega
      have hry : r ≠ y := fun e => hyr e.symm
      have HE := Lib.hid (ro_end HR.out)
      have HN1 := Lib.hid (show (L.length : Int) ≤ n by have := HMN.out; omega)
      have HGD := Lib.hid hgd
      have HID := Lib.hid hids
      clear hgd hids
      go_wp2
      exact bodyPost_ret (v := .agg #[.slice A k c, .int .i64 hd, .int .i64 L.length]) (by simp only [results, Tryz.results71]; go_simp <;> rfl) rfl ⟨A, c, hd, L, rfl, HE.out.1, HE.out.2.1, hhk, by omega, HN1.out, HGD.out, HID.out, HE.out.2.2.1, HE.out.2.2.2⟩
end Go.Proofs.YtdilgeabcacbdaaGreat
