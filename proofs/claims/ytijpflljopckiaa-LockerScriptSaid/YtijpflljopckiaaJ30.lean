/- What is proved here: slices.DeleteFunc of numbers with lease.Lapsed's function value, lease.Lapsed by contracts; shard.Expire of a valid live shard, by a contract; in the statements of layer 7, awake is true; what shardqueuelaw07.ShardLeases reads; (plain) what the laws of stage 11 keep in memory beside a source. -/
import Derived.Test.YtijpflljopckiaaJ29
import Derived.Test.YtijpflljopckiaaJ03
import Derived.Test.YtijpflljopckiaaJ25
import Derived.Test.YtijpflljopckiaaJ20
import Derived.Test.YtijpflljopckiaaJ06
import Derived.Test.YtijpflljopckiaaJ24
import Derived.Test.YtijpflljopckiaaJ23
import Derived.Test.YtijpflljopckiaaJ28
namespace Go.Proofs.Ytijpflljopckiaa
open Go.RowKit
set_option linter.unusedVariables false

theorem LpW.start {w : World} {A A2 : Option Addr} {c c2 : Nat} {l : List Le} {h : List Du} (hv : El w w.heap.size (.slice A l.length c) l) (hd : Dl w w.heap.size (.slice A2 h.length c2) h) (ep : Int) : LpW w w.heap.size (w.heap.size + 1) A c l A2 c2 h ep ((w.alloc (.cells #[.slice A l.length c, .slice A2 h.length c2] 83)).alloc (.cells #[.int .i64 ep] 3)) :=
  ⟨(VaA.start 83 hv hd).alloc _, by simp [go_sem], by simp⟩
end Go.Proofs.Ytijpflljopckiaa
namespace Go.Proofs.Ytijpflljopckiaa
open Go.RowKit
set_option linter.unusedVariables false

theorem Nr.offp {W : World} {B n c : Nat} {A : Option Addr} {l : List Int} (h : Nr W B (.slice A n c) l) {p : Addr} (ho : OffB p.block n A) (v : Value) : Nr (W.setCell p v) B (.slice A n c) l := by
  obtain ⟨A', c', e, h2, h3, hr⟩ := h
  injection e with e1 e2 e3
  subst e1; subst e2; subst e3
  exact ⟨A, c, rfl, h2, h3, hr.offp ho v⟩
theorem Nr.setsP {p B n c : Nat} {A : Option Addr} {l : List Int} (ho : OffB p n A) : ∀ (vs : List Value) (m : Nat) (W : World), Nr W B (.slice A n c) l → Nr (W.setCells p m vs) B (.slice A n c) l
  | [], _, _, h => h
  | v :: r, m, W, h => Nr.setsP ho r (m + 1) _ (h.offp (p := ⟨p, m, none⟩) ho v)
/-- The work of Expire. -/
structure XpAt (w : World) (p r : Nat) (S : Sh) (D : Sx) (A0 : Option Addr) (c0 : Nat) (ids : List Int) (W : World) : Prop where
  sa : SAt w p S D W
  rs : SB8 W r zS zX
  nr : Nr W W.heap.size (.slice A0 ids.length c0) ids
  o0 : OffB p ids.length A0
  o1 : OffB r ids.length A0
  dr : D.nw (r + 1)
  ne : p < r
theorem XpAt.below {w W W' : World} {p r c0 : Nat} {S : Sh} {D : Sx} {A0 : Option Addr} {ids : List Int} (h : XpAt w p r S D A0 c0 ids W) (hb : Below W.heap.size W W') : XpAt w p r S D A0 c0 ids W' :=
  ⟨h.sa.below hb, h.rs.up hb, h.nr.up hb, h.o0, h.o1, h.dr, h.ne⟩
theorem XpAt.put {w W : World} {p r c0 : Nat} {S T : Sh} {D E : Sx} {A0 : Option Addr} {ids : List Int} (h : XpAt w p r S D A0 c0 ids W) (hr : SR W W.heap.size T E) (he : E.nw (r + 1)) : XpAt w p r T E A0 c0 ids (set8s W p T E) :=
  ⟨h.sa.put hr (he.off (by have := h.ne; omega)), h.rs.put_far (by have := h.ne; omega) T E, (Nr.setsP h.o0 (T.l8 E) 0 W h.nr).more (by show _ ≤ (set8s W p T E).heap.size; rw [set8s_size]; exact Nat.le_refl _), h.o0, h.o1, he, h.ne⟩
end Go.Proofs.Ytijpflljopckiaa
namespace Go.Proofs.Ytijpflljopckiaa
open Go.RowKit
set_option linter.unusedVariables false

theorem SAt.made {w W : World} {S : Sh} {D : Sx} (t : TypeId) (hb : Below w.heap.size w W) (hr : SR W W.heap.size S D) : SAt w W.heap.size S D (W.alloc (.cells #[.bool S.lv, .int .i64 S.lo, .int .i64 S.hi, .slice D.A S.cs.length D.c, .int .i64 S.hd, .int .i64 S.sz, .slice D.A2 S.l.length D.c2, .slice D.A3 S.h.length D.c3] t)) :=
  ⟨SB8.start W S D _, hr.up ((Below.refl _ _).alloc (Nat.le_refl _) _), hr.offs (Nat.le_refl _), hb.alloc hb.size _, hb.size⟩
end Go.Proofs.Ytijpflljopckiaa
namespace Go.Proofs.Ytijpflljopckiaa
open Go.RowKit
set_option linter.unusedVariables false

/-- The numbers that were drawn lie in block d. -/
structure D5 (W : World) (d : Nat) (mx now vis ep lim : Int) : Prop where
  c0 : W.cell? ⟨d, 0, none⟩ = some (.int .i64 mx)
  c1 : W.cell? ⟨d, 1, none⟩ = some (.int .i64 now)
  c2 : W.cell? ⟨d, 2, none⟩ = some (.int .i64 vis)
  c3 : W.cell? ⟨d, 3, none⟩ = some (.int .i64 ep)
  c4 : W.cell? ⟨d, 4, none⟩ = some (.int .i64 lim)
  lt : d < W.heap.size
theorem D5.up {W W' : World} {d : Nat} {mx now vis ep lim : Int} (h : D5 W d mx now vis ep lim) (hb : Below W.heap.size W W') : D5 W' d mx now vis ep lim :=
  ⟨(hb.cell (p := ⟨d, 0, none⟩) h.lt).trans h.c0, (hb.cell (p := ⟨d, 1, none⟩) h.lt).trans h.c1, (hb.cell (p := ⟨d, 2, none⟩) h.lt).trans h.c2, (hb.cell (p := ⟨d, 3, none⟩) h.lt).trans h.c3, (hb.cell (p := ⟨d, 4, none⟩) h.lt).trans h.c4, Nat.lt_of_lt_of_le h.lt hb.size⟩
theorem D5.start (w : World) (mx now vis ep lim a b c : Int) (t : TypeId) : D5 (w.alloc (.cells #[.int .i64 mx, .int .i64 now, .int .i64 vis, .int .i64 ep, .int .i64 lim, .int .i64 a, .int .i64 b, .int .i64 c] t)) w.heap.size mx now vis ep lim :=
  ⟨by simp [go_sem], by simp [go_sem], by simp [go_sem], by simp [go_sem], by simp [go_sem], by simp⟩
/-- Block q holds a handle, and may be written. -/
def H4f (W : World) (q : Nat) (H : Hn) : Prop := H4 W q H ∧ ∀ o, W.frozen? ⟨q, o, none⟩ = false
theorem H4f.up {W W' : World} {q : Nat} {H : Hn} (h : H4f W q H) (hb : Below W.heap.size W W') : H4f W' q H := ⟨h.1.up hb, fun o => (hb.frozen (p := ⟨q, o, none⟩) h.1.2.2.2.2).trans (h.2 o)⟩
/-- What the loop keeps: the shard, the draw, what Take made of the shard, the leases. -/
structure LwAt (w : World) (p d s : Nat) (S T : Sh) (D E : Sx) (mx now vis ep lim : Int) (A : Option Addr) (c : Nat) (K : List Le) (W : World) : Prop where
  sa : SAt w p S D W
  sb : SAt w s T E W
  d5 : D5 W d mx now vis ep lim
  el : El W W.heap.size (.slice A K.length c) K
theorem LwAt.below {w W W' : World} {p d s c : Nat} {S T : Sh} {D E : Sx} {mx now vis ep lim : Int} {A : Option Addr} {K : List Le} (h : LwAt w p d s S T D E mx now vis ep lim A c K W) (hb : Below W.heap.size W W') : LwAt w p d s S T D E mx now vis ep lim A c K W' :=
  ⟨h.sa.below hb, h.sb.below hb, h.d5.up hb, (h.el.below hb).more hb.size⟩
/-- What a round of the loop keeps: that, the handle, the older one, the newer one. -/
structure LuAt (w : World) (p d s q a z : Nat) (S T : Sh) (D E : Sx) (mx now vis ep lim i g r x y : Int) (A : Option Addr) (c : Nat) (K : List Le) (W : World) : Prop where
  lw : LwAt w p d s S T D E mx now vis ep lim A c K W
  hq : H4 W q ⟨i, g, r, 0⟩
  ha : H4 W a ⟨i, x, r, 0⟩
  hz : H4 W z ⟨i, g, y, 0⟩
theorem LuAt.below {w W W' : World} {p d s q a z c : Nat} {S T : Sh} {D E : Sx} {mx now vis ep lim i g r x y : Int} {A : Option Addr} {K : List Le} (h : LuAt w p d s q a z S T D E mx now vis ep lim i g r x y A c K W) (hb : Below W.heap.size W W') : LuAt w p d s q a z S T D E mx now vis ep lim i g r x y A c K W' :=
  ⟨h.lw.below hb, h.hq.up hb, h.ha.up hb, h.hz.up hb⟩
/-- What is kept once Ack and Nack were tried. -/
structure LzAt (w : World) (p d s q a z u v : Nat) (S T F1 F2 : Sh) (D E D3 D4 : Sx) (mx now vis ep lim i g r x y : Int) (A : Option Addr) (c : Nat) (K : List Le) (W : World) : Prop where
  lu : LuAt w p d s q a z S T D E mx now vis ep lim i g r x y A c K W
  s1 : SAt w u F1 D3 W
  s2 : SAt w v F2 D4 W
abbrev LzK (d s q u v : Nat) (T F1 F2 : Sh) (E D3 D4 : Sx) (now ep i g r : Int) (W : World) : Prop := K8 u F1 D3 W ∧ K8 v F2 D4 W ∧ K8 s T E W ∧ W.cell? ⟨q, 0, none⟩ = some (.int .i64 i) ∧ W.cell? ⟨q, 1, none⟩ = some (.int .i64 g) ∧ W.cell? ⟨q, 2, none⟩ = some (.int .i64 r) ∧ W.cell? ⟨q, 3, none⟩ = some (.int .i64 0) ∧ W.cell? ⟨d, 1, none⟩ = some (.int .i64 now) ∧ W.cell? ⟨d, 3, none⟩ = some (.int .i64 ep)
section
variable {w W W' : World} {p d s q a z u v c : Nat} {S T F1 F2 : Sh} {D E D3 D4 : Sx} {mx now vis ep lim i g r x y : Int} {A : Option Addr} {K : List Le}
theorem LzAt.below (h : LzAt w p d s q a z u v S T F1 F2 D E D3 D4 mx now vis ep lim i g r x y A c K W) (hb : Below W.heap.size W W') : LzAt w p d s q a z u v S T F1 F2 D E D3 D4 mx now vis ep lim i g r x y A c K W' := ⟨h.lu.below hb, h.s1.below hb, h.s2.below hb⟩
theorem LzAt.k (h : LzAt w p d s q a z u v S T F1 F2 D E D3 D4 mx now vis ep lim i g r x y A c K W) : LzK d s q u v T F1 F2 E D3 D4 now ep i g r W := ⟨h.s1.k8, h.s2.k8, h.lu.lw.sb.k8, h.lu.hq.1, h.lu.hq.2.1, h.lu.hq.2.2.1, h.lu.hq.2.2.2.1, h.lu.lw.d5.c1, h.lu.lw.d5.c3⟩
end
end Go.Proofs.Ytijpflljopckiaa
namespace Go.Proofs.Ytijpflljopckiaa
open Go.RowKit
set_option linter.unusedVariables false

theorem SR.grownS {W W' : World} {g : Nat} {S : Sh} {D : Sx} (h : SR W W.heap.size S D) (hg : W.grownBy W' (some g)) (ho : SOff S D g) : SR W' W'.heap.size S D :=
  ⟨(h.ls.grownR (Nat.le_refl _) hg (fun q e => by injection e with e; subst e; exact ho.o1)).more hg.size, (h.el.grownR (Nat.le_refl _) hg (fun q e => by injection e with e; subst e; exact ho.o2)).more hg.size, (h.dl.grownR (Nat.le_refl _) hg (fun q e => by injection e with e; subst e; exact ho.o3)).more hg.size⟩
theorem SrSh.va {S : Sh} (h : SrSh S) : shV S = 0 := by
  rcases h with ⟨V, k, rfl⟩ | ⟨k, h1, h2, rfl⟩
  · exact k.va
  · exact fr_va h1 h2
end Go.Proofs.Ytijpflljopckiaa
