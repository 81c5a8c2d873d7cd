/- What is proved here: slices.DeleteFunc of numbers with lease.Lapsed's function value, lease.Lapsed by contracts; lease.Lapsed by a contract that says that its list is new; shard.Expire of a valid live shard, by a contract; in the statements of layer 7, awake is true. -/
import Derived.Test.YtdilgeabcacbdaaGreatJ41
import Derived.Test.YtdilgeabcacbdaaGreatJ03
import Derived.Test.YtdilgeabcacbdaaGreatJ30
import Derived.Test.YtdilgeabcacbdaaGreatJ32
import Derived.Test.YtdilgeabcacbdaaGreatJ26
import Derived.Test.YtdilgeabcacbdaaGreatJ24
namespace Go.Proofs.YtdilgeabcacbdaaGreat
open Go.RowKit
set_option linter.unusedVariables false

theorem LpW.start {w : World} {A A2 : Option Addr} {c c2 : Nat} {l : List Le} {h : List Du} (hv : El w w.heap.size (.slice A l.length c) l) (hd : Dl w w.heap.size (.slice A2 h.length c2) h) (ep : Int) : LpW w w.heap.size (w.heap.size + 1) A c l A2 c2 h ep ((w.alloc (.cells #[.slice A l.length c, .slice A2 h.length c2] 35)).alloc (.cells #[.int .i64 ep] 3)) :=
  ⟨(VaA.start 35 hv hd).alloc _, by simp [go_sem], by simp⟩
end Go.Proofs.YtdilgeabcacbdaaGreat
namespace Go.Proofs.YtdilgeabcacbdaaGreat
open Go.RowKit
set_option linter.unusedVariables false

end Go.Proofs.YtdilgeabcacbdaaGreat
namespace Go.Proofs.YtdilgeabcacbdaaGreat
open Go.RowKit
set_option linter.unusedVariables false

theorem Nr.offp {W : World} {B n c : Nat} {A : Option Addr} {l : List Int} (h : Nr W B (.slice A n c) l) {p : Addr} (ho : OffB p.block n A) (v : Value) : Nr (W.setCell p v) B (.slice A n c) l := by
  obtain ⟨A', c', e, h2, h3, hr⟩ := h
  injection e with e1 e2 e3
  subst e1; subst e2; subst e3
  exact ⟨A, c, rfl, h2, h3, hr.offp ho v⟩
theorem Nr.setsP {p B n c : Nat} {A : Option Addr} {l : List Int} (ho : OffB p n A) : ∀ (vs : List Value) (m : Nat) (W : World), Nr W B (.slice A n c) l → Nr (W.setCells p m vs) B (.slice A n c) l
  | [], _, _, h => h
  | v :: r, m, W, h => Nr.setsP ho r (m + 1) _ (h.offp (p := ⟨p, m, none⟩) ho v)
/-- The work of Expire. -/
structure XpAt (w : World) (p r : Nat) (S : Sh) (D : Sx) (A0 : Option Addr) (c0 : Nat) (ids : List Int) (W : World) : Prop where
  sa : SAt w p S D W
  rs : SB8 W r zS zX
  nr : Nr W W.heap.size (.slice A0 ids.length c0) ids
  o0 : OffB p ids.length A0
  o1 : OffB r ids.length A0
  dr : D.nw (r + 1)
  ne : p < r
theorem XpAt.below {w W W' : World} {p r c0 : Nat} {S : Sh} {D : Sx} {A0 : Option Addr} {ids : List Int} (h : XpAt w p r S D A0 c0 ids W) (hb : Below W.heap.size W W') : XpAt w p r S D A0 c0 ids W' :=
  ⟨h.sa.below hb, h.rs.up hb, h.nr.up hb, h.o0, h.o1, h.dr, h.ne⟩
theorem XpAt.put {w W : World} {p r c0 : Nat} {S T : Sh} {D E : Sx} {A0 : Option Addr} {ids : List Int} (h : XpAt w p r S D A0 c0 ids W) (hr : SR W W.heap.size T E) (he : E.nw (r + 1)) : XpAt w p r T E A0 c0 ids (set8s W p T E) :=
  ⟨h.sa.put hr (he.off (by have := h.ne; omega)), h.rs.put_far (by have := h.ne; omega) T E, (Nr.setsP h.o0 (T.l8 E) 0 W h.nr).more (by show _ ≤ (set8s W p T E).heap.size; rw [set8s_size]; exact Nat.le_refl _), h.o0, h.o1, he, h.ne⟩
end Go.Proofs.YtdilgeabcacbdaaGreat
namespace Go.Proofs.YtdilgeabcacbdaaGreat
open Go.RowKit
set_option linter.unusedVariables false

theorem SAt.made {w W : World} {S : Sh} {D : Sx} (t : TypeId) (hb : Below w.heap.size w W) (hr : SR W W.heap.size S D) : SAt w W.heap.size S D (W.alloc (.cells #[.bool S.lv, .int .i64 S.lo, .int .i64 S.hi, .slice D.A S.cs.length D.c, .int .i64 S.hd, .int .i64 S.sz, .slice D.A2 S.l.length D.c2, .slice D.A3 S.h.length D.c3] t)) :=
  ⟨SB8.start W S D _, hr.up ((Below.refl _ _).alloc (Nat.le_refl _) _), hr.offs (Nat.le_refl _), hb.alloc hb.size _, hb.size⟩
end Go.Proofs.YtdilgeabcacbdaaGreat
