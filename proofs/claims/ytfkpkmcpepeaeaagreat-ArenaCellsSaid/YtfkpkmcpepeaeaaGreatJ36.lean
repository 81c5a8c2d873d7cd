/- What is proved here: slices.DeleteFunc of numbers with lease.Lapsed's function value, lease.Lapsed by contracts; slices.DeleteFunc of numbers with lease.Lapsed's function value, lease.Lapsed by contracts; shard.Expire of a valid live shard, by a contract; in the statements of layer 7, awake is true. -/
import Derived.Test.YtfkpkmcpepeaeaaGreatJ35
import Derived.Lib.SliceRun
import Derived.Laws.OwnMore
import Derived.Test.YtfkpkmcpepeaeaaGreatJ03
import Derived.Test.YtfkpkmcpepeaeaaGreatJ30
import Derived.Test.YtfkpkmcpepeaeaaGreatJ25
import Derived.Test.YtfkpkmcpepeaeaaGreatJ07
import Derived.Test.YtfkpkmcpepeaeaaGreatJ24
import Derived.Test.YtfkpkmcpepeaeaaGreatJ29
import Derived.Test.YtfkpkmcpepeaeaaGreatJ28
namespace Go.Proofs.YtfkpkmcpepeaeaaGreat
open Go.RowKit
set_option linter.unusedVariables false

/-- What is kept. -/
def kpI (p : Int → Bool) (zs : List Int) : List Int := zs.filter (fun x => !p x)
theorem kpI_all {p : Int → Bool} {zs : List Int} (hn : ∀ j (hj : j < zs.length), p zs[j] = false) : kpI p zs = zs := by
  unfold kpI
  rw [List.filter_eq_self]
  intro x hx
  obtain ⟨j, hj, e⟩ := List.mem_iff_getElem.1 hx
  rw [← e, hn j hj]; rfl
theorem kpI_take_all {p : Int → Bool} {zs : List Int} {k : Nat} (hn : ∀ j (hj : j < zs.length), j < k → p zs[j] = false) : kpI p (zs.take k) = zs.take k :=
  kpI_all fun j hj => by rw [List.getElem_take]; exact hn j (by rw [List.length_take] at hj; omega) (by rw [List.length_take] at hj; omega)
theorem kpI_succ (p : Int → Bool) {zs : List Int} {j : Nat} (hj : j < zs.length) : kpI p (zs.take (j + 1)) = kpI p (zs.take j) ++ if p zs[j] = true then [] else [zs[j]] := by
  unfold kpI
  rw [List.take_succ_eq_append_getElem hj, List.filter_append]
  congr 1
  cases e : p zs[j] with
  | true => rw [if_pos rfl]; simp [e]
  | false => rw [if_neg (by decide)]; simp [e]
/-- A row while it is worked on: what is kept in front, what is left from place j on. -/
structure DfI (p : Int → Bool) (zs : List Int) (i j : Nat) (ys : List Int) : Prop where
  len : ys.length = zs.length
  kept : ys.take i = kpI p (zs.take j)
  left : ys.drop j = zs.drop j
  lt : i < j
  le : j ≤ zs.length
  il : i = (kpI p (zs.take j)).length
theorem DfI.start {p : Int → Bool} {zs : List Int} {k : Nat} (hk : k < zs.length) (h1 : p zs[k] = true) (hn : ∀ j (hj : j < zs.length), j < k → p zs[j] = false) : DfI p zs k (k + 1) zs := by
  have e : kpI p (zs.take (k + 1)) = zs.take k := by rw [kpI_succ p hk, kpI_take_all hn, if_pos h1, List.append_nil]
  exact ⟨rfl, e.symm, rfl, Nat.lt_succ_self _, hk, by rw [e, List.length_take]; omega⟩
theorem DfI.at_ {p : Int → Bool} {zs ys : List Int} {i j : Nat} (h : DfI p zs i j ys) (hj : j < zs.length) : ys[j]'(by rw [h.len]; exact hj) = zs[j] := by
  have e := h.left
  rw [List.drop_eq_getElem_cons (by rw [h.len]; exact hj), List.drop_eq_getElem_cons hj] at e
  injection e
theorem DfI.skip {p : Int → Bool} {zs ys : List Int} {i j : Nat} (h : DfI p zs i j ys) (hj : j < zs.length) (hp : p zs[j] = true) : DfI p zs i (j + 1) ys := by
  have e : kpI p (zs.take (j + 1)) = kpI p (zs.take j) := by rw [kpI_succ p hj, if_pos hp, List.append_nil]
  have hl := h.left
  rw [List.drop_eq_getElem_cons (by rw [h.len]; exact hj), List.drop_eq_getElem_cons hj] at hl
  injection hl with _ hl
  exact ⟨h.len, by rw [e]; exact h.kept, hl, Nat.lt_succ_of_lt h.lt, hj, by rw [e]; exact h.il⟩
theorem DfI.keep {p : Int → Bool} {zs ys : List Int} {i j : Nat} (h : DfI p zs i j ys) (hj : j < zs.length) (hp : p zs[j] = false) : DfI p zs (i + 1) (j + 1) (ys.set i zs[j]) := by
  have e : kpI p (zs.take (j + 1)) = kpI p (zs.take j) ++ [zs[j]] := by rw [kpI_succ p hj, if_neg (by rw [hp]; decide)]
  have hl := h.left
  rw [List.drop_eq_getElem_cons (by rw [h.len]; exact hj), List.drop_eq_getElem_cons hj] at hl
  injection hl with _ hl
  have hi : i < ys.length := by have := h.lt; have := h.len; omega
  refine ⟨by rw [List.length_set]; exact h.len, ?_, ?_, Nat.succ_lt_succ h.lt, hj, by rw [e, List.length_append, ← h.il]; rfl⟩
  · rw [e, ← h.kept, List.take_succ_eq_append_getElem (by rw [List.length_set]; exact hi), List.take_set_of_le (Nat.le_refl _), List.getElem_set_self]
  · rw [List.drop_set_of_lt (by have := h.lt; omega)]
    exact hl
end Go.Proofs.YtfkpkmcpepeaeaaGreat
namespace Go.Proofs.YtfkpkmcpepeaeaaGreat
open Go.RowKit
set_option linter.unusedVariables false

theorem LpW.start {w : World} {A A2 : Option Addr} {c c2 : Nat} {l : List Le} {h : List Du} (hv : El w w.heap.size (.slice A l.length c) l) (hd : Dl w w.heap.size (.slice A2 h.length c2) h) (ep : Int) : LpW w w.heap.size (w.heap.size + 1) A c l A2 c2 h ep ((w.alloc (.cells #[.slice A l.length c, .slice A2 h.length c2] 52)).alloc (.cells #[.int .i64 ep] 3)) :=
  ⟨(VaA.start 52 hv hd).alloc _, by simp [go_sem], by simp⟩
end Go.Proofs.YtfkpkmcpepeaeaaGreat
namespace Go.Proofs.YtfkpkmcpepeaeaaGreat
open Go.RowKit
set_option linter.unusedVariables false

theorem Nr.offp {W : World} {B n c : Nat} {A : Option Addr} {l : List Int} (h : Nr W B (.slice A n c) l) {p : Addr} (ho : OffB p.block n A) (v : Value) : Nr (W.setCell p v) B (.slice A n c) l := by
  obtain ⟨A', c', e, h2, h3, hr⟩ := h
  injection e with e1 e2 e3
  subst e1; subst e2; subst e3
  exact ⟨A, c, rfl, h2, h3, hr.offp ho v⟩
theorem Nr.setsP {p B n c : Nat} {A : Option Addr} {l : List Int} (ho : OffB p n A) : ∀ (vs : List Value) (m : Nat) (W : World), Nr W B (.slice A n c) l → Nr (W.setCells p m vs) B (.slice A n c) l
  | [], _, _, h => h
  | v :: r, m, W, h => Nr.setsP ho r (m + 1) _ (h.offp (p := ⟨p, m, none⟩) ho v)
/-- The work of Expire. -/
structure XpAt (w : World) (p r : Nat) (S : Sh) (D : Sx) (A0 : Option Addr) (c0 : Nat) (ids : List Int) (W : World) : Prop where
  sa : SAt w p S D W
  rs : SB8 W r zS zX
  nr : Nr W W.heap.size (.slice A0 ids.length c0) ids
  o0 : OffB p ids.length A0
  o1 : OffB r ids.length A0
  dr : D.nw (r + 1)
  ne : p < r
theorem XpAt.below {w W W' : World} {p r c0 : Nat} {S : Sh} {D : Sx} {A0 : Option Addr} {ids : List Int} (h : XpAt w p r S D A0 c0 ids W) (hb : Below W.heap.size W W') : XpAt w p r S D A0 c0 ids W' :=
  ⟨h.sa.below hb, h.rs.up hb, h.nr.up hb, h.o0, h.o1, h.dr, h.ne⟩
theorem XpAt.put {w W : World} {p r c0 : Nat} {S T : Sh} {D E : Sx} {A0 : Option Addr} {ids : List Int} (h : XpAt w p r S D A0 c0 ids W) (hr : SR W W.heap.size T E) (he : E.nw (r + 1)) : XpAt w p r T E A0 c0 ids (set8s W p T E) :=
  ⟨h.sa.put hr (he.off (by have := h.ne; omega)), h.rs.put_far (by have := h.ne; omega) T E, (Nr.setsP h.o0 (T.l8 E) 0 W h.nr).more (by show _ ≤ (set8s W p T E).heap.size; rw [set8s_size]; exact Nat.le_refl _), h.o0, h.o1, he, h.ne⟩
end Go.Proofs.YtfkpkmcpepeaeaaGreat
namespace Go.Proofs.YtfkpkmcpepeaeaaGreat
open Go.RowKit
set_option linter.unusedVariables false

theorem SAt.made {w W : World} {S : Sh} {D : Sx} (t : TypeId) (hb : Below w.heap.size w W) (hr : SR W W.heap.size S D) : SAt w W.heap.size S D (W.alloc (.cells #[.bool S.lv, .int .i64 S.lo, .int .i64 S.hi, .slice D.A S.cs.length D.c, .int .i64 S.hd, .int .i64 S.sz, .slice D.A2 S.l.length D.c2, .slice D.A3 S.h.length D.c3] t)) :=
  ⟨SB8.start W S D _, hr.up ((Below.refl _ _).alloc (Nat.le_refl _) _), hr.offs (Nat.le_refl _), hb.alloc hb.size _, hb.size⟩
end Go.Proofs.YtfkpkmcpepeaeaaGreat
