/- What is proved here: (plain) an append of a slice that is read, as a step of a region that draws its order; slices.Clone, slices.Grow, slices.Concat of leases, lease.without by contracts; shard.within, isSpan, has, size, capacity, aTime, aVisibility, anEpoch, aLimit, clone by contracts. -/
import Derived.Test.YtdilgeabcacbdaaJ01
import Derived.Deep.AppendLies
import Derived.Test.YtdilgeabcacbdaaJ24
import Derived.Test.YtdilgeabcacbdaaJ15
import Derived.WalkSpells
import Derived.Lib.AppendZerosOnto
import Derived.Shelf.Spec.SlicesGrow
import Derived.Deep.RegionHeld3
import Derived.Test.YtdilgeabcacbdaaJ23
import Derived.Test.YtdilgeabcacbdaaJ10
import Derived.Test.YtdilgeabcacbdaaJ20
namespace Go.Proofs.Ytdilgeabcacbdaa
open Go.RowKit

/-- The step of an append of a list that reads, in a region that draws its order. -/
theorem step_append_rd {P : Program} (w : World) {ops : Array Oper} {o : Oper} {a : Act} {K : Act → World → Prop} {Q : Exit → Act → World → Prop} {E : Prop} (hgd : o.guard = none) (s x : Operand) (t : TypeId)
    (ho : o.op = .call { callee := .builtin .append, args := #[s, x], argTypes := #[t, t] })
    (base : Nat) (e : TypeId) (i : TypeInfo) (z : Value) (size bytes : Nat) (ht : P.underlying t = some (.slice e)) (hi : P.info? e = some i) (hz : i.zero = some z)
    (hsize : i.size = size) (hby : i.bytes = bytes) (hzs : z.cells.size = size) (hsz : 0 < size)
    (v : Value) (n : Nat) (xs : List Value) (hs : a.eval s = v) (hown : w.ownsRow base e size v n xs)
    (B : Nat) (A : Option Addr) (m c : Nat) (news : List Value) (hx : a.eval x = .slice A m c) (hr : Rd w B size A m news) (h1 : ∀ u ∈ news, u.oneCell' = true)
    (h63 : n + m ≤ maxLen) (hbytes : (n + m) * bytes ≤ 140737488355328) (hbase : base ≤ w.heap.size)
    (h : ∀ v' w', w'.ownsRow base e size v' (n + m) (xs ++ news) → w.grownBy w' v.ownBlock → (v'.ownBlock = v.ownBlock ∨ v'.ownBlock = some w.heap.size) → K (a.put o.dst v') w') :
    if Region.wanted o (yielded ops a.tmps) = true then Oper.wp P o a w K Q else E := by
  have hw : Region.wanted o (yielded ops a.tmps) = true := by simp [Region.wanted, hgd]
  rw [if_pos hw]
  exact wp_append_rd w s x t ho base e i z size bytes ht hi hz hsize hby hzs hsz v n xs hs hown B A m c news hx hr h1 h63 hbytes hbase h
end Go.Proofs.Ytdilgeabcacbdaa
namespace Go.Proofs.Ytdilgeabcacbdaa
open Go.RowKit
set_option linter.unusedVariables false

/-- Two slices in an array of the call's own. -/
structure Cc2 (W : World) (g : Nat) (v0 v1 : Value) (l0 l1 : List Le) : Prop where
  c0 : W.cell? ⟨g, 0, none⟩ = some v0
  c1 : W.cell? ⟨g, 1, none⟩ = some v1
  lt : g < W.heap.size
  e0 : El W W.heap.size v0 l0
  e1 : El W W.heap.size v1 l1
theorem Cc2.start {w : World} {v0 v1 : Value} {l0 l1 : List Le} (t : TypeId) (h0 : El w w.heap.size v0 l0) (h1 : El w w.heap.size v1 l1) : Cc2 (w.alloc (.cells #[v0, v1] t)) w.heap.size v0 v1 l0 l1 := by
  have hb := (Below.refl w.heap.size w).alloc (Nat.le_refl _) (.cells #[v0, v1] t)
  refine ⟨?_, ?_, by simp, (h0.below hb).more hb.size, (h1.below hb).more hb.size⟩
  · rw [World.cell?_alloc_new]; rfl
  · rw [World.cell?_alloc_new]; rfl
end Go.Proofs.Ytdilgeabcacbdaa
namespace Go.Proofs.Ytdilgeabcacbdaa
open Go.RowKit
set_option linter.unusedVariables false

theorem swithin_any (n lo hi : Int) (w : World) : Calls Try.prog 96 #[.int .i64 n, .int .i64 lo, .int .i64 hi] w fun e w' => e = .returned (.bool (wi n lo hi)) ∧ w = w' := by
  by_cases h1 : lo ≤ n
  · by_cases h2 : n ≤ hi
    · have H := Lib.hid (wi_true h1 h2)
      go_enter Try.func96, Try.ntmps96
      go_wp2
      go_ret
      exact ⟨by rw [H.out]; rfl, rfl⟩
    · have H := Lib.hid (show wi n lo hi = false from decide_eq_false (fun h => h2 h.2))
      go_enter Try.func96, Try.ntmps96
      go_wp2
      go_ret
      exact ⟨by rw [H.out]; rfl, rfl⟩
  · have H := Lib.hid (show wi n lo hi = false from decide_eq_false (fun h => h1 h.1))
    go_enter Try.func96, Try.ntmps96
    go_wp2
    go_ret
    exact ⟨by rw [H.out]; rfl, rfl⟩

set_option maxHeartbeats 1000000 in
theorem shas_any (S : Sh) (D : Sx) (r : Int) (w : World) : Calls Try.prog 119 #[sv S D, .int .i64 r] w fun e w' => e = .returned (.bool (wi r S.lo S.hi)) ∧ Below w.heap.size w w' := by
  have HB := Lib.hid ((Below.refl w.heap.size w).alloc (Nat.le_refl _) (.cells #[.bool S.lv, .int .i64 S.lo, .int .i64 S.hi, .slice D.A S.cs.length D.c, .int .i64 S.hd, .int .i64 S.sz, .slice D.A2 S.l.length D.c2, .slice D.A3 S.h.length D.c3] 32))
  have HC := Lib.hid (fun w => swithin_any r S.lo S.hi w)
  generalize wi r S.lo S.hi = b at *
  go_enter Try.func119, Try.ntmps119
  go_wp2_with fail
  refine (HC.out _).mono ?_
  rintro e w1 ⟨rfl, rfl⟩
  go_wp2
  go_ret
  exact ⟨rfl, HB.out⟩

set_option maxHeartbeats 1000000 in
theorem scap_any (S : Sh) (D : Sx) (w : World) : Calls Try.prog 115 #[sv S D] w fun e w' => e = .returned (.int .i64 (S.cs.length : Int)) ∧ Below w.heap.size w w' := by
  have HB := Lib.hid ((Below.refl w.heap.size w).alloc (Nat.le_refl _) (.cells #[.bool S.lv, .int .i64 S.lo, .int .i64 S.hi, .slice D.A S.cs.length D.c, .int .i64 S.hd, .int .i64 S.sz, .slice D.A2 S.l.length D.c2, .slice D.A3 S.h.length D.c3] 32))
  go_enter Try.func115, Try.ntmps115
  go_wp2
  go_ret
  exact ⟨rfl, HB.out⟩

set_option maxHeartbeats 1000000 in
theorem ssize_any (S : Sh) (D : Sx) (w : World) (h0 : 0 ≤ S.sz) (h1 : S.sz ≤ 100) (h2 : S.l.length ≤ 100) : Calls Try.prog 95 #[sv S D] w fun e w' => e = .returned (.int .i64 (S.sz + S.l.length)) ∧ Below w.heap.size w w' := by
  have HB := Lib.hid ((Below.refl w.heap.size w).alloc (Nat.le_refl _) (.cells #[.bool S.lv, .int .i64 S.lo, .int .i64 S.hi, .slice D.A S.cs.length D.c, .int .i64 S.hd, .int .i64 S.sz, .slice D.A2 S.l.length D.c2, .slice D.A3 S.h.length D.c3] 32))
  have hw : wrap64 (S.sz + (S.l.length : Int)) = S.sz + (S.l.length : Int) := IntWalk.wrap64_in _ (by omega)
  clear h0 h1 h2
  go_enter Try.func95, Try.ntmps95
  go_wp2
  go_ret
  exact ⟨congrArg (fun x => Ending.returned (.int .i64 x)) hw, HB.out⟩
theorem sspan_any (lo hi : Int) (w : World) : Calls Try.prog 114 #[.int .i64 lo, .int .i64 hi] w fun e w' => e = .returned (.bool (spB lo hi)) ∧ w = w' := by
  by_cases h1 : 0 ≤ lo
  · by_cases h2 : lo ≤ hi
    · by_cases h3 : hi < 65536
      · have H := Lib.hid (spB_iff.2 ⟨h1, h2, h3⟩)
        go_enter Try.func114, Try.ntmps114
        go_wp2
        go_ret
        exact ⟨by rw [H.out]; rfl, rfl⟩
      · have H := Lib.hid (show spB lo hi = false from decide_eq_false (fun h => h3 h.2.2))
        go_enter Try.func114, Try.ntmps114
        go_wp2
        go_ret
        exact ⟨by rw [H.out]; rfl, rfl⟩
    · have H := Lib.hid (show spB lo hi = false from decide_eq_false (fun h => h2 h.2.1))
      go_enter Try.func114, Try.ntmps114
      go_wp2
      go_ret
      exact ⟨by rw [H.out]; rfl, rfl⟩
  · have H := Lib.hid (show spB lo hi = false from decide_eq_false (fun h => h1 h.1))
    go_enter Try.func114, Try.ntmps114
    go_wp2
    go_ret
    exact ⟨by rw [H.out]; rfl, rfl⟩
/-- Three numbers: a number and its range. -/
abbrev r3 (n lo hi : Int) : Value := .agg #[.int .i64 n, .int .i64 lo, .int .i64 hi]
theorem aepoch_any (n : Int) (w : World) : Calls Try.prog 62 #[.int .i64 n] w fun e w' => e = .returned (r3 n 0 65536) ∧ Below w.heap.size w w' := by
  have HB := Lib.hid ((Below.refl w.heap.size w).alloc (Nat.le_refl _) (.cells #[.int .i64 0, .int .i64 0, .int .i64 0] 88))
  go_enter Try.func62, Try.ntmps62
  go_wp2
  exact bodyPost_ret (v := r3 n 0 65536) (by simp only [results, Try.results62]; go_simp <;> rfl) rfl ⟨rfl, (Below.refl w.heap.size w).alloc (Nat.le_refl _) _⟩
theorem alimit_any (n : Int) (w : World) : Calls Try.prog 63 #[.int .i64 n] w fun e w' => e = .returned (r3 n 1 8) ∧ Below w.heap.size w w' := by
  have HB := Lib.hid ((Below.refl w.heap.size w).alloc (Nat.le_refl _) (.cells #[.int .i64 0, .int .i64 0, .int .i64 0] 88))
  go_enter Try.func63, Try.ntmps63
  go_wp2
  exact bodyPost_ret (v := r3 n 1 8) (by simp only [results, Try.results63]; go_simp <;> rfl) rfl ⟨rfl, (Below.refl w.heap.size w).alloc (Nat.le_refl _) _⟩
end Go.Proofs.Ytdilgeabcacbdaa
