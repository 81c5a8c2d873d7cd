/- What is proved here: (plain) an append of a slice that is read, as a step of a region that draws its order; slices.Clone, slices.Grow, slices.Concat of leases, lease.without by contracts; shard.within, isSpan, has, size, capacity, aTime, aVisibility, anEpoch, aLimit, clone by contracts; slices.IndexFunc, slices.ContainsFunc of messages for any function that tells without turning old memory; shard.hasSameID. -/
import Derived.Test.YtdilgeabcacbdaaGreatJ01
import Derived.Deep.AppendLies
import Derived.Test.YtdilgeabcacbdaaGreatJ18
import Derived.Test.YtdilgeabcacbdaaGreatJ11
import Derived.WalkSpells
import Derived.Lib.AppendZerosOnto
import Derived.Shelf.Spec.SlicesGrow
import Derived.Deep.RegionHeld3
import Derived.Test.YtdilgeabcacbdaaGreatJ17
import Derived.Test.YtdilgeabcacbdaaGreatJ07
import Derived.Test.YtdilgeabcacbdaaGreatJ15
import Derived.Test.YtdilgeabcacbdaaGreatJ05
import Derived.Test.YtdilgeabcacbdaaGreatJ06
namespace Go.Proofs.YtdilgeabcacbdaaGreat
open Go.RowKit

/-- The step of an append of a list that reads, in a region that draws its order. -/
theorem step_append_rd {P : Program} (w : World) {ops : Array Oper} {o : Oper} {a : Act} {K : Act → World → Prop} {Q : Exit → Act → World → Prop} {E : Prop} (hgd : o.guard = none) (s x : Operand) (t : TypeId)
    (ho : o.op = .call { callee := .builtin .append, args := #[s, x], argTypes := #[t, t] })
    (base : Nat) (e : TypeId) (i : TypeInfo) (z : Value) (size bytes : Nat) (ht : P.underlying t = some (.slice e)) (hi : P.info? e = some i) (hz : i.zero = some z)
    (hsize : i.size = size) (hby : i.bytes = bytes) (hzs : z.cells.size = size) (hsz : 0 < size)
    (v : Value) (n : Nat) (xs : List Value) (hs : a.eval s = v) (hown : w.ownsRow base e size v n xs)
    (B : Nat) (A : Option Addr) (m c : Nat) (news : List Value) (hx : a.eval x = .slice A m c) (hr : Rd w B size A m news) (h1 : ∀ u ∈ news, u.oneCell' = true)
    (h63 : n + m ≤ maxLen) (hbytes : (n + m) * bytes ≤ 140737488355328) (hbase : base ≤ w.heap.size)
    (h : ∀ v' w', w'.ownsRow base e size v' (n + m) (xs ++ news) → w.grownBy w' v.ownBlock → (v'.ownBlock = v.ownBlock ∨ v'.ownBlock = some w.heap.size) → K (a.put o.dst v') w') :
    if Region.wanted o (yielded ops a.tmps) = true then Oper.wp P o a w K Q else E := by
  have hw : Region.wanted o (yielded ops a.tmps) = true := by simp [Region.wanted, hgd]
  rw [if_pos hw]
  exact wp_append_rd w s x t ho base e i z size bytes ht hi hz hsize hby hzs hsz v n xs hs hown B A m c news hx hr h1 h63 hbytes hbase h
end Go.Proofs.YtdilgeabcacbdaaGreat
namespace Go.Proofs.YtdilgeabcacbdaaGreat
open Go.RowKit
set_option linter.unusedVariables false

theorem info_lease : (Tryz.prog.info? 75).map (fun i => (i.zero, i.size, i.bytes)) = some (some (Le.v zL), 8, 72) := by kernel_rfl
/-- Two slices in an array of the call's own. -/
structure Cc2 (W : World) (g : Nat) (v0 v1 : Value) (l0 l1 : List Le) : Prop where
  c0 : W.cell? ⟨g, 0, none⟩ = some v0
  c1 : W.cell? ⟨g, 1, none⟩ = some v1
  lt : g < W.heap.size
  e0 : El W W.heap.size v0 l0
  e1 : El W W.heap.size v1 l1
theorem Cc2.start {w : World} {v0 v1 : Value} {l0 l1 : List Le} (t : TypeId) (h0 : El w w.heap.size v0 l0) (h1 : El w w.heap.size v1 l1) : Cc2 (w.alloc (.cells #[v0, v1] t)) w.heap.size v0 v1 l0 l1 := by
  have hb := (Below.refl w.heap.size w).alloc (Nat.le_refl _) (.cells #[v0, v1] t)
  refine ⟨?_, ?_, by simp, (h0.below hb).more hb.size, (h1.below hb).more hb.size⟩
  · rw [World.cell?_alloc_new]; rfl
  · rw [World.cell?_alloc_new]; rfl
end Go.Proofs.YtdilgeabcacbdaaGreat
namespace Go.Proofs.YtdilgeabcacbdaaGreat
open Go.RowKit
set_option linter.unusedVariables false

theorem swithin_any (n lo hi : Int) (w : World) : Calls Tryz.prog 64 #[.int .i64 n, .int .i64 lo, .int .i64 hi] w fun e w' => e = .returned (.bool (wi n lo hi)) ∧ w = w' := by
  by_cases h1 : lo ≤ n
  · by_cases h2 : n ≤ hi
    · have H := Lib.hid (wi_true h1 h2)
      go_enter Tryz.func64, Tryz.ntmps64
      go_wp2
      go_ret
      exact ⟨by rw [H.out]; rfl, rfl⟩
    · have H := Lib.hid (show wi n lo hi = false from decide_eq_false (fun h => h2 h.2))
      go_enter Tryz.func64, Tryz.ntmps64
      go_wp2
      go_ret
      exact ⟨by rw [H.out]; rfl, rfl⟩
  · have H := Lib.hid (show wi n lo hi = false from decide_eq_false (fun h => h1 h.1))
    go_enter Tryz.func64, Tryz.ntmps64
    go_wp2
    go_ret
    exact ⟨by rw [H.out]; rfl, rfl⟩

set_option maxHeartbeats 1000000 in
theorem shas_any (S : Sh) (D : Sx) (r : Int) (w : World) : Calls Tryz.prog 85 #[sv S D, .int .i64 r] w fun e w' => e = .returned (.bool (wi r S.lo S.hi)) ∧ Below w.heap.size w w' := by
  have HB := Lib.hid ((Below.refl w.heap.size w).alloc (Nat.le_refl _) (.cells #[.bool S.lv, .int .i64 S.lo, .int .i64 S.hi, .slice D.A S.cs.length D.c, .int .i64 S.hd, .int .i64 S.sz, .slice D.A2 S.l.length D.c2, .slice D.A3 S.h.length D.c3] 37))
  have HC := Lib.hid (fun w => swithin_any r S.lo S.hi w)
  generalize wi r S.lo S.hi = b at *
  go_enter Tryz.func85, Tryz.ntmps85
  go_wp2_with fail
  refine (HC.out _).mono ?_
  rintro e w1 ⟨rfl, rfl⟩
  go_wp2
  go_ret
  exact ⟨rfl, HB.out⟩

set_option maxHeartbeats 1000000 in
theorem scap_any (S : Sh) (D : Sx) (w : World) : Calls Tryz.prog 81 #[sv S D] w fun e w' => e = .returned (.int .i64 (S.cs.length : Int)) ∧ Below w.heap.size w w' := by
  have HB := Lib.hid ((Below.refl w.heap.size w).alloc (Nat.le_refl _) (.cells #[.bool S.lv, .int .i64 S.lo, .int .i64 S.hi, .slice D.A S.cs.length D.c, .int .i64 S.hd, .int .i64 S.sz, .slice D.A2 S.l.length D.c2, .slice D.A3 S.h.length D.c3] 37))
  go_enter Tryz.func81, Tryz.ntmps81
  go_wp2
  go_ret
  exact ⟨rfl, HB.out⟩

set_option maxHeartbeats 1000000 in
theorem ssize_any (S : Sh) (D : Sx) (w : World) (h0 : 0 ≤ S.sz) (h1 : S.sz ≤ 100) (h2 : S.l.length ≤ 100) : Calls Tryz.prog 63 #[sv S D] w fun e w' => e = .returned (.int .i64 (S.sz + S.l.length)) ∧ Below w.heap.size w w' := by
  have HB := Lib.hid ((Below.refl w.heap.size w).alloc (Nat.le_refl _) (.cells #[.bool S.lv, .int .i64 S.lo, .int .i64 S.hi, .slice D.A S.cs.length D.c, .int .i64 S.hd, .int .i64 S.sz, .slice D.A2 S.l.length D.c2, .slice D.A3 S.h.length D.c3] 37))
  have hw : wrap64 (S.sz + (S.l.length : Int)) = S.sz + (S.l.length : Int) := IntWalk.wrap64_in _ (by omega)
  clear h0 h1 h2
  go_enter Tryz.func63, Tryz.ntmps63
  go_wp2
  go_ret
  exact ⟨congrArg (fun x => Ending.returned (.int .i64 x)) hw, HB.out⟩
theorem sspan_any (lo hi : Int) (w : World) : Calls Tryz.prog 80 #[.int .i64 lo, .int .i64 hi] w fun e w' => e = .returned (.bool (spB lo hi)) ∧ w = w' := by
  by_cases h1 : 0 ≤ lo
  · by_cases h2 : lo ≤ hi
    · by_cases h3 : hi < 65536
      · have H := Lib.hid (spB_iff.2 ⟨h1, h2, h3⟩)
        go_enter Tryz.func80, Tryz.ntmps80
        go_wp2
        go_ret
        exact ⟨by rw [H.out]; rfl, rfl⟩
      · have H := Lib.hid (show spB lo hi = false from decide_eq_false (fun h => h3 h.2.2))
        go_enter Tryz.func80, Tryz.ntmps80
        go_wp2
        go_ret
        exact ⟨by rw [H.out]; rfl, rfl⟩
    · have H := Lib.hid (show spB lo hi = false from decide_eq_false (fun h => h2 h.2.1))
      go_enter Tryz.func80, Tryz.ntmps80
      go_wp2
      go_ret
      exact ⟨by rw [H.out]; rfl, rfl⟩
  · have H := Lib.hid (show spB lo hi = false from decide_eq_false (fun h => h1 h.1))
    go_enter Tryz.func80, Tryz.ntmps80
    go_wp2
    go_ret
    exact ⟨by rw [H.out]; rfl, rfl⟩
/-- Three numbers: a number and its range. -/
abbrev r3 (n lo hi : Int) : Value := .agg #[.int .i64 n, .int .i64 lo, .int .i64 hi]
theorem aepoch_any (n : Int) (w : World) : Calls Tryz.prog 47 #[.int .i64 n] w fun e w' => e = .returned (r3 n 0 65536) ∧ Below w.heap.size w w' := by
  have HB := Lib.hid ((Below.refl w.heap.size w).alloc (Nat.le_refl _) (.cells #[.int .i64 0, .int .i64 0, .int .i64 0] 71))
  go_enter Tryz.func47, Tryz.ntmps47
  go_wp2
  exact bodyPost_ret (v := r3 n 0 65536) (by simp only [results, Tryz.results47]; go_simp <;> rfl) rfl ⟨rfl, (Below.refl w.heap.size w).alloc (Nat.le_refl _) _⟩
theorem alimit_any (n : Int) (w : World) : Calls Tryz.prog 48 #[.int .i64 n] w fun e w' => e = .returned (r3 n 1 8) ∧ Below w.heap.size w w' := by
  have HB := Lib.hid ((Below.refl w.heap.size w).alloc (Nat.le_refl _) (.cells #[.int .i64 0, .int .i64 0, .int .i64 0] 71))
  go_enter Tryz.func48, Tryz.ntmps48
  go_wp2
  exact bodyPost_ret (v := r3 n 1 8) (by simp only [results, Tryz.results48]; go_simp <;> rfl) rfl ⟨rfl, (Below.refl w.heap.size w).alloc (Nat.le_refl _) _⟩
end Go.Proofs.YtdilgeabcacbdaaGreat
namespace Go.Proofs.YtdilgeabcacbdaaGreat
open Go.RowKit
set_option linter.unusedVariables false

/-- The first message that meets p, -1 if there is none. -/
def fxN (p : Msg → Bool) (l : List Msg) : Int := if l.findIdx p < l.length then (l.findIdx p : Int) else -1
theorem fxN_hit {p : Msg → Bool} {l : List Msg} {k : Nat} (hk : k < l.length) (h : p l[k] = true) (hn : ∀ j (hj : j < l.length), j < k → p l[j] = false) : fxN p l = k := by
  have e : l.findIdx p = k := by
    rw [List.findIdx_eq hk]
    exact ⟨h, fun j hj => hn j (by omega) hj⟩
  unfold fxN
  rw [e, if_pos hk]
theorem fxN_none {p : Msg → Bool} {l : List Msg} (hn : ∀ j (hj : j < l.length), p l[j] = false) : fxN p l = -1 := by
  have e : l.findIdx p = l.length := List.findIdx_eq_length.2 fun M hM => by
    obtain ⟨j, hj, rfl⟩ := List.mem_iff_getElem.1 hM
    exact hn j hj
  unfold fxN
  rw [e, if_neg (Nat.lt_irrefl _)]
theorem fxN_ge {p : Msg → Bool} {l : List Msg} : decide (0 ≤ fxN p l) = l.any p := by
  unfold fxN
  by_cases h : l.findIdx p < l.length
  · rw [if_pos h]
    have e := List.findIdx_getElem (w := h)
    rw [show l.any p = true from List.any_eq_true.2 ⟨_, List.getElem_mem h, e⟩]
    simp
  · rw [if_neg h]
    have e : l.findIdx p = l.length := Nat.le_antisymm List.findIdx_le_length (by omega)
    rw [show l.any p = false from by
      rw [List.any_eq_false]
      intro M hM
      have := List.findIdx_eq_length.1 e M hM
      simp [this]]
    rfl
set_option maxHeartbeats 2000000 in
theorem ixfuncH (A : Option Addr) (n c : Nat) (l : List Msg) (v : Value) (p : Msg → Bool) (I : World → Prop) (w : World) (hv : Ls w w.heap.size (.slice A n c) l) (hI : I w) (hK : ∀ W W', I W → Below W.heap.size W W' → I W')
    (hF : ∀ M W, I W → Calls Tryz.prog 108 #[M.v, v] W fun e w' => e = .returned (.bool (p M)) ∧ Below W.heap.size W w') :
    Calls Tryz.prog 107 #[.slice A n c, .func (.func 108) #[] #[v]] w fun e w' => e = .returned (.int .i64 (fxN p l)) ∧ Below w.heap.size w w' := by
  obtain ⟨rfl, hm1, hm2⟩ := hv.len
  have hL : l.length ≤ 9223372036854775807 := by unfold maxLen at hm2; omega
  have HV := Lib.hid hv
  have HI := Lib.hid hI
  have HK := Lib.hid hK
  have HFF := Lib.hid hF
  have HB := Lib.hid (Below.refl w.heap.size w)
  clear hv hm1 hm2 hI hK hF
  go_enter Tryz.func107, Tryz.ntmps107
  go_wp2
  go_loopw [8] (fun i wr => ∃ k : Nat, k ≤ l.length ∧ i = .int .i64 k ∧ Below w.heap.size w wr ∧ I wr ∧ ∀ j (hj : j < l.length), j < k → p l[j] = false) (fun i _ => l.length - (intOf i).toNat)
  case atStart => exact ⟨0, by omega, rfl, HB.out, HI.out, fun j _ h => absurd h (by omega)⟩
  case round =>
    obtain ⟨k, hk, rfl, hb, hi, hno⟩ := hrel
    have HN := Lib.hid hno
    have HVK := Lib.hid (HV.out.below hb)
    have HIK := Lib.hid hi
    have HB := Lib.hid hb
    clear hno hb hi
    by_cases hlt : k < l.length
    · obtain ⟨b, o, rfl, hb, c0, c1, c2, c3, c4, c5, c6⟩ := HVK.out.at_ hlt
      cases he : p l[k] with
      | true =>
        have HR := Lib.hid (fxN_hit hlt he HN.out)
        have HC := Lib.hid (fun W (h : I W) => HFF.out l[k] W h)
        rw [he] at HC
        clear he
        generalize l[k] = M at *
        go_wp2_with fail
        refine (HC.out _ HIK.out).mono ?_
        rintro e w1 ⟨rfl, hb1⟩
        have HB1 := Lib.hid (HB.out.trans (hb1.mono HB.out.size))
        clear hb1
        go_wp2
        go_ret
        exact ⟨by rw [HR.out]; rfl, HB1.out⟩
      | false =>
        have HC := Lib.hid (fun W (h : I W) => HFF.out l[k] W h)
        rw [he] at HC
        have HNN := Lib.hid (show ∀ j (hj : j < l.length), j < k + 1 → p l[j] = false from fun j hj h => by
          by_cases e : j = k
          · subst e; exact he
          · exact HN.out j hj (by omega))
        clear he
        generalize l[k] = M at *
        go_wp2_with fail
        refine (HC.out _ HIK.out).mono ?_
        rintro e w1 ⟨rfl, hb1⟩
        have HB1 := Lib.hid (HB.out.trans (hb1.mono HB.out.size))
        have HI1 := Lib.hid (HK.out _ _ HIK.out hb1)
        clear hb1
        go_wp2
        go_roundw
        case rel => exact ⟨k + 1, by omega, by go_num, HB1.out, HI1.out, HNN.out⟩
        case measure => simp [intOf]; omega
    · have HR := Lib.hid (fxN_none (p := p) (fun j hj => HN.out j hj (by omega)))
      go_wp2
      go_ret
      exact ⟨by rw [HR.out]; rfl, HB.out⟩

set_option maxHeartbeats 2000000 in
theorem cofuncH (A : Option Addr) (n c : Nat) (l : List Msg) (v : Value) (p : Msg → Bool) (I : World → Prop) (w : World) (hv : Ls w w.heap.size (.slice A n c) l) (hI : I w) (hK : ∀ W W', I W → Below W.heap.size W W' → I W')
    (hF : ∀ M W, I W → Calls Tryz.prog 108 #[M.v, v] W fun e w' => e = .returned (.bool (p M)) ∧ Below W.heap.size W w') :
    Calls Tryz.prog 83 #[.slice A n c, .func (.func 108) #[] #[v]] w fun e w' => e = .returned (.bool (l.any p)) ∧ Below w.heap.size w w' := by
  have HC := Lib.hid (ixfuncH A n c l v p I w hv hI hK hF)
  have HG := Lib.hid (fxN_ge (p := p) (l := l))
  clear hv hI hK hF
  generalize l.any p = b at *
  generalize fxN p l = x at *
  go_enter Tryz.func83, Tryz.ntmps83
  go_wp2_with fail
  refine HC.out.mono ?_
  rintro e w1 ⟨rfl, hb⟩
  have HB := Lib.hid hb
  clear hb
  go_wp2
  go_ret
  exact ⟨by rw [← HG.out]; rfl, HB.out⟩
set_option maxHeartbeats 2000000 in
theorem ixfuncV (A : Option Addr) (n c : Nat) (l : List Msg) (v : Value) (p : Msg → Bool) (I : World → Prop) (w : World) (hv : Ls w w.heap.size (.slice A n c) l) (hI : I w) (hK : ∀ W W', I W → Below W.heap.size W W' → I W')
    (hF : ∀ M W, I W → Calls Tryz.prog 84 #[M.v, v] W fun e w' => e = .returned (.bool (p M)) ∧ Below W.heap.size W w') :
    Calls Tryz.prog 107 #[.slice A n c, .func (.func 84) #[] #[v]] w fun e w' => e = .returned (.int .i64 (fxN p l)) ∧ Below w.heap.size w w' := by
  obtain ⟨rfl, hm1, hm2⟩ := hv.len
  have hL : l.length ≤ 9223372036854775807 := by unfold maxLen at hm2; omega
  have HV := Lib.hid hv
  have HI := Lib.hid hI
  have HK := Lib.hid hK
  have HFF := Lib.hid hF
  have HB := Lib.hid (Below.refl w.heap.size w)
  clear hv hm1 hm2 hI hK hF
  go_enter Tryz.func107, Tryz.ntmps107
  go_wp2
  go_loopw [8] (fun i wr => ∃ k : Nat, k ≤ l.length ∧ i = .int .i64 k ∧ Below w.heap.size w wr ∧ I wr ∧ ∀ j (hj : j < l.length), j < k → p l[j] = false) (fun i _ => l.length - (intOf i).toNat)
  case atStart => exact ⟨0, by omega, rfl, HB.out, HI.out, fun j _ h => absurd h (by omega)⟩
  case round =>
    obtain ⟨k, hk, rfl, hb, hi, hno⟩ := hrel
    have HN := Lib.hid hno
    have HVK := Lib.hid (HV.out.below hb)
    have HIK := Lib.hid hi
    have HB := Lib.hid hb
    clear hno hb hi
    by_cases hlt : k < l.length
    · obtain ⟨b, o, rfl, hb, c0, c1, c2, c3, c4, c5, c6⟩ := HVK.out.at_ hlt
      cases he : p l[k] with
      | true =>
        have HR := Lib.hid (fxN_hit hlt he HN.out)
        have HC := Lib.hid (fun W (h : I W) => HFF.out l[k] W h)
        rw [he] at HC
        clear he
        generalize l[k] = M at *
        go_wp2_with fail
        refine (HC.out _ HIK.out).mono ?_
        rintro e w1 ⟨rfl, hb1⟩
        have HB1 := Lib.hid (HB.out.trans (hb1.mono HB.out.size))
        clear hb1
        go_wp2
        go_ret
        exact ⟨by rw [HR.out]; rfl, HB1.out⟩
      | false =>
        have HC := Lib.hid (fun W (h : I W) => HFF.out l[k] W h)
        rw [he] at HC
        have HNN := Lib.hid (show ∀ j (hj : j < l.length), j < k + 1 → p l[j] = false from fun j hj h => by
          by_cases e : j = k
          · subst e; exact he
          · exact HN.out j hj (by omega))
        clear he
        generalize l[k] = M at *
        go_wp2_with fail
        refine (HC.out _ HIK.out).mono ?_
        rintro e w1 ⟨rfl, hb1⟩
        have HB1 := Lib.hid (HB.out.trans (hb1.mono HB.out.size))
        have HI1 := Lib.hid (HK.out _ _ HIK.out hb1)
        clear hb1
        go_wp2
        go_roundw
        case rel => exact ⟨k + 1, by omega, by go_num, HB1.out, HI1.out, HNN.out⟩
        case measure => simp [intOf]; omega
    · have HR := Lib.hid (fxN_none (p := p) (fun j hj => HN.out j hj (by omega)))
      go_wp2
      go_ret
      exact ⟨by rw [HR.out]; rfl, HB.out⟩

set_option maxHeartbeats 2000000 in
theorem cofuncV (A : Option Addr) (n c : Nat) (l : List Msg) (v : Value) (p : Msg → Bool) (I : World → Prop) (w : World) (hv : Ls w w.heap.size (.slice A n c) l) (hI : I w) (hK : ∀ W W', I W → Below W.heap.size W W' → I W')
    (hF : ∀ M W, I W → Calls Tryz.prog 84 #[M.v, v] W fun e w' => e = .returned (.bool (p M)) ∧ Below W.heap.size W w') :
    Calls Tryz.prog 83 #[.slice A n c, .func (.func 84) #[] #[v]] w fun e w' => e = .returned (.bool (l.any p)) ∧ Below w.heap.size w w' := by
  have HC := Lib.hid (ixfuncV A n c l v p I w hv hI hK hF)
  have HG := Lib.hid (fxN_ge (p := p) (l := l))
  clear hv hI hK hF
  generalize l.any p = b at *
  generalize fxN p l = x at *
  go_enter Tryz.func83, Tryz.ntmps83
  go_wp2_with fail
  refine HC.out.mono ?_
  rintro e w1 ⟨rfl, hb⟩
  have HB := Lib.hid hb
  clear hb
  go_wp2
  go_ret
  exact ⟨by rw [← HG.out]; rfl, HB.out⟩
end Go.Proofs.YtdilgeabcacbdaaGreat
