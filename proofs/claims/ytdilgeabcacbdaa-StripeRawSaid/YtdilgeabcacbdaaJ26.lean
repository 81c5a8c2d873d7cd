/- What is proved here: slices.IndexFunc, slices.ContainsFunc of messages for any function that tells without turning old memory; shard.hasSameID; (plain) the source of numbers that the statements' base reads from: what lies at its block, and how it is kept; Wnp. -/
import Derived.Test.YtdilgeabcacbdaaJ23
import Derived.Test.YtdilgeabcacbdaaJ07
import Derived.Test.YtdilgeabcacbdaaJ08
import Derived.Test.YtdilgeabcacbdaaJ01
import Derived.Deep.AppendLies
import Derived.Maps.AppendAt
import Derived.Test.YtdilgeabcacbdaaJ04
import Derived.ArgAppend
import Derived.BigFrame
namespace Go.Proofs.Ytdilgeabcacbdaa
open Go.RowKit
set_option linter.unusedVariables false

/-- The first message that meets p, -1 if there is none. -/
def fxN (p : Msg → Bool) (l : List Msg) : Int := if l.findIdx p < l.length then (l.findIdx p : Int) else -1
theorem fxN_hit {p : Msg → Bool} {l : List Msg} {k : Nat} (hk : k < l.length) (h : p l[k] = true) (hn : ∀ j (hj : j < l.length), j < k → p l[j] = false) : fxN p l = k := by
  have e : l.findIdx p = k := by
    rw [List.findIdx_eq hk]
    exact ⟨h, fun j hj => hn j (by omega) hj⟩
  unfold fxN
  rw [e, if_pos hk]
theorem fxN_none {p : Msg → Bool} {l : List Msg} (hn : ∀ j (hj : j < l.length), p l[j] = false) : fxN p l = -1 := by
  have e : l.findIdx p = l.length := List.findIdx_eq_length.2 fun M hM => by
    obtain ⟨j, hj, rfl⟩ := List.mem_iff_getElem.1 hM
    exact hn j hj
  unfold fxN
  rw [e, if_neg (Nat.lt_irrefl _)]
theorem fxN_ge {p : Msg → Bool} {l : List Msg} : decide (0 ≤ fxN p l) = l.any p := by
  unfold fxN
  by_cases h : l.findIdx p < l.length
  · rw [if_pos h]
    have e := List.findIdx_getElem (w := h)
    rw [show l.any p = true from List.any_eq_true.2 ⟨_, List.getElem_mem h, e⟩]
    simp
  · rw [if_neg h]
    have e : l.findIdx p = l.length := Nat.le_antisymm List.findIdx_le_length (by omega)
    rw [show l.any p = false from by
      rw [List.any_eq_false]
      intro M hM
      have := List.findIdx_eq_length.1 e M hM
      simp [this]]
    rfl
set_option maxHeartbeats 2000000 in
theorem ixfuncH (A : Option Addr) (n c : Nat) (l : List Msg) (v : Value) (p : Msg → Bool) (I : World → Prop) (w : World) (hv : Ls w w.heap.size (.slice A n c) l) (hI : I w) (hK : ∀ W W', I W → Below W.heap.size W W' → I W')
    (hF : ∀ M W, I W → Calls Try.prog 138 #[M.v, v] W fun e w' => e = .returned (.bool (p M)) ∧ Below W.heap.size W w') :
    Calls Try.prog 137 #[.slice A n c, .func (.func 138) #[] #[v]] w fun e w' => e = .returned (.int .i64 (fxN p l)) ∧ Below w.heap.size w w' := by
  obtain ⟨rfl, hm1, hm2⟩ := hv.len
  have hL : l.length ≤ 9223372036854775807 := by unfold maxLen at hm2; omega
  have HV := Lib.hid hv
  have HI := Lib.hid hI
  have HK := Lib.hid hK
  have HFF := Lib.hid hF
  have HB := Lib.hid (Below.refl w.heap.size w)
  clear hv hm1 hm2 hI hK hF
  go_enter Try.func137, Try.ntmps137
  go_wp2
  go_loopw [8] (fun i wr => ∃ k : Nat, k ≤ l.length ∧ i = .int .i64 k ∧ Below w.heap.size w wr ∧ I wr ∧ ∀ j (hj : j < l.length), j < k → p l[j] = false) (fun i _ => l.length - (intOf i).toNat)
  case atStart => exact ⟨0, by omega, rfl, HB.out, HI.out, fun j _ h => absurd h (by omega)⟩
  case round =>
    obtain ⟨k, hk, rfl, hb, hi, hno⟩ := hrel
    have HN := Lib.hid hno
    have HVK := Lib.hid (HV.out.below hb)
    have HIK := Lib.hid hi
    have HB := Lib.hid hb
    clear hno hb hi
    by_cases hlt : k < l.length
    · obtain ⟨b, o, rfl, hb, c0, c1, c2, c3, c4, c5, c6⟩ := HVK.out.at_ hlt
      cases he : p l[k] with
      | true =>
        have HR := Lib.hid (fxN_hit hlt he HN.out)
        have HC := Lib.hid (fun W (h : I W) => HFF.out l[k] W h)
        rw [he] at HC
        clear he
        generalize l[k] = M at *
        go_wp2_with fail
        refine (HC.out _ HIK.out).mono ?_
        rintro e w1 ⟨rfl, hb1⟩
        have HB1 := Lib.hid (HB.out.trans (hb1.mono HB.out.size))
        clear hb1
        go_wp2
        go_ret
        exact ⟨by rw [HR.out]; rfl, HB1.out⟩
      | false =>
        have HC := Lib.hid (fun W (h : I W) => HFF.out l[k] W h)
        rw [he] at HC
        have HNN := Lib.hid (show ∀ j (hj : j < l.length), j < k + 1 → p l[j] = false from fun j hj h => by
          by_cases e : j = k
          · subst e; exact he
          · exact HN.out j hj (by omega))
        clear he
        generalize l[k] = M at *
        go_wp2_with fail
        refine (HC.out _ HIK.out).mono ?_
        rintro e w1 ⟨rfl, hb1⟩
        have HB1 := Lib.hid (HB.out.trans (hb1.mono HB.out.size))
        have HI1 := Lib.hid (HK.out _ _ HIK.out hb1)
        clear hb1
        go_wp2
        go_roundw
        case rel => exact ⟨k + 1, by omega, by go_num, HB1.out, HI1.out, HNN.out⟩
        case measure => simp [intOf]; omega
    · have HR := Lib.hid (fxN_none (p := p) (fun j hj => HN.out j hj (by omega)))
      go_wp2
      go_ret
      exact ⟨by rw [HR.out]; rfl, HB.out⟩

set_option maxHeartbeats 2000000 in
theorem cofuncH (A : Option Addr) (n c : Nat) (l : List Msg) (v : Value) (p : Msg → Bool) (I : World → Prop) (w : World) (hv : Ls w w.heap.size (.slice A n c) l) (hI : I w) (hK : ∀ W W', I W → Below W.heap.size W W' → I W')
    (hF : ∀ M W, I W → Calls Try.prog 138 #[M.v, v] W fun e w' => e = .returned (.bool (p M)) ∧ Below W.heap.size W w') :
    Calls Try.prog 117 #[.slice A n c, .func (.func 138) #[] #[v]] w fun e w' => e = .returned (.bool (l.any p)) ∧ Below w.heap.size w w' := by
  have HC := Lib.hid (ixfuncH A n c l v p I w hv hI hK hF)
  have HG := Lib.hid (fxN_ge (p := p) (l := l))
  clear hv hI hK hF
  generalize l.any p = b at *
  generalize fxN p l = x at *
  go_enter Try.func117, Try.ntmps117
  go_wp2_with fail
  refine HC.out.mono ?_
  rintro e w1 ⟨rfl, hb⟩
  have HB := Lib.hid hb
  clear hb
  go_wp2
  go_ret
  exact ⟨by rw [← HG.out]; rfl, HB.out⟩
set_option maxHeartbeats 2000000 in
theorem ixfuncV (A : Option Addr) (n c : Nat) (l : List Msg) (v : Value) (p : Msg → Bool) (I : World → Prop) (w : World) (hv : Ls w w.heap.size (.slice A n c) l) (hI : I w) (hK : ∀ W W', I W → Below W.heap.size W W' → I W')
    (hF : ∀ M W, I W → Calls Try.prog 118 #[M.v, v] W fun e w' => e = .returned (.bool (p M)) ∧ Below W.heap.size W w') :
    Calls Try.prog 137 #[.slice A n c, .func (.func 118) #[] #[v]] w fun e w' => e = .returned (.int .i64 (fxN p l)) ∧ Below w.heap.size w w' := by
  obtain ⟨rfl, hm1, hm2⟩ := hv.len
  have hL : l.length ≤ 9223372036854775807 := by unfold maxLen at hm2; omega
  have HV := Lib.hid hv
  have HI := Lib.hid hI
  have HK := Lib.hid hK
  have HFF := Lib.hid hF
  have HB := Lib.hid (Below.refl w.heap.size w)
  clear hv hm1 hm2 hI hK hF
  go_enter Try.func137, Try.ntmps137
  go_wp2
  go_loopw [8] (fun i wr => ∃ k : Nat, k ≤ l.length ∧ i = .int .i64 k ∧ Below w.heap.size w wr ∧ I wr ∧ ∀ j (hj : j < l.length), j < k → p l[j] = false) (fun i _ => l.length - (intOf i).toNat)
  case atStart => exact ⟨0, by omega, rfl, HB.out, HI.out, fun j _ h => absurd h (by omega)⟩
  case round =>
    obtain ⟨k, hk, rfl, hb, hi, hno⟩ := hrel
    have HN := Lib.hid hno
    have HVK := Lib.hid (HV.out.below hb)
    have HIK := Lib.hid hi
    have HB := Lib.hid hb
    clear hno hb hi
    by_cases hlt : k < l.length
    · obtain ⟨b, o, rfl, hb, c0, c1, c2, c3, c4, c5, c6⟩ := HVK.out.at_ hlt
      cases he : p l[k] with
      | true =>
        have HR := Lib.hid (fxN_hit hlt he HN.out)
        have HC := Lib.hid (fun W (h : I W) => HFF.out l[k] W h)
        rw [he] at HC
        clear he
        generalize l[k] = M at *
        go_wp2_with fail
        refine (HC.out _ HIK.out).mono ?_
        rintro e w1 ⟨rfl, hb1⟩
        have HB1 := Lib.hid (HB.out.trans (hb1.mono HB.out.size))
        clear hb1
        go_wp2
        go_ret
        exact ⟨by rw [HR.out]; rfl, HB1.out⟩
      | false =>
        have HC := Lib.hid (fun W (h : I W) => HFF.out l[k] W h)
        rw [he] at HC
        have HNN := Lib.hid (show ∀ j (hj : j < l.length), j < k + 1 → p l[j] = false from fun j hj h => by
          by_cases e : j = k
          · subst e; exact he
          · exact HN.out j hj (by omega))
        clear he
        generalize l[k] = M at *
        go_wp2_with fail
        refine (HC.out _ HIK.out).mono ?_
        rintro e w1 ⟨rfl, hb1⟩
        have HB1 := Lib.hid (HB.out.trans (hb1.mono HB.out.size))
        have HI1 := Lib.hid (HK.out _ _ HIK.out hb1)
        clear hb1
        go_wp2
        go_roundw
        case rel => exact ⟨k + 1, by omega, by go_num, HB1.out, HI1.out, HNN.out⟩
        case measure => simp [intOf]; omega
    · have HR := Lib.hid (fxN_none (p := p) (fun j hj => HN.out j hj (by omega)))
      go_wp2
      go_ret
      exact ⟨by rw [HR.out]; rfl, HB.out⟩

set_option maxHeartbeats 2000000 in
theorem cofuncV (A : Option Addr) (n c : Nat) (l : List Msg) (v : Value) (p : Msg → Bool) (I : World → Prop) (w : World) (hv : Ls w w.heap.size (.slice A n c) l) (hI : I w) (hK : ∀ W W', I W → Below W.heap.size W W' → I W')
    (hF : ∀ M W, I W → Calls Try.prog 118 #[M.v, v] W fun e w' => e = .returned (.bool (p M)) ∧ Below W.heap.size W w') :
    Calls Try.prog 117 #[.slice A n c, .func (.func 118) #[] #[v]] w fun e w' => e = .returned (.bool (l.any p)) ∧ Below w.heap.size w w' := by
  have HC := Lib.hid (ixfuncV A n c l v p I w hv hI hK hF)
  have HG := Lib.hid (fxN_ge (p := p) (l := l))
  clear hv hI hK hF
  generalize l.any p = b at *
  generalize fxN p l = x at *
  go_enter Try.func117, Try.ntmps117
  go_wp2_with fail
  refine HC.out.mono ?_
  rintro e w1 ⟨rfl, hb⟩
  have HB := Lib.hid hb
  clear hb
  go_wp2
  go_ret
  exact ⟨by rw [← HG.out]; rfl, HB.out⟩
end Go.Proofs.Ytdilgeabcacbdaa
namespace Go.Proofs.Ytdilgeabcacbdaa
open Go.RowKit
set_option linter.unusedVariables false

/-- A number of 64 bits as a cell. -/
def i64v (z : Int) : Value := .int .i64 z

/-- Block g, from B on, is a source: a list that lies below B, and a position in it. -/
def SrcAt (W : World) (B g : Nat) : Prop := B ≤ g ∧ g < W.heap.size ∧ ∃ (A : Option Addr) (n c k : Nat) (zs : List Int),
  k ≤ n ∧ n ≤ 4000 ∧ n ≤ c ∧ c ≤ maxLen ∧ W.cell? ⟨g, 0, none⟩ = some (.slice A n c) ∧ W.cell? ⟨g, 1, none⟩ = some (.int .i64 k) ∧ W.frozen? ⟨g, 1, none⟩ = false ∧ Rd W B 1 A n (zs.map i64v) ∧ ∀ z ∈ zs, -9223372036854775808 ≤ z ∧ z ≤ 9223372036854775807

section
variable {W W' : World} {B g h : Nat}
theorem SrcAt.keep (s : SrcAt W B g) (hs : W.heap.size ≤ W'.heap.size) (h0 : ∀ o, W'.cell? ⟨g, o, none⟩ = W.cell? ⟨g, o, none⟩) (h1 : ∀ o, W'.frozen? ⟨g, o, none⟩ = W.frozen? ⟨g, o, none⟩) (hk : ∀ p : Addr, p.block < B → W'.cell? p = W.cell? p) : SrcAt W' B g := by
  obtain ⟨hB, hg, A, n, c, k, zs, a1, a2, a3, a4, a5, a6, a7, a8, a9⟩ := s
  exact ⟨hB, by omega, A, n, c, k, zs, a1, a2, a3, a4, (h0 0).trans a5, (h0 1).trans a6, (h1 1).trans a7, a8.keep hk, a9⟩
theorem SrcAt.grown (s : SrcAt W B g) (hg : W.grownBy W' (some h)) (hne : h ≠ g) (hB : B ≤ h) : SrcAt W' B g :=
  s.keep hg.size (fun o => hg.cell_far _ s.2.1 (fun e => hne (by injection e with e; exact e.symm))) (fun o => hg.frozen_far _ s.2.1 (fun e => hne (by injection e with e; exact e.symm)))
    (fun p hp => hg.cell_far p (by have := s.1; have := s.2.1; omega) (fun e => by injection e with e; omega))
theorem SrcAt.below (s : SrcAt W B g) (hb : Below W.heap.size W W') : SrcAt W' B g :=
  s.keep hb.size (fun o => hb.cell s.2.1) (fun o => hb.frozen s.2.1) (fun p hp => hb.cell (by have := s.1; have := s.2.1; omega))
theorem SrcAt.alloc (s : SrcAt W B g) (o : Obj) : SrcAt (W.alloc o) B g := s.below ((Below.refl _ _).alloc (Nat.le_refl _) o)
theorem SrcAt.drew (s : SrcAt W B g) : SrcAt W.drew B g := s
theorem SrcAt.drewN (s : SrcAt W B g) (n : Nat) : SrcAt (W.drewN n) B g := s
theorem SrcAt.other (s : SrcAt W B g) {p : Addr} (hp : p.block ≠ g) (hB : B ≤ p.block) (v : Value) : SrcAt (W.setCell p v) B g :=
  s.keep (by simp) (fun o => World.cell?_setCell_other W p _ v (fun e => hp (by rw [e]))) (fun o => by rw [World.frozen?_setCell]) (fun q hq => World.cell?_setCell_other W p q v (fun e => by rw [e] at hB; omega))

theorem only_set {a w : World} {g : Nat} (h : a.grownBy w (some g)) {p : Addr} (hp : p.block = g ∨ a.heap.size ≤ p.block) (u : Value) : a.grownBy (w.setCell p u) (some g) :=
  ⟨h.os, h.tape, h.output, by simpa [World.setCell] using h.size, fun i hi hne => (Below.heap_setCell w p u i (by
    rintro rfl
    rcases hp with hp | hp
    · exact hne (by rw [hp])
    · omega)).trans (h.block i hi hne)⟩
end

end Go.Proofs.Ytdilgeabcacbdaa
/- Plain: a list of messages that is cut at both ends and appended to. -/
namespace Go.Proofs.Ytdilgeabcacbdaa
open Go.RowKit
set_option linter.unusedVariables false

/-- A list of messages from block 'base' on, below Bd: it may be appended to in place. -/
def Wn (W : World) (base Bd : Nat) (v : Value) (l : List Msg) : Prop := ∃ A c, v = .slice A l.length c ∧ l.length ≤ c ∧ c ≤ maxLen ∧ (A = none → c = 0) ∧
  (0 < c → ∃ b o, A = some ⟨b, o, none⟩ ∧ base ≤ b ∧ b < Bd ∧ (∀ j u, (lcs l)[j]? = some u → W.cell? ⟨b, o + j, none⟩ = some u) ∧ ∀ j, j < c * 7 → (W.cell? ⟨b, o + j, none⟩).isSome = true ∧ W.frozen? ⟨b, o + j, none⟩ = false)
section
variable {W W' : World} {base Bd Bd' : Nat} {v : Value} {l : List Msg} {A : Option Addr} {n c : Nat}
theorem Wn.nil : Wn W base Bd (.slice none 0 0) [] := ⟨none, 0, rfl, Nat.le_refl _, Nat.zero_le _, fun _ => rfl, fun h => absurd h (by omega)⟩
theorem Wn.more (h : Wn W base Bd v l) (hB : Bd ≤ Bd') : Wn W base Bd' v l := by
  obtain ⟨A, c, e, h1, h2, h3, h4⟩ := h
  exact ⟨A, c, e, h1, h2, h3, fun h0 => by obtain ⟨b, o, e, k1, k2, k3⟩ := h4 h0; exact ⟨b, o, e, k1, by omega, k3⟩⟩
theorem Wn.keep (h : Wn W base Bd v l) (hc : ∀ b o, base ≤ b → b < Bd → W'.cell? ⟨b, o, none⟩ = W.cell? ⟨b, o, none⟩ ∧ W'.frozen? ⟨b, o, none⟩ = W.frozen? ⟨b, o, none⟩) : Wn W' base Bd v l := by
  obtain ⟨A, c, e, h1, h2, h3, h4⟩ := h
  refine ⟨A, c, e, h1, h2, h3, fun h0 => ?_⟩
  obtain ⟨b, o, e, k1, k2, k3, k4⟩ := h4 h0
  exact ⟨b, o, e, k1, k2, fun j u hu => (hc b _ k1 k2).1.trans (k3 j u hu), fun j hj => ⟨by rw [(hc b (o + j) k1 k2).1]; exact (k4 j hj).1, (hc b (o + j) k1 k2).2.trans (k4 j hj).2⟩⟩
theorem Wn.below (h : Wn W base Bd v l) (hB : Bd ≤ W.heap.size) (hb : Below W.heap.size W W') : Wn W' base Bd v l :=
  h.keep fun b o _ h2 => ⟨hb.cell (p := ⟨b, o, none⟩) (by show b < _; omega), hb.frozen (p := ⟨b, o, none⟩) (by show b < _; omega)⟩
theorem Wn.grown (h : Wn W base Bd v l) (hB : Bd ≤ W.heap.size) {row : Option Nat} (hg : W.grownBy W' row) (hr : ∀ x, row = some x → x < base ∨ Bd ≤ x) : Wn W' base Bd v l :=
  h.keep fun b o h1 h2 => ⟨hg.cell_far ⟨b, o, none⟩ (by show b < _; omega) (fun e => by have := hr b e.symm; omega), hg.frozen_far ⟨b, o, none⟩ (by show b < _; omega) (fun e => by have := hr b e.symm; omega)⟩
theorem Wn.alloc (h : Wn W base Bd v l) (hB : Bd ≤ W.heap.size) (o : Obj) : Wn (W.alloc o) base Bd v l := h.below hB ((Below.refl _ _).alloc (Nat.le_refl _) o)
theorem Wn.drewN (h : Wn W base Bd v l) (k : Nat) : Wn (W.drewN k) base Bd v l := h
theorem Wn.set (h : Wn W base Bd v l) {p : Addr} (hp : p.block < base ∨ Bd ≤ p.block) (u : Value) : Wn (W.setCell p u) base Bd v l :=
  h.keep fun b o h1 h2 => ⟨World.cell?_setCell_other W p ⟨b, o, none⟩ u (fun e => by subst e; simp at hp; omega), by rw [World.frozen?_setCell]⟩
theorem Wn.ls (h : Wn W base Bd v l) : Ls W Bd v l := by
  obtain ⟨A, c, e, h1, h2, h3, h4⟩ := h
  refine ⟨A, c, e, h1, h2, by rw [lcs_len], fun h0 => ?_⟩
  obtain ⟨b, o, e, k1, k2, k3, _⟩ := h4 (by omega)
  exact ⟨b, o, e, k2, k3⟩
theorem Wn.form (h : Wn W base Bd v l) : ∃ A c, v = .slice A l.length c := by obtain ⟨A, c, e, _⟩ := h; exact ⟨A, c, e⟩
theorem Wn.own {base' : Nat} {e : TypeId} (h : W.ownsRow base' e 7 v l.length (lcs l)) (hb : base ≤ base') : Wn W base W.heap.size v l := by
  rcases h.2 with ⟨hv, h0⟩ | ⟨g, cap, cur, hv, hg, hh, hl, hm, hs, ht⟩
  · have hl : l = [] := List.length_eq_zero_iff.1 h0
    subst hl
    subst hv
    exact Wn.nil
  · subst hv
    refine ⟨_, cap, rfl, hl, hm, fun h => by simp at h, fun _ => ⟨g, 0, rfl, by omega, (Array.getElem?_eq_some_iff.1 hh).1, fun j u hu => by have := h.cells (g := g) rfl j u hu; rwa [add_mk] at this, fun j hj => ⟨?_, by rw [Nat.zero_add]; exact h.frozenAt j⟩⟩⟩
    rw [Nat.zero_add]
    have hj' : j < cur.size := by omega
    simp [World.cell?, hh, hj']
/-- It is cut at its end. -/
theorem Wn.upto (h : Wn W base Bd (.slice A n c) l) (j : Nat) (hj : j ≤ n) : Wn W base Bd (.slice A j c) (l.take j) := by
  obtain ⟨A', c', e, h1, h2, h3, h4⟩ := h
  injection e with e1 e2 e3
  subst e1; subst e3
  have hl : (l.take j).length = j := by rw [List.length_take]; omega
  refine ⟨A, c, by rw [hl], by omega, h2, h3, fun h0 => ?_⟩
  obtain ⟨b, o, e, k1, k2, k3, k4⟩ := h4 h0
  refine ⟨b, o, e, k1, k2, fun i u hu => k3 i u ?_, k4⟩
  rw [← lcs_take] at hu
  rw [List.getElem?_take] at hu
  split at hu
  · exact hu
  · simp at hu
theorem only_sets {a w : World} {g : Nat} : ∀ (vs : List Value) (m : Nat) (w : World), a.grownBy w (some g) → a.grownBy (w.setCells g m vs) (some g)
  | [], _, _, h => h
  | v :: r, m, w, h => only_sets (w := w) r (m + 1) _ (only_set h (p := ⟨g, m, none⟩) (.inl rfl) v)
/-- In place. -/
theorem Wn.room (h : Wn W base Bd (.slice A l.length c) l) (hc : l.length + 1 ≤ c) {b o : Nat} (hA : A = some ⟨b, o, none⟩) (M : Msg) : Wn (W.setCells b (o + l.length * 7) M.l) base Bd (.slice A (l.length + 1) c) (l ++ [M]) := by
  obtain ⟨A', c', e, h1, h2, h3, h4⟩ := h
  injection e with e1 e2 e3
  subst e1; subst e3
  refine ⟨A, c, by simp, by simpa using hc, h2, h3, fun h0 => ?_⟩
  obtain ⟨b', o', e, k1, k2, k3, k4⟩ := h4 h0
  rw [hA] at e
  injection e with e
  injection e with e1 e2 _
  subst e1; subst e2
  refine ⟨b, o, hA, k1, k2, fun j u hu => ?_, fun j hj => ⟨?_, by rw [World.frozen?_setCells]; exact (k4 j hj).2⟩⟩
  · have hll := lcs_len l
    rw [lcs_app] at hu
    by_cases hj : j < (lcs l).length
    · rw [List.getElem?_append_left hj] at hu
      rw [World.cell?_setCells_out b M.l (o + l.length * 7) W ⟨b, o + j, none⟩ (fun _ _ => by left; show o + j < o + l.length * 7; omega)]
      exact k3 j u hu
    · rw [List.getElem?_append_right (by omega)] at hu
      have hM : lcs [M] = M.l := by simp [lcs]
      rw [hM] at hu
      have hjl : j - (lcs l).length < 7 := (List.getElem?_eq_some_iff.1 hu).1
      have e : o + j = o + l.length * 7 + (j - (lcs l).length) := by omega
      rw [e, World.cell?_setCells_in b M.l (o + l.length * 7) W (fun i hi => by rw [Nat.add_assoc]; exact (k4 (l.length * 7 + i) (by rw [Msg.l_len] at hi; omega)).1) (j - (lcs l).length) (by rw [Msg.l_len]; exact hjl)]
      rw [← hu]
      exact (List.getElem?_eq_getElem _).symm
  · by_cases hj2 : l.length * 7 ≤ j ∧ j < l.length * 7 + 7
    · have e : o + j = o + l.length * 7 + (j - l.length * 7) := by omega
      rw [e, World.cell?_setCells_in b M.l (o + l.length * 7) W (fun i hi => by rw [Nat.add_assoc]; exact (k4 (l.length * 7 + i) (by rw [Msg.l_len] at hi; omega)).1) (j - l.length * 7) (by rw [Msg.l_len]; omega)]
      rfl
    · rw [World.cell?_setCells_out b M.l (o + l.length * 7) W ⟨b, o + j, none⟩ (fun _ _ => by rw [Msg.l_len]; show o + j < o + l.length * 7 ∨ o + l.length * 7 + 7 ≤ o + j; omega)]
      exact (k4 j hj).1
end
/-- A message is appended: in place or not. -/
theorem wpList_append_wn {P : Program} (w : World) {ops : Array Oper} {rest : List Oper} {o : Oper} {a : Act} {Q : Exit → Act → World → Prop}
    (hg : o.guard = none) (s x : Operand) (t : TypeId) (hop : o.op = Op.call { callee := Callee.builtin Builtin.append, args := #[s, x], argTypes := #[t, t] })
    (e : TypeId) (i : TypeInfo) (z : Value) (bytes : Nat) (h1 : P.underlying t = some (.slice e)) (h2 : P.info? e = some i) (h3 : i.zero = some z) (h4 : i.size = 7) (h5 : i.bytes = bytes) (h6 : z.cells.size = 7)
    (base Bd : Nat) (A : Option Addr) (c : Nat) (l : List Msg) (hs : a.eval s = .slice A l.length c) (hw : Wn w base Bd (.slice A l.length c) l) (hbs : base ≤ w.heap.size) (hBd : Bd ≤ w.heap.size)
    (ad : Addr) (cx : Nat) (M : Msg) (hx : a.eval x = .slice (some ad) 1 cx) (hc : ∀ j u, M.l[j]? = some u → w.cell? (ad.add j) = some u)
    (b1 : l.length + 1 ≤ maxLen) (b2 : (l.length + 1) * bytes ≤ 140737488355328)
    (h : ∀ v' w', Wn w' base w'.heap.size v' (l ++ [M]) → (∃ row, w.grownBy w' row ∧ ∀ q, row = some q → base ≤ q ∧ q < Bd) → wpList P ops Q rest (a.put o.dst v') w') :
    wpList P ops Q (o :: rest) a w := by
  have hM : M.l.length = 1 * 7 := rfl
  have hnone : ∀ q, (none : Option Nat) = some q → base ≤ q ∧ q < Bd := fun q e => by cases e
  have hown : ∀ v' w', w'.ownsRow w.heap.size e 7 v' (l.length + 1) (lcs l ++ M.l) → Wn w' base w'.heap.size v' (l ++ [M]) := fun v' w' h => by
    refine Wn.own (base' := w.heap.size) (e := e) ?_ hbs
    have hM1 : lcs [M] = M.l := by simp [lcs]
    rw [lcs_app, hM1, List.length_append]
    exact h
  obtain ⟨A', c', e', k1, k2, k3, k4⟩ := id hw
  injection e' with e1 _ e3
  subst e1; subst e3
  by_cases h0 : 0 < c
  · obtain ⟨b, off, rfl, p1, p2, p3, p4⟩ := k4 h0
    refine wpList_append_arg w hg s x t hop e i z 7 bytes h1 h2 h3 h4 h5 h6 (by omega) b off l.length c (lcs l) hs (lcs_len l) p3 ad 1 cx M.l hx hM hc M.l_one (fun hr j hj => by rw [Nat.add_assoc]; exact p4 (l.length * 7 + j) (by rw [Msg.l_len] at hj; omega)) b1 b2 (fun hr => ?_) (fun hr v' w' ho hgr => h v' w' (hown v' w' ho) ⟨none, hgr, hnone⟩)
    refine h _ _ ?_ ⟨some b, only_sets (w := w) _ _ _ (World.grownBy.refl w (some b)), fun q e => by injection e with e; subst e; exact ⟨p1, p2⟩⟩
    exact (hw.room hr rfl M).more (by rw [sets_size]; exact hBd)
  · have hl0 : l = [] := List.length_eq_zero_iff.1 (by omega)
    subst hl0
    refine wpList_append_grows w hg s x t hop e i z 7 bytes h1 h2 h3 h4 h5 h6 (by omega) A 0 c [] hs (fun hn => ⟨rfl, k3 hn⟩) rfl (fun b _ j u hu => by simp at hu) ad 1 cx M.l hx hM hc M.l_one (by omega) b1 b2 (fun v' w' ho hgr => h v' w' (hown v' w' (by simpa [lcs] using ho)) ⟨none, hgr, hnone⟩)
end Go.Proofs.Ytdilgeabcacbdaa
