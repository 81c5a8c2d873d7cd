/- What is proved here: shardqueueref04.order returns the messages of a ring in order; '==' and '!=' of a message and itself; '==' and '!=' of two messages. -/
import Derived.Test.YtdilgeabcacbdaaJ05
import Derived.Deep.RegionHeld3
import Derived.Deep.DrawnRows
import Derived.Deep.AppendLies
import Derived.Test.YtdilgeabcacbdaaJ01
import Derived.Laws.StructEq
import Derived.KernelRfl
namespace Go.Proofs.Ytdilgeabcacbdaa
open Go.RowKit
set_option linter.unusedVariables false

/-- A list of messages of the call's own, that may be appended to. -/
def LsO (l : List Msg) (w : World) (e : Ending) (w' : World) : Prop := ∃ v, e = .returned v ∧ w'.ownsRow w.heap.size 92 7 v l.length (lcs l) ∧ Below w.heap.size w w'
theorem ord_succ {cs : List Msg} {hd k : Nat} : ord cs hd (k + 1) = ord cs hd k ++ [cel cs hd k] := by
  unfold ord
  rw [List.range_succ, List.map_append]
  rfl
/-- A ring in a block, and what was made beside it. -/
structure RgAt (w : World) (p : Nat) (A : Option Addr) (n c : Nat) (hd sz : Int) (W : World) : Prop where
  c0 : W.cell? ⟨p, 0, none⟩ = some (.slice A n c)
  c1 : W.cell? ⟨p, 1, none⟩ = some (.int .i64 hd)
  c2 : W.cell? ⟨p, 2, none⟩ = some (.int .i64 sz)
  bel : Below w.heap.size w W
  old : w.heap.size ≤ p ∧ p < W.heap.size
section
variable {w W W' : World} {p n c : Nat} {A : Option Addr} {hd sz : Int}
theorem RgAt.facts (h : RgAt w p A n c hd sz W) : W.cell? ⟨p, 0, none⟩ = some (.slice A n c) ∧ W.cell? ⟨p, 1, none⟩ = some (.int .i64 hd) ∧ W.cell? ⟨p, 2, none⟩ = some (.int .i64 sz) ∧ p < W.heap.size := ⟨h.c0, h.c1, h.c2, h.old.2⟩
theorem RgAt.below (h : RgAt w p A n c hd sz W) (hb : Below W.heap.size W W') : RgAt w p A n c hd sz W' :=
  ⟨(hb.cell (p := ⟨p, 0, none⟩) h.old.2).trans h.c0, (hb.cell (p := ⟨p, 1, none⟩) h.old.2).trans h.c1, (hb.cell (p := ⟨p, 2, none⟩) h.old.2).trans h.c2, h.bel.trans (hb.mono h.bel.size), h.old.1, Nat.lt_of_lt_of_le h.old.2 hb.size⟩
theorem RgAt.drew (h : RgAt w p A n c hd sz W) : RgAt w p A n c hd sz W.drew := ⟨h.c0, h.c1, h.c2, h.bel.drew, h.old⟩
theorem RgAt.drewN (h : RgAt w p A n c hd sz W) (k : Nat) : RgAt w p A n c hd sz (W.drewN k) := ⟨h.c0, h.c1, h.c2, below_drewN h.bel k, h.old⟩
theorem RgAt.alloc (h : RgAt w p A n c hd sz W) (o : Obj) : RgAt w p A n c hd sz (W.alloc o) := h.below ((Below.refl _ _).alloc (Nat.le_refl _) o)
/-- Something was written behind the ring. -/
theorem RgAt.grown (h : RgAt w p A n c hd sz W) {row : Option Nat} (hg : W.grownBy W' row) (hr : ∀ k, row = some k → p < k) : RgAt w p A n c hd sz W' := by
  have e : ∀ o, W'.cell? ⟨p, o, none⟩ = W.cell? ⟨p, o, none⟩ := fun o => hg.cell_far ⟨p, o, none⟩ h.old.2 (fun e => by have := hr p e.symm; omega)
  exact ⟨(e 0).trans h.c0, (e 1).trans h.c1, (e 2).trans h.c2, h.bel.grown hg h.bel.size (fun k hk => by have := hr k hk; have := h.old.1; omega), h.old.1, Nat.lt_of_lt_of_le h.old.2 hg.size⟩
theorem RgAt.start (w : World) (A : Option Addr) (n c : Nat) (hd sz : Int) (t : TypeId) : RgAt w w.heap.size A n c hd sz (w.alloc (.cells #[.slice A n c, .int .i64 hd, .int .i64 sz] t)) :=
  ⟨by simp [go_sem], by simp [go_sem], by simp [go_sem], (Below.refl _ _).alloc (Nat.le_refl _) _, Nat.le_refl _, by simp⟩
end

/-- What a round reads: the ring and a message. -/
abbrev S8 (p : Nat) (A : Option Addr) (n c : Nat) (hd : Int) (b m : Nat) (X : Msg) (W : World) : Prop := W.cell? ⟨p, 0, none⟩ = some (.slice A n c) ∧ W.cell? ⟨p, 1, none⟩ = some (.int .i64 hd) ∧ W.cell? ⟨b, m, none⟩ = some (.int .i64 X.id) ∧ W.cell? ⟨b, m + 1, none⟩ = some (.int .i64 X.rt) ∧ W.cell? ⟨b, m + 2, none⟩ = some (.int .i64 X.ep) ∧ W.cell? ⟨b, m + 3, none⟩ = some (.int .i64 X.ct) ∧ W.cell? ⟨b, m + 4, none⟩ = some (.int .i64 X.gn) ∧ W.cell? ⟨b, m + 5, none⟩ = some (.int .i64 X.st) ∧ W.cell? ⟨b, m + 6, none⟩ = some (.string X.bd)
theorem s8_mk {w W : World} {p n c : Nat} {A : Option Addr} {hd sz : Int} {b m : Nat} {X : Msg} (h : RgAt w p A n c hd sz W) (hc : C7 W b m X) : S8 p A n c hd b m X W := ⟨h.c0, h.c1, hc⟩
theorem C7.grown {W W' : World} {b m p : Nat} {X : Msg} {row : Option Nat} (h : C7 W b m X) (hg : W.grownBy W' row) (hb : b < p) (hp : p < W.heap.size) (hr : ∀ k, row = some k → p < k) : C7 W' b m X := by
  have e : ∀ o, W'.cell? ⟨b, o, none⟩ = W.cell? ⟨b, o, none⟩ := fun o => hg.cell_far ⟨b, o, none⟩ (show b < W.heap.size by omega) (fun e => by have := hr b e.symm; omega)
  obtain ⟨c0, c1, c2, c3, c4, c5, c6⟩ := h
  exact ⟨(e _).trans c0, (e _).trans c1, (e _).trans c2, (e _).trans c3, (e _).trans c4, (e _).trans c5, (e _).trans c6⟩

theorem own_far {W : World} {p k : Nat} {e : TypeId} {v : Value} {xs : List Value} {size : Nat} (hown : W.ownsRow (p + 1) e size v k xs) : ∀ x, v.ownBlock = some x → p < x := by
  intro x hx
  rcases hown.2 with ⟨hv, _⟩ | ⟨g, cap, cur, hv, hg, _⟩
  · subst hv; simp [Value.ownBlock] at hx
  · subst hv; simp [Value.ownBlock] at hx; omega
theorem ord_step {w W W1 Wo : World} {p n c k k1 b m : Nat} {A : Option Addr} {hd sz : Int} {X : Msg} {e : TypeId} {v v1 : Value} {xs ys : List Value} (hr : RgAt w p A n c hd sz W) (hc : C7 W b m X) (hbp : b < p) (hown : Wo.ownsRow (p + 1) e 7 v k xs) (hg : W.grownBy W1 v.ownBlock) (h1 : W1.ownsRow (p + 1) e 7 v1 k1 ys) :
    RgAt w p A n c hd sz W1 ∧ W1.ownsRow (p + 1) e 7 v1 k1 ys ∧ S8 p A n c hd b m X W1 :=
  ⟨hr.grown hg (own_far hown), h1, s8_mk (hr.grown hg (own_far hown)) (hc.grown hg hbp hr.old.2 (own_far hown))⟩

attribute [local go_sem ↓] Go.wp_at_zero Go.wp_at_succ
set_option maxHeartbeats 4000000 in
set_option maxRecDepth 20000 in
theorem rorder_own (A : Option Addr) (n c : Nat) (cs : List Msg) (hd sz : Nat) (w : World) (hv : Ls w w.heap.size (.slice A n c) cs) (hn : nmB cs.length hd sz = true) :
    Calls Try.prog 98 #[.agg #[.slice A n c, .int .i64 hd, .int .i64 sz]] w (LsO (ord cs hd sz) w) := by
  obtain ⟨rfl, hm1, hm2⟩ := hv.len
  obtain ⟨⟨n1, n2⟩, ⟨h1, h2⟩, ⟨s1, s2⟩⟩ := nm_of hn
  obtain ⟨i0, hi0, hz0⟩ := Option.map_eq_some_iff.1 info_msg
  simp only [Prod.mk.injEq] at hz0
  have HI := Lib.hid hi0
  have HZ := Lib.hid hz0
  have HV := Lib.hid hv
  clear hv hn hi0 hz0
  go_enter Try.func98, Try.ntmps98
  go_wp2
  have HS := Lib.hid (RgAt.start w A cs.length c hd sz 26)
  obtain ⟨p, hp⟩ : ∃ p, p = w.heap.size := ⟨_, rfl⟩
  rw [← hp] at HS ⊢
  have HPP := Lib.hid hp
  clear hp
  go_loopw [3, 4] (fun s i wr => ∃ k : Nat, k ≤ sz ∧ i = .int .i64 k ∧ RgAt w p A cs.length c hd sz wr ∧ wr.ownsRow (p + 1) 92 7 s k (lcs (ord cs hd k))) (fun _ i _ => sz - (intOf i).toNat)
  case atStart => exact ⟨0, by omega, rfl, HS.out, World.ownsRow_nil _ _ _ _⟩
  case round =>
    obtain ⟨k, hk, rfl, hr, hown⟩ := hrel
    obtain ⟨As, cap, rfl⟩ := own_form hown
    have HR := Lib.hid hr
    have HO := Lib.hid hown
    have HVK := Lib.hid (HV.out.below hr.bel)
    obtain ⟨r0, r1, r2, hpl⟩ := hr.facts
    clear hr hown
    by_cases hlt : k < sz
    · obtain ⟨m, hm⟩ : ∃ m, m = (hd + k) % cs.length := ⟨_, rfl⟩
      have hml : m < cs.length := by rw [hm]; exact Nat.mod_lt _ (by omega)
      have HX := Lib.hid (cel_get (by omega) m hm hml)
      have hmi : ((hd : Int) + (k : Int)) % (cs.length : Int) = (m : Int) := by rw [hm]; simp
      have hhk : IntKind.i64.wrap ((hd : Int) + (k : Int)) = (hd : Int) + (k : Int) := IntWalk.i64_in _ (by omega)
      have hn0 : (0 : Int) < (cs.length : Int) := by omega
      have hnb0 : ((cs.length : Int) == 0) = false := beq_eq_false_iff_ne.2 (by omega)
      have hnl0 : ¬ (cs.length = 0) := by omega
      have hnil : ¬ (cs = []) := fun e => by rw [e] at n1; simp at n1
      have hmt : ((hd : Int) + (k : Int)).tmod (cs.length : Int) = (m : Int) := by rw [Int.tmod_eq_emod_of_nonneg (show 0 ≤ (hd : Int) + (k : Int) by omega)]; exact hmi
      have hmw : IntKind.i64.wrap (m : Int) = (m : Int) := IntWalk.i64_in _ (by omega)
      obtain ⟨b, o, rfl, hb, hc⟩ := HVK.out.at_ hml
      generalize cs[m] = X at *
      have hml' : (m : Int) < (cs.length : Int) := by omega
      have hRA := HR.out.drew.alloc (.cells X.cs 92)
      have HS0 := Lib.hid (s8_mk (X := X) HR.out.drew hc)
      have hCA : C7 (wr.drew.alloc (.cells X.cs 92)) b (o + m * 7) X := C7.below (W := wr.drew) hc ((Below.refl wr.drew.heap.size wr.drew).alloc (Nat.le_refl _) _) (show b < wr.drew.heap.size by show b < wr.heap.size; have := HPP.out; omega)
      have HS1 := Lib.hid (s8_mk (X := X) hRA hCA)
      have HOA := Lib.hid (HO.out.alloc (.cells X.cs 92))
      have HRA := Lib.hid hRA
      have HCA := Lib.hid hCA
      have HBP := Lib.hid (show b < p by have := HPP.out; omega)
      clear hm hRA hCA hc hb
      go_wp2
      go_region_held3 (fun W => W.cell? ⟨p, 0, none⟩ = some (.slice (some ⟨b, o, none⟩) cs.length c) ∧ W.cell? ⟨p, 1, none⟩ = some (.int .i64 hd) ∧ W.cell? ⟨b, o + m * 7, none⟩ = some (.int .i64 X.id) ∧ W.cell? ⟨b, o + m * 7 + 1, none⟩ = some (.int .i64 X.rt) ∧ W.cell? ⟨b, o + m * 7 + 2, none⟩ = some (.int .i64 X.ep) ∧ W.cell? ⟨b, o + m * 7 + 3, none⟩ = some (.int .i64 X.ct) ∧ W.cell? ⟨b, o + m * 7 + 4, none⟩ = some (.int .i64 X.gn) ∧ W.cell? ⟨b, o + m * 7 + 5, none⟩ = some (.int .i64 X.st) ∧ W.cell? ⟨b, o + m * 7 + 6, none⟩ = some (.string X.bd))
        (first | exact HS0.out | exact HS1.out | exact HS2.out)
        (first
        | (refine step_append_lies _ (by rfl) _ _ _ (by rfl) (p + 1) 92 i0 _ 7 64 Try.underlying24 HI.out HZ.out.1 HZ.out.2.1 HZ.out.2.2 rfl (by omega) (.slice As k cap) k (lcs (ord cs hd k)) (by rfl) HOA.out ⟨wr.heap.size, 0, none⟩ 1 1 X.l (by rfl) (by simp [Msg.l_len]) (World.news_of_block (cs := X.cs) (t := 92) (fr := (0, 0)) (heap_alloc_new wr.drew _)) X.l_one (by omega) (by unfold maxLen; omega) (by omega) HRA.out.old.2 _ rfl ?_; intro g1 cap1 w1 hown1 hgrow1 hat1 hlt1; have HFN := Lib.hid (ord_step HRA.out HCA.out HBP.out HO.out hgrow1 hown1); have HS2 := Lib.hid HFN.out.2.2; clear hown1 hgrow1 hat1 hlt1))
      have HOK := Lib.hid (show w1.ownsRow (p + 1) 92 7 (.slice (some ⟨g1, 0, none⟩) (k + 1) cap1) (k + 1) (lcs (ord cs hd (k + 1))) by
        rw [ord_succ, lcs_app, ← HX.out]
        simpa [lcs] using HFN.out.2.1)
      have HRK := Lib.hid HFN.out.1
      clear hn0 hnb0 hnl0 hnil hmt hmw hhk hmi
      go_wp2
      go_roundw
      case rel => exact ⟨k + 1, by omega, by go_num, HRK.out, HOK.out⟩
      case measure => simp [intOf]; omega
    · obtain rfl : k = sz := by omega
      have HF := Lib.hid (show wr.ownsRow w.heap.size 92 7 (.slice As k cap) (ord cs hd k).length (lcs (ord cs hd k)) by rw [ord_len]; exact own_low HO.out (by have := HPP.out; omega))
      go_wp2
      go_ret
      exact ⟨_, rfl, HF.out, HR.out.bel⟩

theorem LsO.lsP {l : List Msg} {w : World} {e : Ending} {w' : World} (h : LsO l w e w') : LsP l w e w' := by
  obtain ⟨v, he, ho, hb⟩ := h
  exact ⟨v, he, nwv_own ho (Nat.le_refl _), Ls.of_own ho, hb⟩
theorem rorder_any (A : Option Addr) (n c : Nat) (cs : List Msg) (hd sz : Nat) (w : World) (hv : Ls w w.heap.size (.slice A n c) cs) (hn : nmB cs.length hd sz = true) :
    Calls Try.prog 98 #[.agg #[.slice A n c, .int .i64 hd, .int .i64 sz]] w (LsP (ord cs hd sz) w) :=
  (rorder_own A n c cs hd sz w hv hn).mono fun _ _ h => h.lsP
end Go.Proofs.Ytdilgeabcacbdaa
namespace Go.Proofs.Ytdilgeabcacbdaa
open Go.RowKit
set_option linter.unusedVariables false

theorem eqm_in (M : Msg) (W : World) : (Op.equalIn 10000 92 M.v M.v).run Try.prog W = .ok true W := by
  have u3 := Try.underlying3
  have u9 := Try.underlying9
  have hS : Try.prog.underlying 92 = some (.struct (Try.prog.fieldsOf 92)) := by kernel_rfl
  have hp : Try.prog.stoodInHeld 92 = false := by kernel_rfl
  rw [show (10000 : Nat) = 9999 + 1 from rfl, run_equalIn_agg W 9999 92 _ _ hS hp]
  simp only [Program.fieldsOf, Try.underlying92]
  go_simp
theorem neqm (M : Msg) : ∀ W, (binOp .neq 92 M.v M.v).run Try.prog W = .ok (.bool false) W := fun W => by
  rw [run_neq_struct, eqm_in]; rfl
end Go.Proofs.Ytdilgeabcacbdaa
namespace Go.Proofs.Ytdilgeabcacbdaa
open Go.RowKit
set_option linter.unusedVariables false

theorem msg_ext {M N : Msg} (h0 : M.id = N.id) (h1 : M.rt = N.rt) (h2 : M.ep = N.ep) (h3 : M.ct = N.ct) (h4 : M.gn = N.gn) (h5 : M.st = N.st) (h6 : M.bd = N.bd) : M = N := by
  cases M; cases N; simp_all
theorem bytes_ne {a b : ByteArray} (h : a ≠ b) : (a.toList == b.toList) = false := by
  rw [← beq_toListBytes]
  cases e : (a == b) with
  | false => rfl
  | true =>
    obtain ⟨x⟩ := a
    obtain ⟨y⟩ := b
    have e' : (x == y) = true := e
    exact absurd (by rw [beq_iff_eq.1 e']) h
theorem eqm_no (M N : Msg) (h : M ≠ N) (W : World) : (Op.equalIn 10000 92 M.v N.v).run Try.prog W = .ok false W := by
  have u3 := Try.underlying3
  have u9 := Try.underlying9
  have hS : Try.prog.underlying 92 = some (.struct (Try.prog.fieldsOf 92)) := by kernel_rfl
  have hp : Try.prog.stoodInHeld 92 = false := by kernel_rfl
  rw [show (10000 : Nat) = 9999 + 1 from rfl, run_equalIn_agg W 9999 92 _ _ hS hp]
  simp only [Program.fieldsOf, Try.underlying92]
  by_cases h0 : M.id = N.id
  · by_cases h1 : M.rt = N.rt
    · by_cases h2 : M.ep = N.ep
      · by_cases h3 : M.ct = N.ct
        · by_cases h4 : M.gn = N.gn
          · by_cases h5 : M.st = N.st
            · have h6 : M.bd ≠ N.bd := fun h6 => h (msg_ext h0 h1 h2 h3 h4 h5 h6)
              have h6' := bytes_ne h6
              clear h h6
              go_simp
            · have h5' : (M.st == N.st) = false := by simpa using h5
              clear h h5
              go_simp
          · have h4' : (M.gn == N.gn) = false := by simpa using h4
            clear h h4
            go_simp
        · have h3' : (M.ct == N.ct) = false := by simpa using h3
          clear h h3
          go_simp
      · have h2' : (M.ep == N.ep) = false := by simpa using h2
        clear h h2
        go_simp
    · have h1' : (M.rt == N.rt) = false := by simpa using h1
      clear h h1
      go_simp
  · have h0' : (M.id == N.id) = false := by simpa using h0
    clear h h0
    go_simp
theorem neqm_ne (M N : Msg) (h : M ≠ N) : ∀ W, (binOp .neq 92 M.v N.v).run Try.prog W = .ok (.bool true) W := fun W => by
  rw [run_neq_struct, eqm_no M N h]; rfl
end Go.Proofs.Ytdilgeabcacbdaa
