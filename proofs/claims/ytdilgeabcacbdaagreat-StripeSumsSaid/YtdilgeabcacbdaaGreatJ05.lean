/- What is proved here: '==' and '!=' of a message and itself; '==' and '!=' of two messages; ring.find (over slices.IndexFunc and its closure) by one contract; cuts of a list of messages: what the walk gets, and how it reads. -/
import Derived.Test.YtdilgeabcacbdaaGreatJ01
import Derived.Laws.StructEq
import Derived.KernelRfl
import Derived.Test.YtdilgeabcacbdaaGreatJ03
import Derived.IntWalk
import Derived.Laws.Slices
namespace Go.Proofs.YtdilgeabcacbdaaGreat
open Go.RowKit
set_option linter.unusedVariables false

theorem eqm_in (M : Msg) (W : World) : (Op.equalIn 10000 66 M.v M.v).run Tryz.prog W = .ok true W := by
  have u3 := Tryz.underlying3
  have u9 := Tryz.underlying9
  have hS : Tryz.prog.underlying 66 = some (.struct (Tryz.prog.fieldsOf 66)) := by kernel_rfl
  have hp : Tryz.prog.stoodInHeld 66 = false := by kernel_rfl
  rw [show (10000 : Nat) = 9999 + 1 from rfl, run_equalIn_agg W 9999 66 _ _ hS hp]
  simp only [Program.fieldsOf, Tryz.underlying66]
  go_simp
theorem neqm (M : Msg) : ∀ W, (binOp .neq 66 M.v M.v).run Tryz.prog W = .ok (.bool false) W := fun W => by
  rw [run_neq_struct, eqm_in]; rfl
end Go.Proofs.YtdilgeabcacbdaaGreat
namespace Go.Proofs.YtdilgeabcacbdaaGreat
open Go.RowKit
set_option linter.unusedVariables false

theorem msg_ext {M N : Msg} (h0 : M.id = N.id) (h1 : M.rt = N.rt) (h2 : M.ep = N.ep) (h3 : M.ct = N.ct) (h4 : M.gn = N.gn) (h5 : M.st = N.st) (h6 : M.bd = N.bd) : M = N := by
  cases M; cases N; simp_all
theorem bytes_ne {a b : ByteArray} (h : a ≠ b) : (a.toList == b.toList) = false := by
  rw [← beq_toListBytes]
  cases e : (a == b) with
  | false => rfl
  | true =>
    obtain ⟨x⟩ := a
    obtain ⟨y⟩ := b
    have e' : (x == y) = true := e
    exact absurd (by rw [beq_iff_eq.1 e']) h
theorem eqm_no (M N : Msg) (h : M ≠ N) (W : World) : (Op.equalIn 10000 66 M.v N.v).run Tryz.prog W = .ok false W := by
  have u3 := Tryz.underlying3
  have u9 := Tryz.underlying9
  have hS : Tryz.prog.underlying 66 = some (.struct (Tryz.prog.fieldsOf 66)) := by kernel_rfl
  have hp : Tryz.prog.stoodInHeld 66 = false := by kernel_rfl
  rw [show (10000 : Nat) = 9999 + 1 from rfl, run_equalIn_agg W 9999 66 _ _ hS hp]
  simp only [Program.fieldsOf, Tryz.underlying66]
  by_cases h0 : M.id = N.id
  · by_cases h1 : M.rt = N.rt
    · by_cases h2 : M.ep = N.ep
      · by_cases h3 : M.ct = N.ct
        · by_cases h4 : M.gn = N.gn
          · by_cases h5 : M.st = N.st
            · have h6 : M.bd ≠ N.bd := fun h6 => h (msg_ext h0 h1 h2 h3 h4 h5 h6)
              have h6' := bytes_ne h6
              clear h h6
              go_simp
            · have h5' : (M.st == N.st) = false := by simpa using h5
              clear h h5
              go_simp
          · have h4' : (M.gn == N.gn) = false := by simpa using h4
            clear h h4
            go_simp
        · have h3' : (M.ct == N.ct) = false := by simpa using h3
          clear h h3
          go_simp
      · have h2' : (M.ep == N.ep) = false := by simpa using h2
        clear h h2
        go_simp
    · have h1' : (M.rt == N.rt) = false := by simpa using h1
      clear h h1
      go_simp
  · have h0' : (M.id == N.id) = false := by simpa using h0
    clear h h0
    go_simp
theorem neqm_ne (M N : Msg) (h : M ≠ N) : ∀ W, (binOp .neq 66 M.v N.v).run Tryz.prog W = .ok (.bool true) W := fun W => by
  rw [run_neq_struct, eqm_no M N h]; rfl
end Go.Proofs.YtdilgeabcacbdaaGreat
namespace Go.Proofs.YtdilgeabcacbdaaGreat
open Go.RowKit
set_option linter.unusedVariables false

theorem find1_yes (M : Msg) (id : Int) (p : Nat) (w : World) (hp : p < w.heap.size) (hc : w.cell? ⟨p, 0, none⟩ = some (.int .i64 id)) (he : M.id = id) :
    Calls Tryz.prog 116 #[M.v, .pointer (some ⟨p, 0, none⟩)] w fun e w' => e = .returned (.bool true) ∧ Below w.heap.size w w' := by
  have HB := Lib.hid ((Below.refl w.heap.size w).alloc (Nat.le_refl _) (.cells M.cs 66))
  subst he
  go_enter Tryz.func116, Tryz.ntmps116
  go_wp2
  go_ret
  exact ⟨rfl, HB.out⟩
theorem find1_no (M : Msg) (id : Int) (p : Nat) (w : World) (hp : p < w.heap.size) (hc : w.cell? ⟨p, 0, none⟩ = some (.int .i64 id)) (he : M.id ≠ id) :
    Calls Tryz.prog 116 #[M.v, .pointer (some ⟨p, 0, none⟩)] w fun e w' => e = .returned (.bool false) ∧ Below w.heap.size w w' := by
  have HB := Lib.hid ((Below.refl w.heap.size w).alloc (Nat.le_refl _) (.cells M.cs 66))
  have hd : (M.id == id) = false := by simpa using he
  clear he
  go_enter Tryz.func116, Tryz.ntmps116
  go_wp2
  go_ret
  exact ⟨rfl, HB.out⟩

set_option maxHeartbeats 1000000 in
theorem ixfunc_any (A : Option Addr) (n c : Nat) (l : List Msg) (id : Int) (p : Nat) (w : World) (hv : Ls w w.heap.size (.slice A n c) l) (hp : p < w.heap.size) (hc : w.cell? ⟨p, 0, none⟩ = some (.int .i64 id)) :
    Calls Tryz.prog 107 #[.slice A n c, .func (.func 116) #[] #[.pointer (some ⟨p, 0, none⟩)]] w fun e w' => e = .returned (.int .i64 (ixF l id)) ∧ Below w.heap.size w w' := by
  obtain ⟨rfl, hm1, hm2⟩ := hv.len
  have hL : l.length ≤ 9223372036854775807 := by unfold maxLen at hm2; omega
  have HV := Lib.hid hv
  have HP := Lib.hid hp
  have HC := Lib.hid hc
  have HB := Lib.hid (Below.refl w.heap.size w)
  clear hv hm1 hm2 hp hc
  go_enter Tryz.func107, Tryz.ntmps107
  go_wp2
  go_loopw [8] (fun i wr => ∃ k : Nat, k ≤ l.length ∧ i = .int .i64 k ∧ Below w.heap.size w wr ∧ ∀ j (hj : j < l.length), j < k → l[j].id ≠ id) (fun i _ => l.length - (intOf i).toNat)
  case atStart => exact ⟨0, by omega, rfl, HB.out, fun j _ h => absurd h (by omega)⟩
  case round =>
    obtain ⟨k, hk, rfl, hb, hno⟩ := hrel
    have HN := Lib.hid hno
    have HVK := Lib.hid (HV.out.below hb)
    have HPK := Lib.hid (Nat.lt_of_lt_of_le HP.out hb.size)
    have HCK := Lib.hid ((hb.cell (p := ⟨p, 0, none⟩) HP.out).trans HC.out)
    have HB := Lib.hid hb
    clear hno hb
    by_cases hlt : k < l.length
    · obtain ⟨b, o, rfl, hb, c0, c1, c2, c3, c4, c5, c6⟩ := HVK.out.at_ hlt
      by_cases he : l[k].id = id
      · have HR := Lib.hid (ixF_hit hlt he HN.out)
        have HE := Lib.hid he
        clear he
        generalize l[k] = M at *
        go_wp2_with fail
        refine (find1_yes M id p _ HPK.out HCK.out HE.out).mono ?_
        rintro e w1 ⟨rfl, hb1⟩
        have HB1 := Lib.hid (HB.out.trans (hb1.mono HB.out.size))
        clear hb1
        go_wp2
        go_ret
        exact ⟨by rw [HR.out]; rfl, HB1.out⟩
      · have HE := Lib.hid he
        clear he
        have HNN := Lib.hid (show ∀ j (hj : j < l.length), j < k + 1 → l[j].id ≠ id from fun j hj h => by
          by_cases e : j = k
          · subst e; exact HE.out
          · exact HN.out j hj (by omega))
        generalize l[k] = M at *
        go_wp2_with fail
        refine (find1_no M id p _ HPK.out HCK.out HE.out).mono ?_
        rintro e w1 ⟨rfl, hb1⟩
        have HB1 := Lib.hid (HB.out.trans (hb1.mono HB.out.size))
        clear hb1
        go_wp2
        go_roundw
        case rel => exact ⟨k + 1, by omega, by go_num, HB1.out, HNN.out⟩
        case measure => simp [intOf]; omega
    · have HR := Lib.hid (ixF_none (id := id) (fun j hj => HN.out j hj (by omega)))
      go_wp2
      go_ret
      exact ⟨by rw [HR.out]; rfl, HB.out⟩

theorem find_any (A : Option Addr) (n c : Nat) (l : List Msg) (id : Int) (w : World) (hv : Ls w w.heap.size (.slice A n c) l) :
    Calls Tryz.prog 99 #[.slice A n c, .int .i64 id] w fun e w' => e = .returned (.int .i64 (ixF l id)) ∧ Below w.heap.size w w' := by
  have HC := Lib.hid (ixfunc_any A n c l id w.heap.size (w.alloc (.cells #[.int .i64 id] 3)) ((hv.alloc (Nat.le_refl _) _).more (by simp)) (by simp) (by simp [go_sem]))
  have HB := Lib.hid ((Below.refl w.heap.size w).alloc (Nat.le_refl _) (.cells #[.int .i64 id] 3))
  have hmf : ∀ (fn : Fn) (first cap : Array Value) (w : World), (Instr.makeFunc fn first cap).run Tryz.prog w = .ok (.func fn first cap) w := fun _ _ _ _ => rfl
  clear hv
  generalize ixF l id = r at *
  go_enter Tryz.func99, Tryz.ntmps99
  go_wp2_with fail
  refine HC.out.mono ?_
  rintro e w1 ⟨rfl, hb1⟩
  have HB1 := Lib.hid (HB.out.trans (hb1.mono HB.out.size))
  clear hb1
  go_wp2
  go_ret
  exact ⟨rfl, HB1.out⟩
end Go.Proofs.YtdilgeabcacbdaaGreat
namespace Go.Proofs.YtdilgeabcacbdaaGreat
open Go.RowKit
set_option linter.unusedVariables false

section
variable {w : World} {B : Nat} {A : Option Addr} {n c : Nat} {l : List Msg}
theorem ls_under : Tryz.prog.underlying 29 = some (.slice (Tryz.prog.elem 29)) := by kernel_rfl
theorem ls_elem : Tryz.prog.elem 29 = 66 := by kernel_rfl
theorem Ls.upto (h : Ls w B (.slice A n c) l) (j : Nat) (hj : j ≤ n) : Ls w B (.slice A j c) (l.take j) := by
  obtain ⟨hn, hl, hm⟩ := h.len
  have hlen : (l.take j).length = j := by simp; omega
  refine ⟨A, c, by rw [hlen], by rw [hlen]; omega, hm, by rw [lcs_len], fun h0 => ?_⟩
  rw [hlen] at h0
  obtain ⟨b, o, rfl, hb, hc⟩ := h.rd.2 (by omega)
  refine ⟨b, o, rfl, hb, fun k u hu => hc k u ?_⟩
  rw [← lcs_take] at hu
  have hk : k < j * 7 := by
    have := (List.getElem?_eq_some_iff.1 hu).1
    simp at this; omega
  rw [← hu, List.getElem?_take_of_lt hk]
theorem Ls.cut (h : Ls w B (.slice A n c) l) (k : Nat) (hk : k ≤ n) : Ls w B (.slice (if c = k then A else A.map (·.add (k * 7))) (n - k) (c - k)) (l.drop k) := by
  obtain ⟨hn, hl, hm⟩ := h.len
  refine ⟨_, c - k, by rw [List.length_drop, hn], by simp; omega, by omega, by rw [lcs_len], fun h0 => ?_⟩
  rw [List.length_drop] at h0
  obtain ⟨b, o, rfl, hb, hc⟩ := h.rd.2 (by omega)
  rw [if_neg (by omega)]
  refine ⟨b, o + k * 7, by rw [Option.map_some, add_mk], hb, fun j u hu => ?_⟩
  rw [Nat.add_assoc]
  refine hc _ u ?_
  rw [← hu, ← lcs_drop, List.getElem?_drop]
theorem run_lupto (A : Option Addr) (n c : Nat) (kh : IntKind) (j : Nat) (hj : j ≤ c) : ∀ W, (Instr.slice 29 (.slice A n c) none (some (.int kh (j : Int))) none).run Tryz.prog W = .ok (.slice A j c) W := fun W => by
  rw [run_slice_h W _ _ _ _ ls_under kh _ (by omega) (by omega), ls_elem, Tryz.sizeOf66]
  cases A <;> simp [Result.andThen, sliced, Addr.add]
end
end Go.Proofs.YtdilgeabcacbdaaGreat
