/- What is proved here: due.Until by a contract; shardqueueref05.Same and SameInts of two lists that read alike are true; shardqueueref05.before, sound, index, Validate by contracts. -/
import Derived.Test.YtobimcpkhgfliaaJ08
import Derived.Test.YtobimcpkhgfliaaJ02
import Derived.Deep.QuietTactic
import Derived.BigQuiet
import Derived.Test.YtobimcpkhgfliaaJ05
namespace Go.Proofs.Ytobimcpkhgfliaa
open Go.RowKit
set_option linter.unusedVariables false

/-- A slice that reads as these numbers. -/
def Nr (w : World) (B : Nat) (v : Value) (zs : List Int) : Prop := ∃ A c, v = .slice A zs.length c ∧ zs.length ≤ c ∧ c ≤ maxLen ∧ Rd w B 1 A zs.length (zs.map i64v)
section
variable {w w' : World} {B B' : Nat} {v : Value} {zs : List Int} {A : Option Addr} {n c : Nat}
theorem Nr.nil : Nr w B (.slice none 0 0) [] := ⟨none, 0, rfl, Nat.le_refl _, Nat.zero_le _, Rd.nil none⟩
theorem Nr.below (h : Nr w B v zs) (hb : Below B w w') : Nr w' B v zs := by
  obtain ⟨A, c, e, h1, h2, h3⟩ := h; exact ⟨A, c, e, h1, h2, h3.below hb⟩
theorem Nr.more (h : Nr w B v zs) (hB : B ≤ B') : Nr w B' v zs := by
  obtain ⟨A, c, e, h1, h2, h3⟩ := h; exact ⟨A, c, e, h1, h2, h3.more hB⟩
theorem Nr.up (h : Nr w w.heap.size v zs) (hb : Below w.heap.size w w') : Nr w' w'.heap.size v zs := (h.below hb).more hb.size
theorem Nr.drewN (h : Nr w B v zs) (k : Nat) : Nr (w.drewN k) B v zs := h
theorem Nr.form (h : Nr w B v zs) : ∃ A c, v = .slice A zs.length c := by obtain ⟨A, c, e, _⟩ := h; exact ⟨A, c, e⟩
theorem Nr.len (h : Nr w B (.slice A n c) zs) : n = zs.length ∧ n ≤ c ∧ c ≤ maxLen := by
  obtain ⟨A', c', e, h1, h2, _⟩ := h
  injection e with e1 e2 e3
  subst e2; subst e3
  exact ⟨rfl, h1, h2⟩
theorem Nr.at_ {k : Nat} (h : Nr w B (.slice A n c) zs) (hk : k < zs.length) : ∃ b o, A = some ⟨b, o, none⟩ ∧ b < B ∧ w.cell? ⟨b, o + k, none⟩ = some (.int .i64 zs[k]) := by
  obtain ⟨A', c', e, h1, h2, h3⟩ := h
  injection e with e1 e2 e3
  subst e1; subst e2
  obtain ⟨b, o, e, hb, hc⟩ := h3.2 (by omega)
  exact ⟨b, o, e, hb, hc k _ (by simp [hk, i64v])⟩
theorem Nr.of_own {base : Nat} {e : TypeId} (h : w.ownsRow base e 1 v zs.length (zs.map i64v)) : Nr w w.heap.size v zs := by
  rcases h.2 with ⟨hv, h0⟩ | ⟨g, cap, cur, hv, _, _, hl, hm, _⟩
  · subst hv; exact ⟨none, 0, by rw [h0], by omega, Nat.zero_le _, by rw [show zs = [] from List.length_eq_zero_iff.1 h0]; exact Rd.nil _⟩
  · subst hv; exact ⟨_, cap, rfl, hl, hm, Rd.of_own h⟩
end

theorem dvalues_any (A : Option Addr) (n c : Nat) (w : World) :
    Calls Try.prog 38 #[.slice A n c] w fun e w' => e = .returned (.func (.func 53) #[] #[.pointer (some ⟨w.heap.size, 0, none⟩)]) ∧ w' = w.alloc (.cells #[.slice A n c] 22) := by
  have hmf : ∀ (fn : Fn) (first cap : Array Value) (w : World), (Instr.makeFunc fn first cap).run Try.prog w = .ok (.func fn first cap) w := fun _ _ _ _ => rfl
  go_enter Try.func38, Try.ntmps38
  go_wp2
  go_ret
  exact ⟨rfl, rfl⟩

/-- The IDs of what is due among the first k elements. -/
def flK (g : List Du) (now : Int) (k : Nat) : List Int := ((g.take k).filter (fun d => decide (d.dl ≤ now))).map Du.id
theorem flK_zero (g : List Du) (now : Int) : flK g now 0 = [] := by simp [flK]
theorem flK_hit {g : List Du} {now : Int} {k : Nat} (hk : k < g.length) (h : (ge g k).dl ≤ now) : flK g now (k + 1) = flK g now k ++ [(ge g k).id] := by
  unfold flK
  rw [← List.take_append_getElem hk, List.filter_append, List.map_append, ge_get hk]
  simp [h]
theorem flK_miss {g : List Du} {now : Int} {k : Nat} (hk : k < g.length) (h : ¬ (ge g k).dl ≤ now) : flK g now (k + 1) = flK g now k := by
  unfold flK
  rw [← List.take_append_getElem hk, List.filter_append, List.map_append, ge_get hk]
  simp [h]
theorem flK_len (g : List Du) (now : Int) (k : Nat) : (flK g now k).length ≤ k := by
  unfold flK
  rw [List.length_map]
  exact Nat.le_trans (List.length_filter_le _ _) (by rw [List.length_take]; omega)
theorem flK_all (g : List Du) (now : Int) : flK g now g.length = (g.filter (fun d => decide (d.dl ≤ now))).map Du.id := by
  unfold flK; rw [List.take_length]
/-- A list of numbers as a result. -/
def NrP (w : World) (zs : List Int) (e : Ending) (w' : World) : Prop := ∃ v, e = .returned v ∧ Nr w' w'.heap.size v zs ∧ Below w.heap.size w w'
theorem info_int5 : (Try.prog.info? 3).map (fun i => (i.zero, i.size, i.bytes)) = some (some (.int .i64 0), 1, 8) := by kernel_rfl

set_option maxHeartbeats 4000000 in
set_option maxRecDepth 20000 in
theorem duntil_any (A : Option Addr) (n c : Nat) (l : List Du) (now : Int) (w : World) (hv : Dl w w.heap.size (.slice A n c) l) :
    Calls Try.prog 19 #[.slice A n c, .int .i64 now] w (NrP w (unR l now)) := by
  obtain ⟨rfl, hm1, hm2⟩ := hv.len
  have HV := Lib.hid hv
  have HVA := Lib.hid (fun w1 hv => dvalid_any A l.length c l w1 hv)
  clear hv hm1 hm2
  by_cases h0 : vaF l = 0
  · obtain ⟨h12, _, _, hh⟩ := vaF_zero h0
    have HR := Lib.hid (show unR l now = unF l now from if_pos h0)
    have HVS := Lib.hid (fun w1 => dvalues_any A l.length c w1)
    have HSO := Lib.hid (fun (w1 : World) (h1 : Dl w1 w1.heap.size (.slice A l.length c) l) => sorted_any w1.heap.size A c l h12 (w1.alloc (.cells #[.slice A l.length c] 22)) (by simp) (by simp [go_sem]) ((h1.alloc (Nat.le_refl _) _).more (by simp)))
    have HH := Lib.hid hh
    have HL12 := Lib.hid h12
    have hl12 : (l.length : Int) ≤ 12 := by omega
    rw [h0] at HVA
    obtain ⟨i0, hi0, hz0⟩ := Option.map_eq_some_iff.1 info_int5
    simp only [Prod.mk.injEq] at hz0
    have HI := Lib.hid hi0
    have HZ := Lib.hid hz0
    clear h0 h12 hh hi0 hz0
    go_enter Try.func19, Try.ntmps19
    go_wp2_with fail
    refine (HVA.out _ HV.out).mono ?_
    rintro e w1 ⟨rfl, hb⟩
    have HB1 := Lib.hid hb
    clear hb
    go_wp2_with fail
    refine (HVS.out _).mono ?_
    rintro e w2 ⟨rfl, rfl⟩
    go_wp2_with fail
    refine (HSO.out _ (HV.out.up HB1.out)).mono ?_
    rintro e w3 ⟨A3, c3, g, rfl, hp, hs, hd, hb⟩
    have HB3 := Lib.hid ((HB1.out.alloc HB1.out.size (.cells #[.slice A l.length c] 22)).trans (hb.mono (by have := HB1.out.size; simp; omega)))
    have HG := Lib.hid hd
    have HGL := Lib.hid (show g.length = l.length from hp.length_eq)
    have HF := Lib.hid (show unF l now = flK g now l.length by rw [unF_sorted HH.out hp hs now, ← flK_all, hp.length_eq])
    clear hp hs hd hb
    go_wp2
    go_loopw [5, 15] (fun v5 iv wr => ∃ k : Nat, k ≤ l.length ∧ iv = .int .i64 k ∧ wr.ownsRow w3.heap.size 3 1 v5 (flK g now k).length ((flK g now k).map i64v) ∧ Dl wr w3.heap.size (.slice A3 l.length c3) g ∧ w3.heap.size ≤ wr.heap.size ∧ Below w.heap.size w wr) (fun _ iv _ => l.length - (intOf iv).toNat)
    case atStart => exact ⟨0, Nat.zero_le _, rfl, by rw [flK_zero]; exact World.ownsRow_nil _ _ _ _, HG.out, Nat.le_refl _, HB3.out⟩
    case round =>
      obtain ⟨k, hk, rfl, ho, hd, hsz, hb⟩ := hrel
      have HO := Lib.hid ho
      have HD := Lib.hid hd
      have HSZ := Lib.hid hsz
      have HB := Lib.hid hb
      clear ho hd hsz hb
      by_cases hlt : k < l.length
      · obtain ⟨b, o, rfl, hb, c0, c1⟩ := HD.out.atg (k := k) (by rw [HGL.out]; exact hlt)
        by_cases hle : (ge g k).dl ≤ now
        · have HHT := Lib.hid (flK_hit (now := now) (show k < g.length by rw [HGL.out]; exact hlt) hle)
          obtain ⟨X, hX⟩ : ∃ X, ge g k = X := ⟨_, rfl⟩
          rw [hX] at c0 c1 HHT hle
          clear hX hb
          have HO2 := Lib.hid ((HO.out.alloc (.cells #[.int .i64 X.dl, .int .i64 X.id] 24)).alloc (.cells #[.int .i64 X.id] 3))
          have HD2 := Lib.hid ((HD.out.alloc HSZ.out (.cells #[.int .i64 X.dl, .int .i64 X.id] 24)).alloc (by have := HSZ.out; simp; omega) (.cells #[.int .i64 X.id] 3))
          have HB2 := Lib.hid ((HB.out.alloc HB.out.size (.cells #[.int .i64 X.dl, .int .i64 X.id] 24)).alloc (by have := HB.out.size; simp; omega) (.cells #[.int .i64 X.id] 3))
          have HN2 := Lib.hid (show ∀ j u, ([i64v X.id] : List Value)[j]? = some u → ((wr.alloc (.cells #[.int .i64 X.dl, .int .i64 X.id] 24)).alloc (.cells #[.int .i64 X.id] 3)).cell? ((⟨wr.heap.size + 1, 0, none⟩ : Addr).add j) = some u from fun j u hu => by
            have h2 := World.cell?_alloc_new (wr.alloc (.cells #[.int .i64 X.dl, .int .i64 X.id] 24)) #[.int .i64 X.id] 3 j
            rw [World.size_alloc] at h2
            rw [add_mk, Nat.zero_add, h2, ← hu]
            simp [i64v])
          have HKL := Lib.hid (flK_len g now k)
          have HWS := Lib.hid (show w.heap.size ≤ w3.heap.size from HB3.out.size)
          go_wp2_with (at_builtin; refine wpList_append_own _ rfl _ _ 27 rfl w3.heap.size 3 i0 _ 1 8 Try.underlying27 HI.out HZ.out.1 HZ.out.2.1 HZ.out.2.2 rfl (by omega) _ (flK g now k).length ((flK g now k).map i64v) rfl HO2.out ⟨wr.heap.size + 1, 0, none⟩ 1 1 [i64v X.id] rfl rfl HN2.out (by simp [i64v, Value.oneCell']) (by have := HKL.out; unfold maxLen; omega) (by have := HKL.out; omega) (by have := HSZ.out; simp; omega) ?_; intro v6 w4 hown6 hgrow6 hnil6)
          have HO6 := Lib.hid (show w4.ownsRow w3.heap.size 3 1 v6 (flK g now (k + 1)).length ((flK g now (k + 1)).map i64v) by rw [HHT.out, List.length_append, List.map_append]; exact hown6)
          have HD6 := Lib.hid (HD2.out.keep fun p hp => hgrow6.cell_far p (by have := HSZ.out; simp; omega) (fun e => by have := (HO2.out.lt p.block e.symm).1; omega))
          have HB6 := Lib.hid (HB2.out.grown hgrow6 (by have := HB.out.size; simp; omega) (fun k e => Nat.le_trans HWS.out (HO2.out.lt k e).1))
          have HZ6 := Lib.hid (show w3.heap.size ≤ w4.heap.size by have := hgrow6.size; have := HSZ.out; simp at *; omega)
          clear hown6 hgrow6 hnil6
          go_wp2
          go_roundw
          case rel => exact ⟨k + 1, by omega, by go_num, HO6.out, HD6.out, HZ6.out, HB6.out⟩
          case measure => simp [intOf]; omega
        · have HMS := Lib.hid (flK_miss (now := now) (show k < g.length by rw [HGL.out]; exact hlt) hle)
          obtain ⟨X, hX⟩ : ∃ X, ge g k = X := ⟨_, rfl⟩
          rw [hX] at c0 c1 hle
          clear hX hb
          have HO2 := Lib.hid (HO.out.alloc (.cells #[.int .i64 X.dl, .int .i64 X.id] 24))
          have HD2 := Lib.hid (HD.out.alloc HSZ.out (.cells #[.int .i64 X.dl, .int .i64 X.id] 24))
          have HB2 := Lib.hid (HB.out.alloc HB.out.size (.cells #[.int .i64 X.dl, .int .i64 X.id] 24))
          go_wp2
          go_roundw
          case rel => exact ⟨k + 1, by omega, by go_num, by rw [HMS.out]; exact HO2.out, HD2.out, by have := HSZ.out; simp; omega, HB2.out⟩
          case measure => simp [intOf]; omega
      · obtain rfl : k = l.length := by omega
        have HN := Lib.hid (Nr.of_own HO.out)
        obtain ⟨A5, c5, hv5⟩ := HN.out.form
        have HV5 := Lib.hid hv5
        clear hv5
        go_wp2
        go_ret
        exact ⟨_, rfl, by rw [HR.out, HF.out]; exact HN.out, HB.out⟩
  · have HR := Lib.hid (show unR l now = [] from if_neg h0)
    have hne : (vaF l != 0) = true := bne_iff_ne.2 h0
    generalize vaF l = x at *
    clear h0
    go_enter Try.func19, Try.ntmps19
    go_wp2_with fail
    refine (HVA.out _ HV.out).mono ?_
    rintro e w1 ⟨rfl, hb⟩
    have HB1 := Lib.hid hb
    clear hb
    go_wp2
    go_ret
    exact ⟨_, rfl, by rw [HR.out]; exact Nr.nil, HB1.out⟩
end Go.Proofs.Ytobimcpkhgfliaa
namespace Go.Proofs.Ytobimcpkhgfliaa
open Go.RowKit
set_option linter.unusedVariables false

theorem Dl.more' {w : World} {B B' : Nat} {v : Value} {l : List Du} (h : Dl w B v l) (hB : B ≤ B') : Dl w B' v l := h.more hB
theorem bel_drewN {B : Nat} {a w : World} (h : Below B a w) (n : Nat) : Below B a (w.drewN n) := ⟨h.os, h.tape, h.output, h.size, h.block⟩
set_option maxHeartbeats 2000000 in
theorem rsame5_yes (A A' : Option Addr) (n n' c c' : Nat) (l : List Du) (w : World) (B B' : Nat) (hv : Dl w B (.slice A n c) l) (hv' : Dl w B' (.slice A' n' c') l) :
    Calls Try.prog 24 #[.slice A n c, .slice A' n' c'] w fun e w' => e = .returned (.bool true) ∧ Below w.heap.size w w' := by
  obtain ⟨rfl, hm1, hm2⟩ := hv.len
  obtain ⟨rfl, hm1', hm2'⟩ := hv'.len
  have hL : l.length ≤ 9223372036854775807 := by unfold maxLen at hm2; omega
  have HV := Lib.hid hv
  have HV' := Lib.hid hv'
  have HB := Lib.hid (Below.refl w.heap.size w)
  clear hv hm1 hm2 hv' hm1' hm2'
  go_enter Try.func24, Try.ntmps24
  go_wp2
  go_loopw [5] (fun i wr => ∃ k : Nat, k ≤ l.length ∧ i = .int .i64 k ∧ Dl wr B (.slice A l.length c) l ∧ Dl wr B' (.slice A' l.length c') l ∧ Below w.heap.size w wr) (fun i _ => l.length - (intOf i).toNat)
  case atStart => exact ⟨0, by omega, rfl, HV.out, HV'.out, HB.out⟩
  case round =>
    obtain ⟨k, hk, rfl, hv, hv', hb⟩ := hrel
    have HV := Lib.hid hv
    have HV' := Lib.hid hv'
    have HB := Lib.hid hb
    clear hv hv' hb
    by_cases hlt : k < l.length
    · obtain ⟨b, o, rfl, hb, c0, c1⟩ := HV.out.atg hlt
      obtain ⟨b', o', rfl, hb', d0, d1⟩ := HV'.out.atg hlt
      generalize ge l k = M at *
      have hne := neqd_no M
      go_wp2
      go_quiet (fail)
      go_wp2
      go_roundw
      case rel => exact ⟨k + 1, by omega, by go_num, HV.out.drewN _, HV'.out.drewN _, bel_drewN HB.out _⟩
      case measure => simp [intOf]; omega
    · go_wp2
      go_ret
      exact ⟨rfl, HB.out⟩

set_option maxHeartbeats 2000000 in
theorem rsamei_yes (A A' : Option Addr) (n n' c c' : Nat) (l : List Int) (w : World) (B B' : Nat) (hv : Nr w B (.slice A n c) l) (hv' : Nr w B' (.slice A' n' c') l) :
    Calls Try.prog 21 #[.slice A n c, .slice A' n' c'] w fun e w' => e = .returned (.bool true) ∧ Below w.heap.size w w' := by
  obtain ⟨rfl, hm1, hm2⟩ := hv.len
  obtain ⟨rfl, hm1', hm2'⟩ := hv'.len
  have hL : l.length ≤ 9223372036854775807 := by unfold maxLen at hm2; omega
  have HV := Lib.hid hv
  have HV' := Lib.hid hv'
  have HB := Lib.hid (Below.refl w.heap.size w)
  clear hv hm1 hm2 hv' hm1' hm2'
  go_enter Try.func21, Try.ntmps21
  go_wp2
  go_loopw [5] (fun i wr => ∃ k : Nat, k ≤ l.length ∧ i = .int .i64 k ∧ Nr wr B (.slice A l.length c) l ∧ Nr wr B' (.slice A' l.length c') l ∧ Below w.heap.size w wr) (fun i _ => l.length - (intOf i).toNat)
  case atStart => exact ⟨0, by omega, rfl, HV.out, HV'.out, HB.out⟩
  case round =>
    obtain ⟨k, hk, rfl, hv, hv', hb⟩ := hrel
    have HV := Lib.hid hv
    have HV' := Lib.hid hv'
    have HB := Lib.hid hb
    clear hv hv' hb
    by_cases hlt : k < l.length
    · obtain ⟨b, o, rfl, hb, c0⟩ := HV.out.at_ hlt
      obtain ⟨b', o', rfl, hb', d0⟩ := HV'.out.at_ hlt
      generalize l[k] = M at *
      have hne : (M != M) = false := by simp
      go_wp2
      go_quiet (fail)
      go_wp2
      go_roundw
      case rel => exact ⟨k + 1, by omega, by go_num, HV.out.drewN _, HV'.out.drewN _, bel_drewN HB.out _⟩
      case measure => simp [intOf]; omega
    · go_wp2
      go_ret
      exact ⟨rfl, HB.out⟩
end Go.Proofs.Ytobimcpkhgfliaa
namespace Go.Proofs.Ytobimcpkhgfliaa
open Go.RowKit
set_option linter.unusedVariables false

set_option maxHeartbeats 2000000 in
theorem rbef_any (a b : Du) (w : World) :
    Calls Try.prog 42 #[a.v, b.v] w fun e w' => e = .returned (.bool (bef a b)) ∧ Below w.heap.size w w' := by
  have HB := Lib.hid (((Below.refl w.heap.size w).alloc (Nat.le_refl _) (.cells #[.int .i64 a.dl, .int .i64 a.id] 24)).alloc (by simp) (.cells #[.int .i64 b.dl, .int .i64 b.id] 24))
  by_cases h1 : a.dl < b.dl
  · have HR := Lib.hid (show bef a b = true from bef_iff.2 (.inl h1))
    go_enter Try.func42, Try.ntmps42
    go_wp2
    go_ret
    exact ⟨by rw [HR.out]; rfl, HB.out⟩
  · by_cases h2 : a.dl = b.dl
    · have h2' : (a.dl == b.dl) = true := by simp [h2]
      by_cases h3 : a.id < b.id
      · have HR := Lib.hid (show bef a b = true from bef_iff.2 (.inr ⟨h2, h3⟩))
        clear h2
        go_enter Try.func42, Try.ntmps42
        go_wp2
        go_ret
        exact ⟨by rw [HR.out]; rfl, HB.out⟩
      · have HR := Lib.hid (show bef a b = false from bef_no.2 (.inr ⟨h2.symm, by omega⟩))
        clear h2
        go_enter Try.func42, Try.ntmps42
        go_wp2
        go_ret
        exact ⟨by rw [HR.out]; rfl, HB.out⟩
    · have h2' : (a.dl == b.dl) = false := by simp [h2]
      have HR := Lib.hid (show bef a b = false from bef_no.2 (.inl (by omega)))
      clear h2
      go_enter Try.func42, Try.ntmps42
      go_wp2
      go_ret
      exact ⟨by rw [HR.out]; rfl, HB.out⟩

set_option maxHeartbeats 2000000 in
theorem rsound_any (d : Du) (w : World) :
    Calls Try.prog 40 #[d.v] w fun e w' => e = .returned (.bool (snd d)) ∧ Below w.heap.size w w' := by
  have HB := Lib.hid ((Below.refl w.heap.size w).alloc (Nat.le_refl _) (.cells #[.int .i64 d.dl, .int .i64 d.id] 24))
  by_cases h1 : 0 ≤ d.dl
  · by_cases h2 : d.dl ≤ 1073741824
    · by_cases h3 : 1 ≤ d.id
      · by_cases h4 : d.id ≤ 1073741824
        · have HR := Lib.hid (show snd d = true from decide_eq_true ⟨h1, h2, h3, h4⟩)
          go_enter Try.func40, Try.ntmps40
          go_wp2
          go_ret
          exact ⟨by rw [HR.out]; rfl, HB.out⟩
        · have HR := Lib.hid (show snd d = false from decide_eq_false (fun h => h4 h.2.2.2))
          go_enter Try.func40, Try.ntmps40
          go_wp2
          go_ret
          exact ⟨by rw [HR.out]; rfl, HB.out⟩
      · have HR := Lib.hid (show snd d = false from decide_eq_false (fun h => h3 h.2.2.1))
        go_enter Try.func40, Try.ntmps40
        go_wp2
        go_ret
        exact ⟨by rw [HR.out]; rfl, HB.out⟩
    · have HR := Lib.hid (show snd d = false from decide_eq_false (fun h => h2 h.2.1))
      go_enter Try.func40, Try.ntmps40
      go_wp2
      go_ret
      exact ⟨by rw [HR.out]; rfl, HB.out⟩
  · have HR := Lib.hid (show snd d = false from decide_eq_false (fun h => h1 h.1))
    go_enter Try.func40, Try.ntmps40
    go_wp2
    go_ret
    exact ⟨by rw [HR.out]; rfl, HB.out⟩

theorem rix5_any (A : Option Addr) (n c : Nat) (l : List Du) (id : Int) (w : World) (B : Nat) (hv : Dl w B (.slice A n c) l) :
    Calls Try.prog 41 #[.slice A n c, .int .i64 id] w fun e w' => e = .returned (.int .i64 (ixD l id)) ∧ w = w' := by
  obtain ⟨rfl, hm1, hm2⟩ := hv.len
  have hL : l.length ≤ 9223372036854775807 := by unfold maxLen at hm2; omega
  have HV := Lib.hid hv
  clear hv hm1 hm2
  go_enter Try.func41, Try.ntmps41
  go_wp2
  go_loop [5] (fun i => ∃ k : Nat, k ≤ l.length ∧ i = .int .i64 k ∧ ∀ j, j < k → (ge l j).id ≠ id) (fun i => l.length - (intOf i).toNat)
  case atStart => exact ⟨0, by omega, rfl, fun j h => absurd h (by omega)⟩
  case round =>
    obtain ⟨k, hk, rfl, hno⟩ := hrel
    have HN := Lib.hid hno
    clear hno
    by_cases hlt : k < l.length
    · obtain ⟨b, o, rfl, hb, c0, c1⟩ := HV.out.atg hlt
      by_cases he : (ge l k).id = id
      · have HR := Lib.hid (ixD_hit hlt he HN.out)
        have hd : ((ge l k).id == id) = true := by simpa using he
        clear he
        generalize ge l k = X at *
        go_wp2
        go_ret
        exact ⟨by rw [HR.out]; rfl, rfl⟩
      · have hd : ((ge l k).id == id) = false := by simpa using he
        have HNN := Lib.hid (show ∀ j, j < k + 1 → (ge l j).id ≠ id from fun j h => by
          by_cases e : j = k
          · rw [e]; exact he
          · exact HN.out j (by omega))
        clear he
        generalize ge l k = X at *
        go_wp2
        go_round
        case rel => exact ⟨k + 1, by omega, by go_num, HNN.out⟩
        case measure => simp [intOf]; omega
    · have HR := Lib.hid (ixD_none (id := id) (fun j hj => HN.out j (by omega)))
      go_wp2
      go_ret
      exact ⟨by rw [HR.out]; rfl, rfl⟩

theorem ixD_self {l : List Du} (h : ∀ i j, i < j → j < l.length → (ge l i).id ≠ (ge l j).id) {k : Nat} (hk : k < l.length) : ixD l (ge l k).id = k := ixD_hit hk rfl (fun j hj e => h j k hj hk e)
theorem ixD_dup {l : List Du} {k : Nat} (hk : k < l.length) (h : ixD l (ge l k).id ≠ k) : dupD l := by
  rcases ixD_cases l (ge l k).id with ⟨_, hn⟩ | ⟨j, hj, e, hi, hn⟩
  · exact absurd rfl (hn k hk)
  · rw [e] at h
    have hjk : j ≠ k := fun e => h (by rw [e])
    rcases Nat.lt_or_ge j k with hlt | hge
    · exact ⟨j, k, hlt, hk, hi⟩
    · exact absurd rfl (hn k (by omega))
theorem dupD_none {l : List Du} (h : ∀ k, k < l.length → ixD l (ge l k).id = k) : ¬ dupD l := by
  rintro ⟨i, j, hij, hj, e⟩
  have h1 := h i (by omega)
  have h2 := h j hj
  rw [e, h2] at h1
  omega

set_option maxHeartbeats 8000000 in
set_option maxRecDepth 20000 in
theorem rvalid5_any (A : Option Addr) (n c : Nat) (l : List Du) (w : World) (hv : Dl w w.heap.size (.slice A n c) l) :
    Calls Try.prog 20 #[.slice A n c] w fun e w' => e = .returned (.int .i64 (vaF l)) ∧ Below w.heap.size w w' := by
  obtain ⟨rfl, hm1, hm2⟩ := hv.len
  have HV := Lib.hid hv
  have HB := Lib.hid (Below.refl w.heap.size w)
  clear hv hm1 hm2
  by_cases h12 : 12 < l.length
  · have HR := Lib.hid (vaF_2 h12)
    have h12' : (12 : Int) < (l.length : Int) := by omega
    go_enter Try.func20, Try.ntmps20
    go_wp2
    go_ret
    exact ⟨by rw [HR.out]; rfl, HB.out⟩
  · have h12' : ¬ (12 : Int) < (l.length : Int) := by omega
    have HL := Lib.hid (show l.length ≤ 12 by omega)
    have hl12 : (l.length : Int) ≤ 12 := by omega
    go_enter Try.func20, Try.ntmps20
    go_wp2
    go_loopw [3] (fun i wr => ∃ k : Nat, k ≤ l.length ∧ i = .int .i64 k ∧ Below w.heap.size w wr ∧ ∀ j, j < k → snd (ge l j) = true) (fun i _ => l.length - (intOf i).toNat)
    case atStart => exact ⟨0, by omega, rfl, HB.out, fun j h => absurd h (by omega)⟩
    case round =>
      obtain ⟨k, hk, rfl, hb, hno⟩ := hrel
      have HN := Lib.hid hno
      have HVK := Lib.hid (HV.out.below hb)
      have HB := Lib.hid hb
      clear hno hb
      by_cases hlt : k < l.length
      · obtain ⟨b, o, rfl, hb, c0, c1⟩ := HVK.out.atg hlt
        have HF := Lib.hid (fun w1 => rsound_any (ge l k) w1)
        cases he : snd (ge l k) with
        | false =>
          have HR := Lib.hid (vaF_1 HL.out (snD_no hlt he))
          rw [he] at HF
          clear he
          generalize ge l k = M at *
          go_wp2_with fail
          refine (HF.out _).mono ?_
          rintro e w1 ⟨rfl, hb1⟩
          have HB1 := Lib.hid (HB.out.trans (hb1.mono HB.out.size))
          clear hb1
          go_wp2
          go_ret
          exact ⟨by rw [HR.out]; rfl, HB1.out⟩
        | true =>
          have HNN := Lib.hid (show ∀ j, j < k + 1 → snd (ge l j) = true from fun j h => by
            by_cases e : j = k
            · rw [e]; exact he
            · exact HN.out j (by omega))
          rw [he] at HF
          clear he
          generalize ge l k = M at *
          go_wp2_with fail
          refine (HF.out _).mono ?_
          rintro e w1 ⟨rfl, hb1⟩
          have HB1 := Lib.hid (HB.out.trans (hb1.mono HB.out.size))
          clear hb1
          go_wp2
          go_roundw
          case rel => exact ⟨k + 1, by omega, by go_num, HB1.out, HNN.out⟩
          case measure => simp [intOf]; omega
      · have HSN := Lib.hid ((snD_iff l).2 (fun j hj => HN.out j (by omega)))
        go_wp2
        go_loopw [4] (fun i wr => ∃ k : Nat, k ≤ l.length ∧ i = .int .i64 k ∧ Below w.heap.size w wr ∧ ∀ j, j < k → ixD l (ge l j).id = j) (fun i _ => l.length - (intOf i).toNat)
        case atStart => exact ⟨0, by omega, rfl, HB.out, fun j h => absurd h (by omega)⟩
        case round =>
          obtain ⟨k, hk, rfl, hb, hno⟩ := hrel
          have HN := Lib.hid hno
          have HVK := Lib.hid (HV.out.below hb)
          have HB := Lib.hid hb
          clear hno hb
          by_cases hlt : k < l.length
          · have HIX := Lib.hid (fun id => rix5_any _ _ _ l id wr _ HVK.out)
            obtain ⟨b, o, rfl, hb, c0, c1⟩ := HVK.out.atg hlt
            by_cases he : ixD l (ge l k).id = k
            · have HNN := Lib.hid (show ∀ j, j < k + 1 → ixD l (ge l j).id = j from fun j h => by
                by_cases e : j = k
                · rw [e]; exact he
                · exact HN.out j (by omega))
              have HI2 := Lib.hid (HIX.out (ge l k).id)
              rw [he] at HI2
              clear he HIX
              generalize ge l k = M at *
              go_wp2_with fail
              refine HI2.out.mono ?_
              rintro e w1 ⟨rfl, rfl⟩
              go_wp2
              go_roundw
              case rel => exact ⟨k + 1, by omega, by go_num, HB.out, HNN.out⟩
              case measure => simp [intOf]; omega
            · have HR := Lib.hid (vaF_10 HL.out HSN.out (dpD_yes (ixD_dup hlt he)))
              have HI2 := Lib.hid (HIX.out (ge l k).id)
              have hne : (ixD l (ge l k).id != (k : Int)) = true := bne_iff_ne.2 he
              clear he HIX
              generalize ixD l (ge l k).id = r at *
              generalize ge l k = M at *
              go_wp2_with fail
              refine HI2.out.mono ?_
              rintro e w1 ⟨rfl, rfl⟩
              go_wp2
              go_ret
              exact ⟨by rw [HR.out]; rfl, HB.out⟩
          · have HDP := Lib.hid (dpD_no (dupD_none (l := l) (fun j hj => HN.out j (by omega))))
            go_wp2
            go_loopw [5] (fun i wr => ∃ k : Nat, 1 ≤ k ∧ k ≤ 13 ∧ i = .int .i64 k ∧ Below w.heap.size w wr ∧ ∀ j, 0 < j → j < k → bef (ge l j) (ge l ((j - 1) / 2)) = false) (fun i _ => l.length - (intOf i).toNat)
            case atStart => exact ⟨1, Nat.le_refl _, by omega, rfl, HB.out, fun j h h' => absurd h (by omega)⟩
            case round =>
              obtain ⟨k, hk1, hk, rfl, hb, hno⟩ := hrel
              have HN := Lib.hid hno
              have HVK := Lib.hid (HV.out.below hb)
              have HB := Lib.hid hb
              have hk13 : (k : Int) ≤ 13 := by omega
              clear hno hb
              by_cases hlt : k < l.length
              · obtain ⟨p, hp⟩ : ∃ p, p = (k - 1) / 2 := ⟨_, rfl⟩
                have hpl : p < l.length := by omega
                have HPP := Lib.hid hp
                have hw1 : IntKind.i64.wrap ((k : Int) - 1) = (k : Int) - 1 := IntWalk.i64_in _ (by omega)
                have hq1 : ((k : Int) - 1).tdiv 2 = (p : Int) := by rw [Int.tdiv_eq_ediv_of_nonneg (by omega)]; omega
                have hw2 : IntKind.i64.wrap (p : Int) = (p : Int) := IntWalk.i64_in _ (by omega)
                clear hp
                have HF := Lib.hid (fun w1 => rbef_any (ge l k) (ge l p) w1)
                obtain ⟨b, o, rfl, hb, c0, c1⟩ := HVK.out.atg hlt
                obtain ⟨b', o', e', hb', d0, d1⟩ := HVK.out.atg hpl
                injection e' with e'
                injection e' with e1 e2
                subst e1; subst e2
                clear hb'
                obtain ⟨X, hX⟩ : ∃ X, ge l k = X := ⟨_, rfl⟩
                obtain ⟨Y, hY⟩ : ∃ Y, ge l p = Y := ⟨_, rfl⟩
                have HX := Lib.hid hX
                have HY := Lib.hid hY
                rw [hX, hY] at HF
                rw [hX] at c0 c1
                rw [hY] at d0 d1
                clear hX hY
                have hbw : b < wr.heap.size := Nat.lt_of_lt_of_le hb HB.out.size
                have hpl' : (p : Int) < (l.length : Int) := by omega
                have HSA := Lib.hid (show wr.drew.cell? ⟨b, o + k * 2, none⟩ = some (.int .i64 X.dl) ∧ wr.drew.cell? ⟨b, o + k * 2 + 1, none⟩ = some (.int .i64 X.id) ∧ wr.drew.cell? ⟨b, o + p * 2, none⟩ = some (.int .i64 Y.dl) ∧ wr.drew.cell? ⟨b, o + p * 2 + 1, none⟩ = some (.int .i64 Y.id) from ⟨c0, c1, d0, d1⟩)
                have HSC := Lib.hid (fun w1 (hb1 : Below wr.drew.heap.size wr.drew w1) => show (w1.cell? ⟨b, o + k * 2, none⟩ = some (.int .i64 X.dl) ∧ w1.cell? ⟨b, o + k * 2 + 1, none⟩ = some (.int .i64 X.id) ∧ w1.cell? ⟨b, o + p * 2, none⟩ = some (.int .i64 Y.dl) ∧ w1.cell? ⟨b, o + p * 2 + 1, none⟩ = some (.int .i64 Y.id)) ∧ Below w.heap.size w w1 from ⟨⟨(hb1.cell (p := ⟨b, o + k * 2, none⟩) hbw).trans c0, (hb1.cell (p := ⟨b, o + k * 2 + 1, none⟩) hbw).trans c1, (hb1.cell (p := ⟨b, o + p * 2, none⟩) hbw).trans d0, (hb1.cell (p := ⟨b, o + p * 2 + 1, none⟩) hbw).trans d1⟩, HB.out.trans ((drew_bel hb1).mono HB.out.size)⟩)
                cases hbf : bef X Y with
                | true =>
                  have HR := Lib.hid (vaF_11 HL.out HSN.out HDP.out (hpD_no (fun hh => by
                    have := hh k (by omega) hlt
                    rw [← HPP.out, HX.out, HY.out, hbf] at this
                    cases this)))
                  rw [hbf] at HF
                  clear hbf hb hbw
                  go_wp2
                  go_region_held3 (fun W => W.cell? ⟨b, o + k * 2, none⟩ = some (.int .i64 X.dl) ∧ W.cell? ⟨b, o + k * 2 + 1, none⟩ = some (.int .i64 X.id) ∧ W.cell? ⟨b, o + p * 2, none⟩ = some (.int .i64 Y.dl) ∧ W.cell? ⟨b, o + p * 2 + 1, none⟩ = some (.int .i64 Y.id))
                    (first | with_reducible exact HSA.out | with_reducible exact HSB.out)
                    ((go_at_call 42; (with_reducible refine (HF.out _).mono ?_); rintro e w1 ⟨rfl, hb1⟩; obtain ⟨hs, hbb⟩ := HSC.out _ hb1; have HSB := Lib.hid hs; have HB1 := Lib.hid hbb; clear hb1 hs hbb))
                  clear c0 c1 d0 d1 hw1 hq1 hw2
                  go_wp2
                  go_ret
                  exact ⟨by rw [HR.out]; rfl, HB1.out⟩
                | false =>
                  have HNN := Lib.hid (show ∀ j, 0 < j → j < k + 1 → bef (ge l j) (ge l ((j - 1) / 2)) = false from fun j h0 h => by
                    by_cases e : j = k
                    · rw [e, ← HPP.out, HX.out, HY.out]; exact hbf
                    · exact HN.out j h0 (by omega))
                  rw [hbf] at HF
                  clear hbf hb hbw
                  go_wp2
                  go_region_held3 (fun W => W.cell? ⟨b, o + k * 2, none⟩ = some (.int .i64 X.dl) ∧ W.cell? ⟨b, o + k * 2 + 1, none⟩ = some (.int .i64 X.id) ∧ W.cell? ⟨b, o + p * 2, none⟩ = some (.int .i64 Y.dl) ∧ W.cell? ⟨b, o + p * 2 + 1, none⟩ = some (.int .i64 Y.id))
                    (first | with_reducible exact HSA.out | with_reducible exact HSB.out)
                    ((go_at_call 42; (with_reducible refine (HF.out _).mono ?_); rintro e w1 ⟨rfl, hb1⟩; obtain ⟨hs, hbb⟩ := HSC.out _ hb1; have HSB := Lib.hid hs; have HB1 := Lib.hid hbb; clear hb1 hs hbb))
                  clear c0 c1 d0 d1 hw1 hq1 hw2
                  go_wp2
                  go_roundw
                  case rel => exact ⟨k + 1, by omega, by have := HL.out; omega, by go_num, HB1.out, HNN.out⟩
                  case measure => simp [intOf]; omega
              · have HR := Lib.hid (vaF_0 HL.out HSN.out HDP.out (hpD_yes (h := l) (fun j h0 hj => HN.out j h0 (by omega))))
                have hlt' : ¬ (k : Int) < (l.length : Int) := by omega
                go_wp2
                go_ret
                exact ⟨by rw [HR.out]; rfl, HB.out⟩
end Go.Proofs.Ytobimcpkhgfliaa
