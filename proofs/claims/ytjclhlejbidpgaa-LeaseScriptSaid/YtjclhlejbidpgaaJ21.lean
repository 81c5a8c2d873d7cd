/- What is proved here: slices.DeleteFunc of numbers with lease.Lapsed's function value, lease.Lapsed by contracts; shardqueueref05.SameInts of two lists that read alike is true; in the statements of layer 6, awake is true. -/
import Derived.Test.YtjclhlejbidpgaaJ20
import Derived.Test.YtjclhlejbidpgaaJ05
import Derived.Deep.QuietTactic
import Derived.BigQuiet
import Derived.Test.YtjclhlejbidpgaaJ17
namespace Go.Proofs.Ytjclhlejbidpgaa
open Go.RowKit
set_option linter.unusedVariables false

theorem li_under : Try.prog.underlying 22 = some (.slice (Try.prog.elem 22)) := by kernel_rfl
theorem li_elem : Try.prog.elem 22 = 3 := by kernel_rfl
theorem run_iupto (A : Option Addr) (n c : Nat) (kh : IntKind) (j : Nat) (hj : j ≤ c) : ∀ W, (Instr.slice 22 (.slice A n c) none (some (.int kh (j : Int))) none).run Try.prog W = .ok (.slice A j c) W := fun W => by
  rw [run_slice_h W _ _ _ _ li_under kh _ (by omega) (by omega), li_elem, Try.sizeOf3]
  cases A <;> simp [Result.andThen, sliced, Addr.add]
theorem run_icut (A : Option Addr) (n c : Nat) (kl : IntKind) (k : Nat) (hk : k ≤ n) : ∃ A', A' = (if c = k then A else A.map (·.add (k * 1))) ∧ ∀ W, (Instr.slice 22 (.slice A n c) (some (.int kl (k : Int))) none none).run Try.prog W = .ok (.slice A' (n - k) (c - k)) W := by
  refine ⟨_, rfl, fun W => ?_⟩
  rw [run_slice_l W _ _ _ _ li_under kl _ (by omega) (by omega), li_elem, Try.sizeOf3]
  simp [Result.andThen, sliced]
theorem own_upL {W W' : World} {base n size : Nat} {e : TypeId} {v : Value} {xs : List Value} (h : W.ownsRow base e size v n xs) (hb : Below W.heap.size W W') : W'.ownsRow base e size v n xs := by
  refine ⟨h.1, ?_⟩
  rcases h.2 with hn | ⟨g, cap, cur, hv, hbg, hg, rest⟩
  · exact .inl hn
  · exact .inr ⟨g, cap, cur, hv, hbg, (hb.block g (Array.getElem?_eq_some_iff.1 hg).1).trans hg, rest⟩
/-- The first i numbers of a row behind clearing the rest. -/
theorem clear_nr {W : World} {base g n cap i : Nat} {ys : List Int} (h : W.ownsRow base 3 1 (.slice (some ⟨g, 0, none⟩) n cap) n (ys.map i64v)) (hi : i ≤ n) {zs : List Int} (hz : ys.take i = zs) (hl : i = zs.length) (vs : List Value) :
    Nr (W.setCells g i vs) (W.setCells g i vs).heap.size (.slice (some ⟨g, 0, none⟩) i cap) zs := by
  have hlen : n = ys.length := by have := h.1; rw [List.length_map] at this; omega
  have hc : n ≤ cap ∧ cap ≤ maxLen := by
    rcases h.2 with ⟨e, _⟩ | ⟨g', cap', cur, e, _, _, hl, hm, _⟩
    · cases e
    · injection e with _ _ e3
      subst e3
      exact ⟨hl, hm⟩
  subst hl
  refine ⟨_, _, rfl, by omega, hc.2, by rw [List.length_map, Nat.mul_one], fun _ => ⟨g, 0, rfl, by rw [sets_size]; exact (h.lt g rfl).2, fun j u hu => ?_⟩⟩
  have hj : j < zs.length := by have := (List.getElem?_eq_some_iff.1 hu).1; rw [List.length_map] at this; exact this
  rw [Nat.zero_add, World.cell?_setCells_out g vs zs.length W ⟨g, j, none⟩ (fun _ _ => Or.inl hj), nr_own h (show j < ys.length by omega), ← hu, List.getElem?_map, List.getElem?_eq_getElem hj]
  have : zs[j] = ys[j]'(by omega) := by
    have := congrArg (fun t => t[j]?) hz
    simp only [List.getElem?_take_of_lt hj, List.getElem?_eq_getElem hj, List.getElem?_eq_getElem (show j < ys.length by omega), Option.some.injEq] at this
    exact this.symm
  rw [this]
  rfl

/-- What is left of a list. -/
def NrB (W0 : World) (zs : List Int) (e : Ending) (w' : World) : Prop := ∃ A c, e = .returned (.slice A zs.length c) ∧ Nr w' w'.heap.size (.slice A zs.length c) zs ∧ Below W0.heap.size W0 w'
set_option maxHeartbeats 8000000 in
set_option maxRecDepth 20000 in
theorem delint_any (p q : Nat) (A : Option Addr) (c : Nat) (l : List Le) (A2 : Option Addr) (c2 : Nat) (h : List Du) (ep : Int) (w W0 W : World) (k : LpW w p q A c l A2 c2 h ep W0) (t : TbOk l h) (hb0 : Below W0.heap.size W0 W) (v : Value) (zs : List Int) (ho : W.ownsRow W0.heap.size 3 1 v zs.length (zs.map i64v)) (hf : ∀ x ∈ zs, 0 ≤ kFi Le.id l x) (h100 : zs.length ≤ 1000) :
    Calls Try.prog 40 #[v, .func (.func 42) #[] #[.pointer (some ⟨p, 0, none⟩), .pointer (some ⟨q, 0, none⟩)]] W (NrB W0 (kpI (pgF l h ep) zs)) := by
  obtain ⟨B, d, rfl⟩ := own_form ho
  have HK := Lib.hid k
  have HO := Lib.hid ho
  have HF := Lib.hid hf
  have HB := Lib.hid hb0
  have HL := Lib.hid (fun id hf W (k : LpW w p q A c l A2 c2 h ep W) => lapsed1_any p q A c l A2 c2 h ep id w W k t hf)
  have HIX := Lib.hid (ixint_any p q A c l A2 c2 h ep w W (k.below hb0) t B zs.length d zs (Nr.of_own ho) hf h100)
  clear k ho hf hb0 t
  generalize pgF l h ep = P at *
  rcases fxI_cases P zs with ⟨e, hn⟩ | ⟨i0, hi0, e, h1, hn⟩
  · rw [e] at HIX
    have HKA := Lib.hid (kpI_all hn)
    have HR := Lib.hid (fun W' (hb : Below W.heap.size W W') => show NrB W0 (kpI P zs) (.returned (.slice B zs.length d)) W' from by
      rw [HKA.out]; exact ⟨_, _, rfl, (Nr.of_own HO.out).up hb, HB.out.trans (hb.mono HB.out.size)⟩)
    clear e hn HKA
    go_enter Try.func40, Try.ntmps40
    go_wp2_with fail
    refine HIX.out.mono ?_
    rintro e w1 ⟨rfl, hb1⟩
    have HF1 := Lib.hid (HR.out _ hb1)
    clear hb1
    go_wp2
    go_ret
    exact HF1.out
  · rw [e] at HIX
    obtain ⟨g, rfl⟩ : ∃ g, B = some ⟨g, 0, none⟩ := by
      rcases HO.out.2 with ⟨_, e0⟩ | ⟨g, cap, cur, hv, _⟩
      · omega
      · injection hv with e1 _ e3
        exact ⟨g, e1⟩
    have hdl := (Nr.of_own HO.out).len
    have hdm : d ≤ 9223372036854775807 := by have := hdl.2.2; unfold maxLen at this; omega
    have hld : zs.length ≤ d := hdl.2.1
    have HI0 := Lib.hid (DfI.start hi0 h1 hn)
    obtain ⟨n, hn0⟩ : ∃ n, n = zs.length := ⟨_, rfl⟩
    have HN := Lib.hid hn0
    rw [← hn0] at HIX hld h100 ⊢
    have HO := Lib.hid (show W.ownsRow W0.heap.size 3 1 (.slice (some ⟨g, 0, none⟩) n d) n (zs.map i64v) by rw [hn0]; exact HO.out)
    have hi0n : i0 < n := by omega
    have hi1 : ((i0 : Int) == -1) = false := by simp
    clear e h1 hn hdl hn0 hi0
    go_enter Try.func40, Try.ntmps40
    go_wp2_with fail
    refine HIX.out.mono ?_
    rintro e w1 ⟨rfl, hb1⟩
    have HO1 := Lib.hid (own_upL HO.out hb1)
    have HB1 := Lib.hid (HB.out.trans (hb1.mono HB.out.size))
    clear hb1
    go_wp2
    go_loopw [5, 6] (fun s5 s6 wr => ∃ (i j : Nat) (ys : List Int), s5 = .int .i64 i ∧ s6 = .int .i64 j ∧ i < j ∧ j ≤ n ∧ Hid (DfI P zs i j ys) ∧ Hid (wr.ownsRow W0.heap.size 3 1 (.slice (some ⟨g, 0, none⟩) n d) n (ys.map i64v)) ∧ Hid (Below W0.heap.size W0 wr)) (fun _ s6 _ => n - (intOf s6).toNat)
    case atStart => exact ⟨i0, i0 + 1, zs, rfl, by go_num, by omega, by omega, HI0, HO1, HB1⟩
    case round =>
      clear HI0 HO1 HB1
      obtain ⟨i, j, ys, rfl, rfl, hij, hjn, HI, HOJ, HBJ⟩ := hrel
      by_cases hlt : j < n
      · have hjz : j < zs.length := by rw [← HN.out]; exact hlt
        have hjy : j < ys.length := by rw [HI.out.len]; exact hjz
        have c0 := nr_own HOJ.out hjy
        rw [HI.out.at_ hjz] at c0
        obtain ⟨x, hx⟩ : ∃ x, zs[j] = x := ⟨_, rfl⟩
        have HM := Lib.hid (HF.out _ (List.getElem_mem hjz))
        rw [hx] at c0 HM
        have HX := Lib.hid hx
        have HC := Lib.hid (HL.out x HM.out _ (HK.out.below HBJ.out))
        clear hx HM hjy
        cases hp : P x with
        | true =>
          have HI2 := Lib.hid (HI.out.skip hjz (by rw [HX.out]; exact hp))
          rw [hp] at HC
          clear hp HX hjz
          go_wp2_with fail
          refine HC.out.mono ?_
          rintro e w2 ⟨rfl, hb2⟩
          have HO2 := Lib.hid (own_upL HOJ.out hb2)
          have HB2 := Lib.hid (HBJ.out.trans (hb2.mono HBJ.out.size))
          clear hb2 c0
          go_wp2
          go_roundw
          case rel => exact ⟨i, j + 1, ys, rfl, by go_num, by omega, by omega, HI2, HO2, HB2⟩
          case measure => simp [intOf]; omega
        | false =>
          have HI2 := Lib.hid (HI.out.keep hjz (by rw [HX.out]; exact hp))
          rw [HX.out] at HI2
          rw [hp] at HC
          have hin : (i : Int) < (n : Int) := by omega
          have hiy : i < ys.length := by rw [HI.out.len]; omega
          clear hp HX hjz
          go_wp2_with fail
          refine HC.out.mono ?_
          rintro e w2 ⟨rfl, hb2⟩
          have HO2 := Lib.hid (own_upL HOJ.out hb2)
          have HB2 := Lib.hid (HBJ.out.trans (hb2.mono HBJ.out.size))
          have d0 := nr_own HO2.out hiy
          have f0 := HO2.out.frozenAt i
          have HO3 := Lib.hid (show (w2.setCell ⟨g, i, none⟩ (.int .i64 x)).ownsRow W0.heap.size 3 1 (.slice (some ⟨g, 0, none⟩) n d) n ((ys.set i x).map i64v) by
            have := (HO2.out.stored i (.int .i64 x)).1
            rw [List.map_set]
            exact this)
          have HB3 := Lib.hid (HB2.out.setCell (p := ⟨g, i, none⟩) (HO2.out.lt g rfl).1 (.int .i64 x))
          clear hb2 c0
          go_wp2
          go_roundw
          case rel => exact ⟨i + 1, j + 1, ys.set i x, by go_num, by go_num, by omega, by omega, HI2, HO3, HB3⟩
          case measure => simp [intOf]; omega
      · obtain ⟨hk, hil, hiz⟩ := HI.out.done (show ¬ j < zs.length by rw [← HN.out]; exact hlt)
        have hin : i < n := by omega
        obtain ⟨Kp, hKp⟩ : ∃ Kp, Kp = kpI P zs := ⟨_, rfl⟩
        have hcut : ∀ W, (Instr.slice 22 (.slice (some ⟨g, 0, none⟩) n d) (some (.int .i64 (i : Int))) none none).run Try.prog W = .ok (.slice (some ⟨g, i, none⟩) (n - i) (d - i)) W := fun W => by
          obtain ⟨A', hA', h⟩ := run_icut (some ⟨g, 0, none⟩) n d .i64 i (by omega)
          rw [hA', if_neg (by omega), Option.map_some, add_mk, Nat.zero_add, Nat.mul_one] at h
          exact h W
        have hcut2 := run_iupto (some ⟨g, 0, none⟩) n d .i64 i (by omega)
        have hclr : ∀ ty, (Builtin.clear_ #[22] ty #[.slice (some ⟨g, i, none⟩) (n - i) (d - i)]).run Try.prog wr = .ok (.tuple #[]) (wr.setCells g i (List.replicate (n - i) (.int .i64 0))) := fun ty =>
          Lib.run_clear_slice wr 22 3 ty (.int .i64 0) Try.underlying22 (fun w => by rw [Try.zeroValue3]) rfl rfl g i (n - i) (d - i) (Nat.sub_pos_of_lt hin) (fun m hm => by rw [nr_own HOJ.out (j := i + m) (by rw [HI.out.len, ← HN.out]; omega)]; rfl) (fun m hm => HOJ.out.frozenAt _)
        have HFI := Lib.hid (show NrB W0 (kpI P zs) (.returned (.slice (some ⟨g, 0, none⟩) i d)) (wr.setCells g i (List.replicate (n - i) (.int .i64 0))) from by
          have h1 := clear_nr HOJ.out (by omega : i ≤ n) hk hil (List.replicate (n - i) (.int .i64 0))
          refine ⟨some ⟨g, 0, none⟩, d, ?_, ?_, sets_below (HOJ.out.lt g rfl).1 _ _ _ HBJ.out⟩
          · rw [← hil]
          · rw [← hil]; exact h1)
        generalize wr.setCells g i (List.replicate (n - i) (.int .i64 0)) = w5 at *
        clear hk hil hiz hKp
        go_wp2
        go_ret
        exact HFI.out

theorem laV_kp {l : List Le} {h : List Du} (t : TbOk l h) (now ep : Int) : laV l h now ep = kpI (pgF l h ep) (unR h now) := by
  rw [t.lav]
  unfold laF kpI unR
  rw [if_pos t.va]
  rfl
theorem un_in {l : List Le} {h : List Du} (t : TbOk l h) (now : Int) : (∀ x ∈ unR h now, 0 ≤ kFi Le.id l x) ∧ (unR h now).length ≤ 12 := by
  unfold unR
  rw [if_pos t.va]
  have hh := (vaF_zero t.va).2.2.2
  refine ⟨fun x hx => ?_, ?_⟩
  · obtain ⟨d, hd, -, e⟩ := (unF_mem hh now x).1 hx
    rw [← kFi_du]
    exact kFi_ge.2 ⟨d, t.perm.mem_iff.1 hd, e⟩
  · rw [unF_len hh]
    exact Nat.le_trans (List.length_filter_le _ _) (by rw [t.hlen]; exact t.len)
theorem LpW.start {w : World} {A A2 : Option Addr} {c c2 : Nat} {l : List Le} {h : List Du} (hv : El w w.heap.size (.slice A l.length c) l) (hd : Dl w w.heap.size (.slice A2 h.length c2) h) (ep : Int) : LpW w w.heap.size (w.heap.size + 1) A c l A2 c2 h ep ((w.alloc (.cells #[.slice A l.length c, .slice A2 h.length c2] 28)).alloc (.cells #[.int .i64 ep] 3)) :=
  ⟨(VaA.start 28 hv hd).alloc _, by simp [go_sem], by simp⟩
set_option maxHeartbeats 4000000 in
set_option maxRecDepth 20000 in
theorem llapsed_any (A : Option Addr) (n c : Nat) (l : List Le) (A2 : Option Addr) (n2 c2 : Nat) (h : List Du) (now ep : Int) (w : World) (hv : El w w.heap.size (.slice A n c) l) (hd : Dl w w.heap.size (.slice A2 n2 c2) h) :
    Calls Try.prog 19 #[tv A n c A2 n2 c2, .int .i64 now, .int .i64 ep] w (NrB w (laV l h now ep)) := by
  obtain ⟨rfl, hm1, hm2⟩ := hv.len
  obtain ⟨rfl, hm3, hm4⟩ := hd.len
  have H0 := Lib.hid (LpW.start hv hd ep)
  have HV := Lib.hid (fun p W (k : VaA w p A c l A2 c2 h W) => lvalid_any A l.length c l A2 h.length c2 h W k.el k.dl)
  have HU := Lib.hid (fun p W (k : VaA w p A c l A2 c2 h W) => duntil_own A2 h.length c2 h now W k.dl)
  clear hv hd hm1 hm2 hm3 hm4
  have hmf : ∀ (fn : Fn) (first cap : Array Value) (w : World), (Instr.makeFunc fn first cap).run Try.prog w = .ok (.func fn first cap) w := fun _ _ _ _ => rfl
  by_cases h0 : tbV l h = 0
  · have t := (tbV_iff l h).1 h0
    have HD := Lib.hid (fun p q W0 W v (k : LpW w p q A c l A2 c2 h ep W0) hb ho => delint_any p q A c l A2 c2 h ep w W0 W k t hb v (unR h now) ho (un_in t now).1 (by have := (un_in t now).2; omega))
    rw [h0] at HV
    rw [laV_kp t]
    generalize kpI (pgF l h ep) (unR h now) = K at *
    generalize unR h now = U at *
    clear h0 t
    go_enter Try.func19, Try.ntmps19
    obtain ⟨t0, t1, tl⟩ := H0.out.va.tb
    go_wp2_with fail
    obtain ⟨p, hp⟩ : ∃ p, p = w.heap.size := ⟨_, rfl⟩
    obtain ⟨q, hq⟩ : ∃ q, q = w.heap.size + 1 := ⟨_, rfl⟩
    rw [← hq, ← hp] at H0 ⊢
    clear t0 t1 tl hp hq
    generalize ((w.alloc (.cells #[.slice A l.length c, .slice A2 h.length c2] 28)).alloc (.cells #[.int .i64 ep] 3)) = w1 at *
    refine (HV.out _ _ H0.out.va).mono ?_
    rintro e w2 ⟨rfl, hb⟩
    have H1 := Lib.hid (H0.out.below hb)
    obtain ⟨t0, t1, tl⟩ := H1.out.va.tb
    clear hb
    go_wp2_with fail
    clear t0 t1 tl
    refine (HU.out _ _ H1.out.va).mono ?_
    rintro e w3 ⟨v, rfl, ho, hb⟩
    have HC := Lib.hid (HD.out _ _ _ _ _ H1.out hb ho)
    clear hb ho
    go_wp2_with fail
    refine HC.out.mono ?_
    rintro e w4 ⟨A4, c4, rfl, hn, hb⟩
    have HF := Lib.hid (show NrB w K (.returned (.slice A4 K.length c4)) w4 from ⟨A4, c4, rfl, hn, H1.out.va.bel.trans (hb.mono H1.out.va.bel.size)⟩)
    clear hn hb
    go_wp2
    go_ret
    exact HF.out
  · have HL := Lib.hid (show laV l h now ep = [] from if_neg h0)
    have hne : (tbV l h != 0) = true := bne_iff_ne.2 h0
    rw [HL.out]
    generalize tbV l h = x at *
    clear h0 HL
    go_enter Try.func19, Try.ntmps19
    obtain ⟨t0, t1, tl⟩ := H0.out.va.tb
    go_wp2_with fail
    obtain ⟨p, hp⟩ : ∃ p, p = w.heap.size := ⟨_, rfl⟩
    obtain ⟨q, hq⟩ : ∃ q, q = w.heap.size + 1 := ⟨_, rfl⟩
    rw [← hq, ← hp] at H0 ⊢
    clear t0 t1 tl hp hq
    generalize ((w.alloc (.cells #[.slice A l.length c, .slice A2 h.length c2] 28)).alloc (.cells #[.int .i64 ep] 3)) = w1 at *
    refine (HV.out _ _ H0.out.va).mono ?_
    rintro e w2 ⟨rfl, hb⟩
    have HB1 := Lib.hid (H0.out.below hb).va.bel
    clear hb
    go_wp2
    go_ret
    exact ⟨none, 0, rfl, Nr.nil, HB1.out⟩
end Go.Proofs.Ytjclhlejbidpgaa
namespace Go.Proofs.Ytjclhlejbidpgaa
open Go.RowKit
set_option linter.unusedVariables false

theorem bel_drewN {B : Nat} {a w : World} (h : Below B a w) (n : Nat) : Below B a (w.drewN n) := ⟨h.os, h.tape, h.output, h.size, h.block⟩
set_option maxHeartbeats 2000000 in
theorem rsamei_yes (A A' : Option Addr) (n n' c c' : Nat) (l : List Int) (w : World) (B B' : Nat) (hv : Nr w B (.slice A n c) l) (hv' : Nr w B' (.slice A' n' c') l) :
    Calls Try.prog 38 #[.slice A n c, .slice A' n' c'] w fun e w' => e = .returned (.bool true) ∧ Below w.heap.size w w' := by
  obtain ⟨rfl, hm1, hm2⟩ := hv.len
  obtain ⟨rfl, hm1', hm2'⟩ := hv'.len
  have hL : l.length ≤ 9223372036854775807 := by unfold maxLen at hm2; omega
  have HV := Lib.hid hv
  have HV' := Lib.hid hv'
  have HB := Lib.hid (Below.refl w.heap.size w)
  clear hv hm1 hm2 hv' hm1' hm2'
  go_enter Try.func38, Try.ntmps38
  go_wp2
  go_loopw [5] (fun i wr => ∃ k : Nat, k ≤ l.length ∧ i = .int .i64 k ∧ Nr wr B (.slice A l.length c) l ∧ Nr wr B' (.slice A' l.length c') l ∧ Below w.heap.size w wr) (fun i _ => l.length - (intOf i).toNat)
  case atStart => exact ⟨0, by omega, rfl, HV.out, HV'.out, HB.out⟩
  case round =>
    obtain ⟨k, hk, rfl, hv, hv', hb⟩ := hrel
    have HV := Lib.hid hv
    have HV' := Lib.hid hv'
    have HB := Lib.hid hb
    clear hv hv' hb
    by_cases hlt : k < l.length
    · obtain ⟨b, o, rfl, hb, c0⟩ := HV.out.at_ hlt
      obtain ⟨b', o', rfl, hb', d0⟩ := HV'.out.at_ hlt
      generalize l[k] = M at *
      have hne : (M != M) = false := by simp
      go_wp2
      go_quiet (fail)
      go_wp2
      go_roundw
      case rel => exact ⟨k + 1, by omega, by go_num, HV.out.drewN _, HV'.out.drewN _, bel_drewN HB.out _⟩
      case measure => simp [intOf]; omega
    · go_wp2
      go_ret
      exact ⟨rfl, HB.out⟩
end Go.Proofs.Ytjclhlejbidpgaa
namespace Go.Proofs.Ytjclhlejbidpgaa
open Go.RowKit
set_option linter.unusedVariables false

def aw7 : Le := ⟨⟨7, 0, 0, 0, 1, 0, ⟨#[]⟩⟩, 30⟩
def aw9 : Le := ⟨⟨9, 0, 0, 0, 1, 0, ⟨#[]⟩⟩, 20⟩
theorem aw7_ok : leOk aw7 := ⟨by decide, by decide, by decide, by decide⟩
theorem aw9_ok : leOk aw9 := ⟨by decide, by decide, by decide, by decide⟩
theorem gr_yes {l : List Le} {h : List Du} {x : Le} (t : TbOk l h) (ok : leOk x) (hl : l.length < 12) (hf : kFi Le.id l x.id < 0) : grE l h x = 0 ∧ grL l h x = kIns Le.id l x ∧ grH l h x = hpu h x.du ∧ TbOk (kIns Le.id l x) (hpu h x.du) := by
  have e : grE l h x = 0 := by
    obtain ⟨h2, h3, h4, h5⟩ := ok
    unfold grE
    rw [if_neg (by simpa using (tbV_iff l h).2 t), if_neg (by simpa using h2), if_neg h3, if_neg (by omega), if_neg (by omega), if_neg (by omega)]
  exact ⟨e, if_pos e, if_pos e, t.grant ok ok.snd hl hf⟩
theorem aw_1 : grE [] [] aw7 = 0 ∧ grL [] [] aw7 = [aw7] ∧ grH [] [] aw7 = [aw7.du] ∧ TbOk [aw7] [aw7.du] := by
  obtain ⟨h1, h2, h3, h4⟩ := gr_yes TbOk.nil aw7_ok (by decide) (by decide)
  have e1 : kIns Le.id [] aw7 = [aw7] := rfl
  have e2 : hpu [] aw7.du = [aw7.du] := by unfold hpu; rw [List.length_nil, upF_zero]; rfl
  rw [e1] at h2 h4
  rw [e2] at h3 h4
  exact ⟨h1, h2, h3, h4⟩
theorem aw_2 : grE [aw7] [aw7.du] aw9 = 0 ∧ grL [aw7] [aw7.du] aw9 = [aw7, aw9] ∧ grH [aw7] [aw7.du] aw9 = [aw9.du, aw7.du] ∧ TbOk [aw7, aw9] [aw9.du, aw7.du] := by
  obtain ⟨h1, h2, h3, h4⟩ := gr_yes aw_1.2.2.2 aw9_ok (by decide) (by decide)
  have e1 : kIns Le.id [aw7] aw9 = [aw7, aw9] := by
    have : kAt Le.id [aw7] aw9.id = 1 := by decide
    unfold kIns; rw [this]; rfl
  have e2 : hpu [aw7.du] aw9.du = [aw9.du, aw7.du] := by
    unfold hpu
    rw [upF_step (by simp) (by decide), show ([aw7.du].length - 1) / 2 = 0 by simp, upF_zero]
    rfl
  rw [e1] at h2 h4
  rw [e2] at h3 h4
  exact ⟨h1, h2, h3, h4⟩
theorem aw_3 : laV [aw7, aw9] [aw9.du, aw7.du] 30 0 = [9, 7] := by
  have t := aw_2.2.2.2
  have hh := (vaF_zero t.va).2.2.2
  have e : unF [aw9.du, aw7.du] 30 = [9, 7] := by
    rw [unF_sorted hh (List.Perm.refl _) (by unfold Srt; simp; decide)]
    decide
  have f7 := (t.fn (k := 0) (by decide)).2
  have f9 := (t.fn (k := 1) (by decide)).2
  have f7' : fnX [aw7, aw9] [aw9.du, aw7.du] 7 = aw7 := f7
  have f9' : fnX [aw7, aw9] [aw9.du, aw7.du] 9 = aw9 := f9
  rw [t.lav]
  unfold laF
  rw [e, List.filter_cons, f9', List.filter_cons, f7']
  rfl
/-- A table of so many leases as a result. -/
def TEk (k k2 : Nat) (w : World) (l : List Le) (h : List Du) (e : Ending) (w' : World) : Prop := ∃ A c A2 c2, e = .returned (.tuple #[.agg #[.slice A k c, .slice A2 k2 c2], .int .i64 0]) ∧ Nw w.heap.size A ∧ Nw w.heap.size A2 ∧ El w' w'.heap.size (.slice A k c) l ∧ Dl w' w'.heap.size (.slice A2 k2 c2) h ∧ Below w.heap.size w w'
set_option maxHeartbeats 4000000 in
set_option maxRecDepth 20000 in
theorem awake6_any (w : World) : Calls Try.prog 17 #[] w fun e w' => e = .returned (.bool true) ∧ Below w.heap.size w w' := by
  have HP1 := Lib.hid (fun W => show Calls Try.prog 11 #[.agg #[.slice none 0 0, .slice none 0 0], .agg #[.int .i64 7, .int .i64 0, .int .i64 0, .int .i64 0, .int .i64 1, .int .i64 0, .string ⟨#[]⟩], .int .i64 30] W (TEk 1 1 W [aw7] [aw7.du]) from by
    have h := lgrant_any none 0 0 [] none 0 0 [] aw7 W El.nil Dl.nil
    rw [aw_1.1, aw_1.2.1, aw_1.2.2.1] at h
    exact h)
  have HP2 := Lib.hid (fun A c A2 c2 W (hv : El W W.heap.size (.slice A 1 c) [aw7]) (hd : Dl W W.heap.size (.slice A2 1 c2) [aw7.du]) => show Calls Try.prog 11 #[.agg #[.slice A 1 c, .slice A2 1 c2], .agg #[.int .i64 9, .int .i64 0, .int .i64 0, .int .i64 0, .int .i64 1, .int .i64 0, .string ⟨#[]⟩], .int .i64 20] W (TEk 2 2 W [aw7, aw9] [aw9.du, aw7.du]) from by
    have h := lgrant_any A 1 c [aw7] A2 1 c2 [aw7.du] aw9 W hv hd
    rw [aw_2.1, aw_2.2.1, aw_2.2.2.1] at h
    exact h)
  have HP3 := Lib.hid (fun A c A2 c2 W (hv : El W W.heap.size (.slice A 2 c) [aw7, aw9]) (hd : Dl W W.heap.size (.slice A2 2 c2) [aw9.du, aw7.du]) => show Calls Try.prog 19 #[.agg #[.slice A 2 c, .slice A2 2 c2], .int .i64 30, .int .i64 0] W (fun e w' => ∃ A c, e = .returned (.slice A 2 c) ∧ Nr w' w'.heap.size (.slice A 2 c) [9, 7] ∧ Below W.heap.size W w') from by
    have h := llapsed_any A 2 c [aw7, aw9] A2 2 c2 [aw9.du, aw7.du] 30 0 W hv hd
    rw [aw_3] at h
    exact h)
  have HP4 := Lib.hid (fun A A' n n' c c' W B B' h h' => rsamei_yes A A' n n' c c' [9, 7] W B B' h h')
  go_enter Try.func17, Try.ntmps17
  go_wp2_with fail
  refine (HP1.out _).mono ?_
  rintro e w1 ⟨A1, c1, A2, c2, rfl, n1, n2, h1, h2, hb⟩
  have R1 := Lib.hid (RT.start w1 A1 1 c1 A2 1 c2 28)
  have B1 := Lib.hid ((Below.refl w1.heap.size w1).alloc (Nat.le_refl _) (.cells #[.slice A1 1 c1, .slice A2 1 c2] 28))
  have E1 := Lib.hid (h1.up B1.out)
  have D1 := Lib.hid (h2.up B1.out)
  have HB1 := Lib.hid (hb.trans (B1.out.mono hb.size))
  have HBS := Lib.hid hb.size
  clear n1 n2 h1 h2 hb
  go_wp2_with fail
  obtain ⟨a, ha⟩ : ∃ a, a = w1.heap.size := ⟨_, rfl⟩
  have HA := Lib.hid (show w.heap.size ≤ a by have := HBS.out; omega)
  rw [← ha] at R1 ⊢
  clear ha B1
  generalize w1.alloc (.cells #[.slice A1 1 c1, .slice A2 1 c2] 28) = w2 at *
  refine (HP2.out _ _ _ _ _ E1.out D1.out).mono ?_
  rintro e w3 ⟨A3, c3, A4, c4, rfl, n3, n4, h3, h4, hb⟩
  have R3 := Lib.hid (R1.out.below hb R1.out.lt)
  have E3 := Lib.hid ((h3.set2 (v := .slice A3 2 c3) (v2 := .slice A4 2 c4) n3 R1.out.lt).more (show w3.heap.size ≤ (set2 w3 a (.slice A3 2 c3) (.slice A4 2 c4)).heap.size by simp))
  have D3 := Lib.hid ((h4.set2 (v := .slice A3 2 c3) (v2 := .slice A4 2 c4) n4 R1.out.lt).more (show w3.heap.size ≤ (set2 w3 a (.slice A3 2 c3) (.slice A4 2 c4)).heap.size by simp))
  have HB3 := Lib.hid (set2_below (v := .slice A3 2 c3) (v2 := .slice A4 2 c4) (HB1.out.trans (hb.mono HB1.out.size)) HA.out)
  clear n3 n4 h3 h4 hb
  obtain ⟨a0, a1, af0, af1, al⟩ := R3.out
  go_wp2_with fail
  refine (HP3.out _ _ _ _ _ E3.out D3.out).mono ?_
  rintro e w5 ⟨A5, c5, rfl, hn, hb⟩
  have HB5 := Lib.hid (HB3.out.trans (hb.mono HB3.out.size))
  have N5 := Lib.hid hn
  have B6 := Lib.hid ((Below.refl w5.heap.size w5).alloc (Nat.le_refl _) (.cells #[.int .i64 9, .int .i64 7] 3))
  have N6 := Lib.hid (N5.out.up B6.out)
  have L6 := Lib.hid (show Nr (w5.alloc (.cells #[.int .i64 9, .int .i64 7] 3)) (w5.heap.size + 1) (.slice (some ⟨w5.heap.size, 0, none⟩) 2 2) [9, 7] from ⟨_, 2, rfl, by decide, by unfold maxLen; omega, Rd.fresh w5 #[.int .i64 9, .int .i64 7] 3⟩)
  clear hn hb a0 a1 af0 af1 al
  go_wp2_with fail
  refine (HP4.out _ _ _ _ _ _ _ _ _ N6.out L6.out).mono ?_
  rintro e w6 ⟨rfl, hb⟩
  have HB6 := Lib.hid (HB5.out.trans ((B6.out.trans (hb.mono B6.out.size)).mono HB5.out.size))
  clear hb
  go_wp2
  go_ret
  exact ⟨rfl, HB6.out⟩
end Go.Proofs.Ytjclhlejbidpgaa
