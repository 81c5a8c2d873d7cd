/- What is proved here: slices.DeleteFunc of numbers with lease.Lapsed's function value, lease.Lapsed by contracts; lease.Lapsed by a contract that says that its list is new; shard.pull of what Take wants, by a contract. -/
import Derived.Test.YtnldgfhkdllinaaGreatJ37
import Derived.Test.YtnldgfhkdllinaaGreatJ04
import Derived.Test.YtnldgfhkdllinaaGreatJ34
namespace Go.Proofs.YtnldgfhkdllinaaGreat
open Go.RowKit
set_option linter.unusedVariables false

theorem li_under : Tryz.prog.underlying 22 = some (.slice (Tryz.prog.elem 22)) := by kernel_rfl
theorem li_elem : Tryz.prog.elem 22 = 3 := by kernel_rfl
theorem run_iupto (A : Option Addr) (n c : Nat) (kh : IntKind) (j : Nat) (hj : j ≤ c) : ∀ W, (Instr.slice 22 (.slice A n c) none (some (.int kh (j : Int))) none).run Tryz.prog W = .ok (.slice A j c) W := fun W => by
  rw [run_slice_h W _ _ _ _ li_under kh _ (by omega) (by omega), li_elem, Tryz.sizeOf3]
  cases A <;> simp [Result.andThen, sliced, Addr.add]
theorem run_icut (A : Option Addr) (n c : Nat) (kl : IntKind) (k : Nat) (hk : k ≤ n) : ∃ A', A' = (if c = k then A else A.map (·.add (k * 1))) ∧ ∀ W, (Instr.slice 22 (.slice A n c) (some (.int kl (k : Int))) none none).run Tryz.prog W = .ok (.slice A' (n - k) (c - k)) W := by
  refine ⟨_, rfl, fun W => ?_⟩
  rw [run_slice_l W _ _ _ _ li_under kl _ (by omega) (by omega), li_elem, Tryz.sizeOf3]
  simp [Result.andThen, sliced]
theorem own_upL {W W' : World} {base n size : Nat} {e : TypeId} {v : Value} {xs : List Value} (h : W.ownsRow base e size v n xs) (hb : Below W.heap.size W W') : W'.ownsRow base e size v n xs := by
  refine ⟨h.1, ?_⟩
  rcases h.2 with hn | ⟨g, cap, cur, hv, hbg, hg, rest⟩
  · exact .inl hn
  · exact .inr ⟨g, cap, cur, hv, hbg, (hb.block g (Array.getElem?_eq_some_iff.1 hg).1).trans hg, rest⟩
/-- The first i numbers of a row behind clearing the rest. -/
theorem clear_nr {W : World} {base g n cap i : Nat} {ys : List Int} (h : W.ownsRow base 3 1 (.slice (some ⟨g, 0, none⟩) n cap) n (ys.map i64v)) (hi : i ≤ n) {zs : List Int} (hz : ys.take i = zs) (hl : i = zs.length) (vs : List Value) :
    Nr (W.setCells g i vs) (W.setCells g i vs).heap.size (.slice (some ⟨g, 0, none⟩) i cap) zs := by
  have hlen : n = ys.length := by have := h.1; rw [List.length_map] at this; omega
  have hc : n ≤ cap ∧ cap ≤ maxLen := by
    rcases h.2 with ⟨e, _⟩ | ⟨g', cap', cur, e, _, _, hl, hm, _⟩
    · cases e
    · injection e with _ _ e3
      subst e3
      exact ⟨hl, hm⟩
  subst hl
  refine ⟨_, _, rfl, by omega, hc.2, by rw [List.length_map, Nat.mul_one], fun _ => ⟨g, 0, rfl, by rw [sets_size]; exact (h.lt g rfl).2, fun j u hu => ?_⟩⟩
  have hj : j < zs.length := by have := (List.getElem?_eq_some_iff.1 hu).1; rw [List.length_map] at this; exact this
  rw [Nat.zero_add, World.cell?_setCells_out g vs zs.length W ⟨g, j, none⟩ (fun _ _ => Or.inl hj), nr_own h (show j < ys.length by omega), ← hu, List.getElem?_map, List.getElem?_eq_getElem hj]
  have : zs[j] = ys[j]'(by omega) := by
    have := congrArg (fun t => t[j]?) hz
    simp only [List.getElem?_take_of_lt hj, List.getElem?_eq_getElem hj, List.getElem?_eq_getElem (show j < ys.length by omega), Option.some.injEq] at this
    exact this.symm
  rw [this]
  rfl

/-- What is left of a list. -/
def NrB (W0 : World) (zs : List Int) (e : Ending) (w' : World) : Prop := ∃ A c, e = .returned (.slice A zs.length c) ∧ Nr w' w'.heap.size (.slice A zs.length c) zs ∧ Below W0.heap.size W0 w'
set_option maxHeartbeats 8000000 in
set_option maxRecDepth 20000 in
theorem delint_any (p q : Nat) (A : Option Addr) (c : Nat) (l : List Le) (A2 : Option Addr) (c2 : Nat) (h : List Du) (ep : Int) (w W0 W : World) (k : LpW w p q A c l A2 c2 h ep W0) (t : TbOk l h) (hb0 : Below W0.heap.size W0 W) (v : Value) (zs : List Int) (ho : W.ownsRow W0.heap.size 3 1 v zs.length (zs.map i64v)) (hf : ∀ x ∈ zs, 0 ≤ kFi Le.id l x) (h100 : zs.length ≤ 1000) :
    Calls Tryz.prog 132 #[v, .func (.func 134) #[] #[.pointer (some ⟨p, 0, none⟩), .pointer (some ⟨q, 0, none⟩)]] W (NrB W0 (kpI (pgF l h ep) zs)) := by
  obtain ⟨B, d, rfl⟩ := own_form ho
  have HK := Lib.hid k
  have HO := Lib.hid ho
  have HF := Lib.hid hf
  have HB := Lib.hid hb0
  have HL := Lib.hid (fun id hf W (k : LpW w p q A c l A2 c2 h ep W) => lapsed1_any p q A c l A2 c2 h ep id w W k t hf)
  have HIX := Lib.hid (ixint_any p q A c l A2 c2 h ep w W (k.below hb0) t B zs.length d zs (Nr.of_own ho) hf h100)
  clear k ho hf hb0 t
  generalize pgF l h ep = P at *
  rcases fxI_cases P zs with ⟨e, hn⟩ | ⟨i0, hi0, e, h1, hn⟩
  · rw [e] at HIX
    have HKA := Lib.hid (kpI_all hn)
    have HR := Lib.hid (fun W' (hb : Below W.heap.size W W') => show NrB W0 (kpI P zs) (.returned (.slice B zs.length d)) W' from by
      rw [HKA.out]; exact ⟨_, _, rfl, (Nr.of_own HO.out).up hb, HB.out.trans (hb.mono HB.out.size)⟩)
    clear e hn HKA
    go_enter Tryz.func132, Tryz.ntmps132
    go_wp2_with fail
    refine HIX.out.mono ?_
    rintro e w1 ⟨rfl, hb1⟩
    have HF1 := Lib.hid (HR.out _ hb1)
    clear hb1
    go_wp2
    go_ret
    exact HF1.out
  · rw [e] at HIX
    obtain ⟨g, rfl⟩ : ∃ g, B = some ⟨g, 0, none⟩ := by
      rcases HO.out.2 with ⟨_, e0⟩ | ⟨g, cap, cur, hv, _⟩
      · omega
      · injection hv with e1 _ e3
        exact ⟨g, e1⟩
    have hdl := (Nr.of_own HO.out).len
    have hdm : d ≤ 9223372036854775807 := by have := hdl.2.2; unfold maxLen at this; omega
    have hld : zs.length ≤ d := hdl.2.1
    have HI0 := Lib.hid (DfI.start hi0 h1 hn)
    obtain ⟨n, hn0⟩ : ∃ n, n = zs.length := ⟨_, rfl⟩
    have HN := Lib.hid hn0
    rw [← hn0] at HIX hld h100 ⊢
    have HO := Lib.hid (show W.ownsRow W0.heap.size 3 1 (.slice (some ⟨g, 0, none⟩) n d) n (zs.map i64v) by rw [hn0]; exact HO.out)
    have hi0n : i0 < n := by omega
    have hi1 : ((i0 : Int) == -1) = false := by simp
    clear e h1 hn hdl hn0 hi0
    go_enter Tryz.func132, Tryz.ntmps132
    go_wp2_with fail
    refine HIX.out.mono ?_
    rintro e w1 ⟨rfl, hb1⟩
    have HO1 := Lib.hid (own_upL HO.out hb1)
    have HB1 := Lib.hid (HB.out.trans (hb1.mono HB.out.size))
    clear hb1
    go_wp2
    go_loopw [5, 6] (fun s5 s6 wr => ∃ (i j : Nat) (ys : List Int), s5 = .int .i64 i ∧ s6 = .int .i64 j ∧ i < j ∧ j ≤ n ∧ Hid (DfI P zs i j ys) ∧ Hid (wr.ownsRow W0.heap.size 3 1 (.slice (some ⟨g, 0, none⟩) n d) n (ys.map i64v)) ∧ Hid (Below W0.heap.size W0 wr)) (fun _ s6 _ => n - (intOf s6).toNat)
    case atStart => exact ⟨i0, i0 + 1, zs, rfl, by go_num, by omega, by omega, HI0, HO1, HB1⟩
    case round =>
      clear HI0 HO1 HB1
      obtain ⟨i, j, ys, rfl, rfl, hij, hjn, HI, HOJ, HBJ⟩ := hrel
      by_cases hlt : j < n
      · have hjz : j < zs.length := by rw [← HN.out]; exact hlt
        have hjy : j < ys.length := by rw [HI.out.len]; exact hjz
        have c0 := nr_own HOJ.out hjy
        rw [HI.out.at_ hjz] at c0
        obtain ⟨x, hx⟩ : ∃ x, zs[j] = x := ⟨_, rfl⟩
        have HM := Lib.hid (HF.out _ (List.getElem_mem hjz))
        rw [hx] at c0 HM
        have HX := Lib.hid hx
        have HC := Lib.hid (HL.out x HM.out _ (HK.out.below HBJ.out))
        clear hx HM hjy
        cases hp : P x with
        | true =>
          have HI2 := Lib.hid (HI.out.skip hjz (by rw [HX.out]; exact hp))
          rw [hp] at HC
          clear hp HX hjz
          go_wp2_with fail
          refine HC.out.mono ?_
          rintro e w2 ⟨rfl, hb2⟩
          have HO2 := Lib.hid (own_upL HOJ.out hb2)
          have HB2 := Lib.hid (HBJ.out.trans (hb2.mono HBJ.out.size))
          clear hb2 c0
          go_wp2
          go_roundw
          case rel => exact ⟨i, j + 1, ys, rfl, by go_num, by omega, by omega, HI2, HO2, HB2⟩
          case measure => simp [intOf]; omega
        | false =>
          have HI2 := Lib.hid (HI.out.keep hjz (by rw [HX.out]; exact hp))
          rw [HX.out] at HI2
          rw [hp] at HC
          have hin : (i : Int) < (n : Int) := by omega
          have hiy : i < ys.length := by rw [HI.out.len]; omega
          clear hp HX hjz
          go_wp2_with fail
          refine HC.out.mono ?_
          rintro e w2 ⟨rfl, hb2⟩
          have HO2 := Lib.hid (own_upL HOJ.out hb2)
          have HB2 := Lib.hid (HBJ.out.trans (hb2.mono HBJ.out.size))
          have d0 := nr_own HO2.out hiy
          have f0 := HO2.out.frozenAt i
          have HO3 := Lib.hid (show (w2.setCell ⟨g, i, none⟩ (.int .i64 x)).ownsRow W0.heap.size 3 1 (.slice (some ⟨g, 0, none⟩) n d) n ((ys.set i x).map i64v) by
            have := (HO2.out.stored i (.int .i64 x)).1
            rw [List.map_set]
            exact this)
          have HB3 := Lib.hid (HB2.out.setCell (p := ⟨g, i, none⟩) (HO2.out.lt g rfl).1 (.int .i64 x))
          clear hb2 c0
          go_wp2
          go_roundw
          case rel => exact ⟨i + 1, j + 1, ys.set i x, by go_num, by go_num, by omega, by omega, HI2, HO3, HB3⟩
          case measure => simp [intOf]; omega
      · obtain ⟨hk, hil, hiz⟩ := HI.out.done (show ¬ j < zs.length by rw [← HN.out]; exact hlt)
        have hin : i < n := by omega
        obtain ⟨Kp, hKp⟩ : ∃ Kp, Kp = kpI P zs := ⟨_, rfl⟩
        have hcut : ∀ W, (Instr.slice 22 (.slice (some ⟨g, 0, none⟩) n d) (some (.int .i64 (i : Int))) none none).run Tryz.prog W = .ok (.slice (some ⟨g, i, none⟩) (n - i) (d - i)) W := fun W => by
          obtain ⟨A', hA', h⟩ := run_icut (some ⟨g, 0, none⟩) n d .i64 i (by omega)
          rw [hA', if_neg (by omega), Option.map_some, add_mk, Nat.zero_add, Nat.mul_one] at h
          exact h W
        have hcut2 := run_iupto (some ⟨g, 0, none⟩) n d .i64 i (by omega)
        have hclr : ∀ ty, (Builtin.clear_ #[22] ty #[.slice (some ⟨g, i, none⟩) (n - i) (d - i)]).run Tryz.prog wr = .ok (.tuple #[]) (wr.setCells g i (List.replicate (n - i) (.int .i64 0))) := fun ty =>
          Lib.run_clear_slice wr 22 3 ty (.int .i64 0) Tryz.underlying22 (fun w => by rw [Tryz.zeroValue3]) rfl rfl g i (n - i) (d - i) (Nat.sub_pos_of_lt hin) (fun m hm => by rw [nr_own HOJ.out (j := i + m) (by rw [HI.out.len, ← HN.out]; omega)]; rfl) (fun m hm => HOJ.out.frozenAt _)
        have HFI := Lib.hid (show NrB W0 (kpI P zs) (.returned (.slice (some ⟨g, 0, none⟩) i d)) (wr.setCells g i (List.replicate (n - i) (.int .i64 0))) from by
          have h1 := clear_nr HOJ.out (by omega : i ≤ n) hk hil (List.replicate (n - i) (.int .i64 0))
          refine ⟨some ⟨g, 0, none⟩, d, ?_, ?_, sets_below (HOJ.out.lt g rfl).1 _ _ _ HBJ.out⟩
          · rw [← hil]
          · rw [← hil]; exact h1)
        generalize wr.setCells g i (List.replicate (n - i) (.int .i64 0)) = w5 at *
        clear hk hil hiz hKp
        go_wp2
        go_ret
        exact HFI.out

theorem laV_kp {l : List Le} {h : List Du} (t : TbOk l h) (now ep : Int) : laV l h now ep = kpI (pgF l h ep) (unR h now) := by
  rw [t.lav]
  unfold laF kpI unR
  rw [if_pos t.va]
  rfl
theorem un_in {l : List Le} {h : List Du} (t : TbOk l h) (now : Int) : (∀ x ∈ unR h now, 0 ≤ kFi Le.id l x) ∧ (unR h now).length ≤ 12 := by
  unfold unR
  rw [if_pos t.va]
  have hh := (vaF_zero t.va).2.2.2
  refine ⟨fun x hx => ?_, ?_⟩
  · obtain ⟨d, hd, -, e⟩ := (unF_mem hh now x).1 hx
    rw [← kFi_du]
    exact kFi_ge.2 ⟨d, t.perm.mem_iff.1 hd, e⟩
  · rw [unF_len hh]
    exact Nat.le_trans (List.length_filter_le _ _) (by rw [t.hlen]; exact t.len)
theorem LpW.start {w : World} {A A2 : Option Addr} {c c2 : Nat} {l : List Le} {h : List Du} (hv : El w w.heap.size (.slice A l.length c) l) (hd : Dl w w.heap.size (.slice A2 h.length c2) h) (ep : Int) : LpW w w.heap.size (w.heap.size + 1) A c l A2 c2 h ep ((w.alloc (.cells #[.slice A l.length c, .slice A2 h.length c2] 31)).alloc (.cells #[.int .i64 ep] 3)) :=
  ⟨(VaA.start 31 hv hd).alloc _, by simp [go_sem], by simp⟩
set_option maxHeartbeats 4000000 in
set_option maxRecDepth 20000 in
theorem llapsed_any (A : Option Addr) (n c : Nat) (l : List Le) (A2 : Option Addr) (n2 c2 : Nat) (h : List Du) (now ep : Int) (w : World) (hv : El w w.heap.size (.slice A n c) l) (hd : Dl w w.heap.size (.slice A2 n2 c2) h) :
    Calls Tryz.prog 75 #[tv A n c A2 n2 c2, .int .i64 now, .int .i64 ep] w (NrB w (laV l h now ep)) := by
  obtain ⟨rfl, hm1, hm2⟩ := hv.len
  obtain ⟨rfl, hm3, hm4⟩ := hd.len
  have H0 := Lib.hid (LpW.start hv hd ep)
  have HV := Lib.hid (fun p W (k : VaA w p A c l A2 c2 h W) => lvalid_any A l.length c l A2 h.length c2 h W k.el k.dl)
  have HU := Lib.hid (fun p W (k : VaA w p A c l A2 c2 h W) => duntil_own A2 h.length c2 h now W k.dl)
  clear hv hd hm1 hm2 hm3 hm4
  have hmf : ∀ (fn : Fn) (first cap : Array Value) (w : World), (Instr.makeFunc fn first cap).run Tryz.prog w = .ok (.func fn first cap) w := fun _ _ _ _ => rfl
  by_cases h0 : tbV l h = 0
  · have t := (tbV_iff l h).1 h0
    have HD := Lib.hid (fun p q W0 W v (k : LpW w p q A c l A2 c2 h ep W0) hb ho => delint_any p q A c l A2 c2 h ep w W0 W k t hb v (unR h now) ho (un_in t now).1 (by have := (un_in t now).2; omega))
    rw [h0] at HV
    rw [laV_kp t]
    generalize kpI (pgF l h ep) (unR h now) = K at *
    generalize unR h now = U at *
    clear h0 t
    go_enter Tryz.func75, Tryz.ntmps75
    obtain ⟨t0, t1, tl⟩ := H0.out.va.tb
    go_wp2_with fail
    obtain ⟨p, hp⟩ : ∃ p, p = w.heap.size := ⟨_, rfl⟩
    obtain ⟨q, hq⟩ : ∃ q, q = w.heap.size + 1 := ⟨_, rfl⟩
    rw [← hq, ← hp] at H0 ⊢
    clear t0 t1 tl hp hq
    generalize ((w.alloc (.cells #[.slice A l.length c, .slice A2 h.length c2] 31)).alloc (.cells #[.int .i64 ep] 3)) = w1 at *
    refine (HV.out _ _ H0.out.va).mono ?_
    rintro e w2 ⟨rfl, hb⟩
    have H1 := Lib.hid (H0.out.below hb)
    obtain ⟨t0, t1, tl⟩ := H1.out.va.tb
    clear hb
    go_wp2_with fail
    clear t0 t1 tl
    refine (HU.out _ _ H1.out.va).mono ?_
    rintro e w3 ⟨v, rfl, ho, hb⟩
    have HC := Lib.hid (HD.out _ _ _ _ _ H1.out hb ho)
    clear hb ho
    go_wp2_with fail
    refine HC.out.mono ?_
    rintro e w4 ⟨A4, c4, rfl, hn, hb⟩
    have HF := Lib.hid (show NrB w K (.returned (.slice A4 K.length c4)) w4 from ⟨A4, c4, rfl, hn, H1.out.va.bel.trans (hb.mono H1.out.va.bel.size)⟩)
    clear hn hb
    go_wp2
    go_ret
    exact HF.out
  · have HL := Lib.hid (show laV l h now ep = [] from if_neg h0)
    have hne : (tbV l h != 0) = true := bne_iff_ne.2 h0
    rw [HL.out]
    generalize tbV l h = x at *
    clear h0 HL
    go_enter Tryz.func75, Tryz.ntmps75
    obtain ⟨t0, t1, tl⟩ := H0.out.va.tb
    go_wp2_with fail
    obtain ⟨p, hp⟩ : ∃ p, p = w.heap.size := ⟨_, rfl⟩
    obtain ⟨q, hq⟩ : ∃ q, q = w.heap.size + 1 := ⟨_, rfl⟩
    rw [← hq, ← hp] at H0 ⊢
    clear t0 t1 tl hp hq
    generalize ((w.alloc (.cells #[.slice A l.length c, .slice A2 h.length c2] 31)).alloc (.cells #[.int .i64 ep] 3)) = w1 at *
    refine (HV.out _ _ H0.out.va).mono ?_
    rintro e w2 ⟨rfl, hb⟩
    have HB1 := Lib.hid (H0.out.below hb).va.bel
    clear hb
    go_wp2
    go_ret
    exact ⟨none, 0, rfl, Nr.nil, HB1.out⟩
end Go.Proofs.YtnldgfhkdllinaaGreat
namespace Go.Proofs.YtnldgfhkdllinaaGreat
open Go.RowKit
set_option linter.unusedVariables false

/-- What is left of a list, in new memory. -/
def NrN (W0 : World) (zs : List Int) (e : Ending) (w' : World) : Prop := ∃ A c, e = .returned (.slice A zs.length c) ∧ Nr w' w'.heap.size (.slice A zs.length c) zs ∧ Below W0.heap.size W0 w' ∧ Nw W0.heap.size A
set_option maxHeartbeats 8000000 in
set_option maxRecDepth 20000 in
theorem delint_nw (p q : Nat) (A : Option Addr) (c : Nat) (l : List Le) (A2 : Option Addr) (c2 : Nat) (h : List Du) (ep : Int) (w W0 W : World) (k : LpW w p q A c l A2 c2 h ep W0) (t : TbOk l h) (hb0 : Below W0.heap.size W0 W) (v : Value) (zs : List Int) (ho : W.ownsRow W0.heap.size 3 1 v zs.length (zs.map i64v)) (hf : ∀ x ∈ zs, 0 ≤ kFi Le.id l x) (h100 : zs.length ≤ 1000) :
    Calls Tryz.prog 132 #[v, .func (.func 134) #[] #[.pointer (some ⟨p, 0, none⟩), .pointer (some ⟨q, 0, none⟩)]] W (NrN W0 (kpI (pgF l h ep) zs)) := by
  obtain ⟨B, d, rfl⟩ := own_form ho
  have HK := Lib.hid k
  have HO := Lib.hid ho
  have HF := Lib.hid hf
  have HB := Lib.hid hb0
  have HL := Lib.hid (fun id hf W (k : LpW w p q A c l A2 c2 h ep W) => lapsed1_any p q A c l A2 c2 h ep id w W k t hf)
  have HIX := Lib.hid (ixint_any p q A c l A2 c2 h ep w W (k.below hb0) t B zs.length d zs (Nr.of_own ho) hf h100)
  clear k ho hf hb0 t
  generalize pgF l h ep = P at *
  rcases fxI_cases P zs with ⟨e, hn⟩ | ⟨i0, hi0, e, h1, hn⟩
  · rw [e] at HIX
    have HKA := Lib.hid (kpI_all hn)
    have HR := Lib.hid (fun W' (hb : Below W.heap.size W W') => show NrN W0 (kpI P zs) (.returned (.slice B zs.length d)) W' from by
      rw [HKA.out]; exact ⟨_, _, rfl, (Nr.of_own HO.out).up hb, HB.out.trans (hb.mono HB.out.size), nwv_of (nwv_own HO.out (Nat.le_refl _))⟩)
    clear e hn HKA
    go_enter Tryz.func132, Tryz.ntmps132
    go_wp2_with fail
    refine HIX.out.mono ?_
    rintro e w1 ⟨rfl, hb1⟩
    have HF1 := Lib.hid (HR.out _ hb1)
    clear hb1
    go_wp2
    go_ret
    exact HF1.out
  · rw [e] at HIX
    obtain ⟨g, rfl⟩ : ∃ g, B = some ⟨g, 0, none⟩ := by
      rcases HO.out.2 with ⟨_, e0⟩ | ⟨g, cap, cur, hv, _⟩
      · omega
      · injection hv with e1 _ e3
        exact ⟨g, e1⟩
    have hdl := (Nr.of_own HO.out).len
    have hdm : d ≤ 9223372036854775807 := by have := hdl.2.2; unfold maxLen at this; omega
    have hld : zs.length ≤ d := hdl.2.1
    have HI0 := Lib.hid (DfI.start hi0 h1 hn)
    obtain ⟨n, hn0⟩ : ∃ n, n = zs.length := ⟨_, rfl⟩
    have HN := Lib.hid hn0
    rw [← hn0] at HIX hld h100 ⊢
    have HO := Lib.hid (show W.ownsRow W0.heap.size 3 1 (.slice (some ⟨g, 0, none⟩) n d) n (zs.map i64v) by rw [hn0]; exact HO.out)
    have hi0n : i0 < n := by omega
    have hi1 : ((i0 : Int) == -1) = false := by simp
    clear e h1 hn hdl hn0 hi0
    go_enter Tryz.func132, Tryz.ntmps132
    go_wp2_with fail
    refine HIX.out.mono ?_
    rintro e w1 ⟨rfl, hb1⟩
    have HO1 := Lib.hid (own_upL HO.out hb1)
    have HB1 := Lib.hid (HB.out.trans (hb1.mono HB.out.size))
    clear hb1
    go_wp2
    go_loopw [5, 6] (fun s5 s6 wr => ∃ (i j : Nat) (ys : List Int), s5 = .int .i64 i ∧ s6 = .int .i64 j ∧ i < j ∧ j ≤ n ∧ Hid (DfI P zs i j ys) ∧ Hid (wr.ownsRow W0.heap.size 3 1 (.slice (some ⟨g, 0, none⟩) n d) n (ys.map i64v)) ∧ Hid (Below W0.heap.size W0 wr)) (fun _ s6 _ => n - (intOf s6).toNat)
    case atStart => exact ⟨i0, i0 + 1, zs, rfl, by go_num, by omega, by omega, HI0, HO1, HB1⟩
    case round =>
      clear HI0 HO1 HB1
      obtain ⟨i, j, ys, rfl, rfl, hij, hjn, HI, HOJ, HBJ⟩ := hrel
      by_cases hlt : j < n
      · have hjz : j < zs.length := by rw [← HN.out]; exact hlt
        have hjy : j < ys.length := by rw [HI.out.len]; exact hjz
        have c0 := nr_own HOJ.out hjy
        rw [HI.out.at_ hjz] at c0
        obtain ⟨x, hx⟩ : ∃ x, zs[j] = x := ⟨_, rfl⟩
        have HM := Lib.hid (HF.out _ (List.getElem_mem hjz))
        rw [hx] at c0 HM
        have HX := Lib.hid hx
        have HC := Lib.hid (HL.out x HM.out _ (HK.out.below HBJ.out))
        clear hx HM hjy
        cases hp : P x with
        | true =>
          have HI2 := Lib.hid (HI.out.skip hjz (by rw [HX.out]; exact hp))
          rw [hp] at HC
          clear hp HX hjz
          go_wp2_with fail
          refine HC.out.mono ?_
          rintro e w2 ⟨rfl, hb2⟩
          have HO2 := Lib.hid (own_upL HOJ.out hb2)
          have HB2 := Lib.hid (HBJ.out.trans (hb2.mono HBJ.out.size))
          clear hb2 c0
          go_wp2
          go_roundw
          case rel => exact ⟨i, j + 1, ys, rfl, by go_num, by omega, by omega, HI2, HO2, HB2⟩
          case measure => simp [intOf]; omega
        | false =>
          have HI2 := Lib.hid (HI.out.keep hjz (by rw [HX.out]; exact hp))
          rw [HX.out] at HI2
          rw [hp] at HC
          have hin : (i : Int) < (n : Int) := by omega
          have hiy : i < ys.length := by rw [HI.out.len]; omega
          clear hp HX hjz
          go_wp2_with fail
          refine HC.out.mono ?_
          rintro e w2 ⟨rfl, hb2⟩
          have HO2 := Lib.hid (own_upL HOJ.out hb2)
          have HB2 := Lib.hid (HBJ.out.trans (hb2.mono HBJ.out.size))
          have d0 := nr_own HO2.out hiy
          have f0 := HO2.out.frozenAt i
          have HO3 := Lib.hid (show (w2.setCell ⟨g, i, none⟩ (.int .i64 x)).ownsRow W0.heap.size 3 1 (.slice (some ⟨g, 0, none⟩) n d) n ((ys.set i x).map i64v) by
            have := (HO2.out.stored i (.int .i64 x)).1
            rw [List.map_set]
            exact this)
          have HB3 := Lib.hid (HB2.out.setCell (p := ⟨g, i, none⟩) (HO2.out.lt g rfl).1 (.int .i64 x))
          clear hb2 c0
          go_wp2
          go_roundw
          case rel => exact ⟨i + 1, j + 1, ys.set i x, by go_num, by go_num, by omega, by omega, HI2, HO3, HB3⟩
          case measure => simp [intOf]; omega
      · obtain ⟨hk, hil, hiz⟩ := HI.out.done (show ¬ j < zs.length by rw [← HN.out]; exact hlt)
        have hin : i < n := by omega
        obtain ⟨Kp, hKp⟩ : ∃ Kp, Kp = kpI P zs := ⟨_, rfl⟩
        have hcut : ∀ W, (Instr.slice 22 (.slice (some ⟨g, 0, none⟩) n d) (some (.int .i64 (i : Int))) none none).run Tryz.prog W = .ok (.slice (some ⟨g, i, none⟩) (n - i) (d - i)) W := fun W => by
          obtain ⟨A', hA', h⟩ := run_icut (some ⟨g, 0, none⟩) n d .i64 i (by omega)
          rw [hA', if_neg (by omega), Option.map_some, add_mk, Nat.zero_add, Nat.mul_one] at h
          exact h W
        have hcut2 := run_iupto (some ⟨g, 0, none⟩) n d .i64 i (by omega)
        have hclr : ∀ ty, (Builtin.clear_ #[22] ty #[.slice (some ⟨g, i, none⟩) (n - i) (d - i)]).run Tryz.prog wr = .ok (.tuple #[]) (wr.setCells g i (List.replicate (n - i) (.int .i64 0))) := fun ty =>
          Lib.run_clear_slice wr 22 3 ty (.int .i64 0) Tryz.underlying22 (fun w => by rw [Tryz.zeroValue3]) rfl rfl g i (n - i) (d - i) (Nat.sub_pos_of_lt hin) (fun m hm => by rw [nr_own HOJ.out (j := i + m) (by rw [HI.out.len, ← HN.out]; omega)]; rfl) (fun m hm => HOJ.out.frozenAt _)
        have HFI := Lib.hid (show NrN W0 (kpI P zs) (.returned (.slice (some ⟨g, 0, none⟩) i d)) (wr.setCells g i (List.replicate (n - i) (.int .i64 0))) from by
          have h1 := clear_nr HOJ.out (by omega : i ≤ n) hk hil (List.replicate (n - i) (.int .i64 0))
          refine ⟨some ⟨g, 0, none⟩, d, ?_, ?_, sets_below (HOJ.out.lt g rfl).1 _ _ _ HBJ.out, nw_some (HOJ.out.lt g rfl).1⟩
          · rw [← hil]
          · rw [← hil]; exact h1)
        generalize wr.setCells g i (List.replicate (n - i) (.int .i64 0)) = w5 at *
        clear hk hil hiz hKp
        go_wp2
        go_ret
        exact HFI.out

set_option maxHeartbeats 4000000 in
set_option maxRecDepth 20000 in
theorem llapsed_nw (A : Option Addr) (n c : Nat) (l : List Le) (A2 : Option Addr) (n2 c2 : Nat) (h : List Du) (now ep : Int) (w : World) (hv : El w w.heap.size (.slice A n c) l) (hd : Dl w w.heap.size (.slice A2 n2 c2) h) :
    Calls Tryz.prog 75 #[tv A n c A2 n2 c2, .int .i64 now, .int .i64 ep] w (NrN w (laV l h now ep)) := by
  obtain ⟨rfl, hm1, hm2⟩ := hv.len
  obtain ⟨rfl, hm3, hm4⟩ := hd.len
  have H0 := Lib.hid (LpW.start hv hd ep)
  have HV := Lib.hid (fun p W (k : VaA w p A c l A2 c2 h W) => lvalid_any A l.length c l A2 h.length c2 h W k.el k.dl)
  have HU := Lib.hid (fun p W (k : VaA w p A c l A2 c2 h W) => duntil_own A2 h.length c2 h now W k.dl)
  clear hv hd hm1 hm2 hm3 hm4
  have hmf : ∀ (fn : Fn) (first cap : Array Value) (w : World), (Instr.makeFunc fn first cap).run Tryz.prog w = .ok (.func fn first cap) w := fun _ _ _ _ => rfl
  by_cases h0 : tbV l h = 0
  · have t := (tbV_iff l h).1 h0
    have HD := Lib.hid (fun p q W0 W v (k : LpW w p q A c l A2 c2 h ep W0) hb ho => delint_nw p q A c l A2 c2 h ep w W0 W k t hb v (unR h now) ho (un_in t now).1 (by have := (un_in t now).2; omega))
    rw [h0] at HV
    rw [laV_kp t]
    generalize kpI (pgF l h ep) (unR h now) = K at *
    generalize unR h now = U at *
    clear h0 t
    go_enter Tryz.func75, Tryz.ntmps75
    obtain ⟨t0, t1, tl⟩ := H0.out.va.tb
    go_wp2_with fail
    obtain ⟨p, hp⟩ : ∃ p, p = w.heap.size := ⟨_, rfl⟩
    obtain ⟨q, hq⟩ : ∃ q, q = w.heap.size + 1 := ⟨_, rfl⟩
    rw [← hq, ← hp] at H0 ⊢
    clear t0 t1 tl hp hq
    generalize ((w.alloc (.cells #[.slice A l.length c, .slice A2 h.length c2] 31)).alloc (.cells #[.int .i64 ep] 3)) = w1 at *
    refine (HV.out _ _ H0.out.va).mono ?_
    rintro e w2 ⟨rfl, hb⟩
    have H1 := Lib.hid (H0.out.below hb)
    obtain ⟨t0, t1, tl⟩ := H1.out.va.tb
    clear hb
    go_wp2_with fail
    clear t0 t1 tl
    refine (HU.out _ _ H1.out.va).mono ?_
    rintro e w3 ⟨v, rfl, ho, hb⟩
    have HC := Lib.hid (HD.out _ _ _ _ _ H1.out hb ho)
    clear hb ho
    go_wp2_with fail
    refine HC.out.mono ?_
    rintro e w4 ⟨A4, c4, rfl, hn, hb, hnw⟩
    have HF := Lib.hid (show NrN w K (.returned (.slice A4 K.length c4)) w4 from ⟨A4, c4, rfl, hn, H1.out.va.bel.trans (hb.mono H1.out.va.bel.size), nw_low hnw H1.out.va.bel.size⟩)
    clear hn hb hnw
    go_wp2
    go_ret
    exact HF.out
  · have HL := Lib.hid (show laV l h now ep = [] from if_neg h0)
    have hne : (tbV l h != 0) = true := bne_iff_ne.2 h0
    rw [HL.out]
    generalize tbV l h = x at *
    clear h0 HL
    go_enter Tryz.func75, Tryz.ntmps75
    obtain ⟨t0, t1, tl⟩ := H0.out.va.tb
    go_wp2_with fail
    obtain ⟨p, hp⟩ : ∃ p, p = w.heap.size := ⟨_, rfl⟩
    obtain ⟨q, hq⟩ : ∃ q, q = w.heap.size + 1 := ⟨_, rfl⟩
    rw [← hq, ← hp] at H0 ⊢
    clear t0 t1 tl hp hq
    generalize ((w.alloc (.cells #[.slice A l.length c, .slice A2 h.length c2] 31)).alloc (.cells #[.int .i64 ep] 3)) = w1 at *
    refine (HV.out _ _ H0.out.va).mono ?_
    rintro e w2 ⟨rfl, hb⟩
    have HB1 := Lib.hid (H0.out.below hb).va.bel
    clear hb
    go_wp2
    go_ret
    exact ⟨none, 0, rfl, Nr.nil, HB1.out, nw_none⟩
end Go.Proofs.YtnldgfhkdllinaaGreat
namespace Go.Proofs.YtnldgfhkdllinaaGreat
open Go.RowKit
set_option linter.unusedVariables false

theorem own_end {w1 : World} {base g cap : Nat} {T : List Msg} {X : Msg} (hown : w1.ownsRow base 44 7 (.slice (some ⟨g, 0, none⟩) (T.length + 1) cap) (T.length + 1) (lcs T ++ X.l)) : w1.ownsRow base 44 7 (.slice (some ⟨g, 0, none⟩) (T.length + 1) cap) (T ++ [X]).length (lcs (T ++ [X])) := by
  have hM1 : lcs [X] = X.l := by simp [lcs]
  rw [lcs_app, hM1, List.length_append]
  exact hown
theorem z_out {w W : World} {p r B : Nat} {S : Sh} {D : Sx} {A0 : Option Addr} {c0 : Nat} {L T : List Msg} {lv : Value} (h : PullAt w p r B S D A0 c0 L lv T W) : SLs w S T (.returned (.tuple #[sv S D, lv])) (set8s W r S D) := by
  have hne := h.ne
  have hold := h.sa.old
  obtain ⟨A, c, rfl⟩ := own_form h.own
  refine ⟨D, A, c, rfl, h.dr.low (by omega), SR.sets (h.dr.off (Nat.lt_succ_self r)) (S.l8 D) 0 W h.sa.sr, nwv_of (nwv_own h.own (by omega)), ?_, set8s_below (by omega) h.sa.bel S D⟩
  have hw := own_sets (r := r) (show r < B by omega) (S.l8 D) 0 W h.own
  rw [set8s_eq]
  exact Ls.of_own hw
set_option maxHeartbeats 8000000 in
set_option maxRecDepth 20000 in
theorem spull_any (V : Vs) (k : V.Ok) (D : Sx) (mx : Nat) (b1 b2 : Nat) (ep lim : Int) (w : World) (hs : SR w w.heap.size V.sh D) (hc : CapAt b1 b2 ep lim w) (h12 : mx ≤ 1000) :
    Calls Tryz.prog 62 #[sv V.sh D, .int .i64 (mx : Int), .func (.func 63) #[] #[.pointer (some ⟨b1, 0, none⟩), .pointer (some ⟨b2, 0, none⟩)]] w (SLs w (V.ring (pk mx (fun M => rvF M ep lim) V.L).2).sh (pk mx (fun M => rvF M ep lim) V.L).1) := by
  obtain ⟨ff, hff⟩ : ∃ ff : Msg → Bool, ff = (fun M => rvF M ep lim) := ⟨_, rfl⟩
  have HT := Lib.hid (fun M W (h : CapAt b1 b2 ep lim W) => show Calls Tryz.prog 63 #[M.v, .pointer (some ⟨b1, 0, none⟩), .pointer (some ⟨b2, 0, none⟩)] W fun e w' => e = .returned (.bool (ff M)) ∧ Below W.heap.size W w' by rw [hff]; exact take1_any b1 b2 ep lim M W h)
  rw [← hff]
  clear hff
  obtain ⟨i0, hi0, hz0⟩ := Option.map_eq_some_iff.1 info_msg
  simp only [Prod.mk.injEq] at hz0
  have HI := Lib.hid hi0
  have HZ := Lib.hid hz0
  have HLN := Lib.hid (show V.L.length ≤ 12 from Nat.le_trans k.lenL k.n2)
  have HLS := Lib.hid k.ls
  have HS0 : V.sh = (V.ring (pkL mx ff V.L 0)).sh := by rw [pkL_zero]; rfl
  have hn1 : 1 ≤ V.sh.cs.length := by rw [show V.sh.cs.length = V.n from fil_len _ _ _]; exact k.n1
  have hn2 : V.sh.cs.length ≤ 12 := by rw [show V.sh.cs.length = V.n from fil_len _ _ _]; exact k.n2
  have hn3 : V.sh.l.length ≤ 12 := k.tb.len
  have hn4 : V.sh.h.length ≤ 12 := by have := k.tb.hlen; show V.h.length ≤ 12; have := k.tb.len; omega
  have HGL := Lib.hid (fun p D W (q : SAt w p V.sh D W) => glist_any D.A V.sh.cs.length D.c V.sh.cs V.sh.hd V.sh.sz W q.sr.ls)
  have HLS' : lsF V.sh.cs V.sh.hd V.sh.sz = V.L := k.ls
  rw [HLS'] at HGL
  have HRM := Lib.hid (fun i (hi : i < V.L.length) h1 h2 S S' hS hS' => pull_rm (mx := mx) (f := ff) (i := i) k hi h1 h2 (S := S) (S' := S') hS hS')
  have HCC := Lib.hid hc
  have HPN := Lib.hid (fun i (hi : i < V.L.length) h => pk_no (mx := mx) (p := ff) (L := V.L) hi h)
  have HPY := Lib.hid (fun i (hi : i < V.L.length) h1 h2 => pk_yes (mx := mx) (p := ff) (L := V.L) hi h1 h2)
  have HLN2 := Lib.hid (fun i (hi : i < V.L.length) h => pkL_no (mx := mx) (p := ff) (L := V.L) hi h)
  have HPE : Hid (pk mx ff V.L = pk mx ff (V.L.take V.L.length)) := Lib.hid (by rw [List.take_length])
  have HPL : Hid (pkL mx ff V.L V.L.length = (pk mx ff V.L).2) := Lib.hid pkL_end
  obtain ⟨S, hS⟩ : ∃ S, S = V.sh := ⟨_, rfl⟩
  rw [← hS] at hs hn1 hn2 hn3 hn4 HGL HS0
  rw [← hS]
  have HS0' := Lib.hid HS0
  have HCL := Lib.hid (fun p D W (q : SAt w p S D W) => sclone_any S D W q.sr hn1 (by omega) (by omega) (by omega))
  have H0 := Lib.hid ((SAt.start 33 hs).alloc (.cells #[.bool false, .int .i64 0, .int .i64 0, .slice none 0 0, .int .i64 0, .int .i64 0, .slice none 0 0, .slice none 0 0] 33))
  have R0 := Lib.hid (SB8.zero (w.alloc (.cells #[.bool S.lv, .int .i64 S.lo, .int .i64 S.hi, .slice D.A S.cs.length D.c, .int .i64 S.hd, .int .i64 S.sz, .slice D.A2 S.l.length D.c2, .slice D.A3 S.h.length D.c3] 33)) 33)
  have hmf : ∀ (fn : Fn) (first cap : Array Value) (w : World), (Instr.makeFunc fn first cap).run Tryz.prog w = .ok (.func fn first cap) w := fun _ _ _ _ => rfl
  clear hS hs k hc HLS HLS' HS0 hn1 hn2 hn3 hn4 hi0 hz0
  obtain ⟨L, hL⟩ : ∃ L, L = V.L := ⟨_, rfl⟩
  rw [← hL] at HLN HGL HRM HPN HPY HLN2 HPE HPL HS0' ⊢
  clear hL
  have hl64 : L.length ≤ 9223372036854775807 := by have := HLN.out; omega
  go_enter Tryz.func62, Tryz.ntmps62
  obtain ⟨t0, t1, t2, t3, t4, t5, t6, t7, tl⟩ := H0.out.s8.facts
  go_wp2_with fail
  clear t0 t1 t2 t3 t4 t5 t6 t7 tl
  obtain ⟨p, hp⟩ : ∃ p, p = w.heap.size := ⟨_, rfl⟩
  obtain ⟨r, hr⟩ : ∃ r, r = w.heap.size + 1 := ⟨_, rfl⟩
  have e1 : (w.alloc (.cells #[.bool S.lv, .int .i64 S.lo, .int .i64 S.hi, .slice D.A S.cs.length D.c, .int .i64 S.hd, .int .i64 S.sz, .slice D.A2 S.l.length D.c2, .slice D.A3 S.h.length D.c3] 33)).heap.size = r := by rw [hr]; simp
  rw [e1] at R0
  have HPR := Lib.hid (show ¬ p = r ∧ ¬ r = p ∧ w.heap.size ≤ p ∧ p < r by omega)
  rw [← hr, ← hp]
  rw [← hp] at H0
  clear e1 hp hr
  generalize ((w.alloc (.cells #[.bool S.lv, .int .i64 S.lo, .int .i64 S.hi, .slice D.A S.cs.length D.c, .int .i64 S.hd, .int .i64 S.sz, .slice D.A2 S.l.length D.c2, .slice D.A3 S.h.length D.c3] 33)).alloc (.cells #[.bool false, .int .i64 0, .int .i64 0, .slice none 0 0, .int .i64 0, .int .i64 0, .slice none 0 0, .slice none 0 0] 33)) = w1 at *
  refine (HCL.out _ _ _ H0.out).mono ?_
  rintro e w2 ⟨D2, rfl, hn2, hr2, hb⟩
  have H1 := Lib.hid (H0.out.below hb)
  have H2 := Lib.hid (show SAt w p S D2 ((((((((w2.setCell ⟨p, 0, none⟩ (.bool S.lv)).setCell ⟨p, 1, none⟩ (.int .i64 S.lo)).setCell ⟨p, 2, none⟩ (.int .i64 S.hi)).setCell ⟨p, 3, none⟩ (.slice D2.A S.cs.length D2.c)).setCell ⟨p, 4, none⟩ (.int .i64 S.hd)).setCell ⟨p, 5, none⟩ (.int .i64 S.sz)).setCell ⟨p, 6, none⟩ (.slice D2.A2 S.l.length D2.c2)).setCell ⟨p, 7, none⟩ (.slice D2.A3 S.h.length D2.c3)) from H1.out.put hr2 (hn2.off H0.out.lt))
  have R2 := Lib.hid (show SB8 ((((((((w2.setCell ⟨p, 0, none⟩ (.bool S.lv)).setCell ⟨p, 1, none⟩ (.int .i64 S.lo)).setCell ⟨p, 2, none⟩ (.int .i64 S.hi)).setCell ⟨p, 3, none⟩ (.slice D2.A S.cs.length D2.c)).setCell ⟨p, 4, none⟩ (.int .i64 S.hd)).setCell ⟨p, 5, none⟩ (.int .i64 S.sz)).setCell ⟨p, 6, none⟩ (.slice D2.A2 S.l.length D2.c2)).setCell ⟨p, 7, none⟩ (.slice D2.A3 S.h.length D2.c3)) r zS zX from (R0.out.up hb).put_far HPR.out.2.1 S D2)
  have N2 := Lib.hid (show D2.nw (r + 1) from hn2.low R0.out.lt)
  clear hn2 hr2 hb
  obtain ⟨⟨t0, t1, t2, t3, t4, t5, t6, t7, tl⟩, ⟨f0, f1, f2, f3, f4, f5, f6, f7⟩⟩ := H1.out.s8.all
  go_wp2_with fail
  clear t0 t1 t2 t3 t4 t5 t6 t7 tl f0 f1 f2 f3 f4 f5 f6 f7
  generalize ((((((((w2.setCell ⟨p, 0, none⟩ (.bool S.lv)).setCell ⟨p, 1, none⟩ (.int .i64 S.lo)).setCell ⟨p, 2, none⟩ (.int .i64 S.hi)).setCell ⟨p, 3, none⟩ (.slice D2.A S.cs.length D2.c)).setCell ⟨p, 4, none⟩ (.int .i64 S.hd)).setCell ⟨p, 5, none⟩ (.int .i64 S.sz)).setCell ⟨p, 6, none⟩ (.slice D2.A2 S.l.length D2.c2)).setCell ⟨p, 7, none⟩ (.slice D2.A3 S.h.length D2.c3)) = w3 at *
  refine (HGL.out _ _ _ H2.out).mono ?_
  rintro e w4 ⟨v4, rfl, hn4, hl4, hb⟩
  obtain ⟨A0, c0, rfl, _, _⟩ := hl4.form
  have HP0 := Lib.hid (show PullAt w p r w4.heap.size S D2 A0 c0 L (.slice none 0 0) [] w4 from
    ⟨H2.out.below hb, R2.out.up hb, hl4, offb_nw (nwv_of hn4) H2.out.lt, World.ownsRow_nil _ _ _ _, fun q e => by simp [Value.ownBlock] at e, N2.out, HPR.out.2.2.2, (R2.out.up hb).lt, Nat.le_refl _⟩)
  clear hn4 hl4 hb H0 R0 H1 H2 R2 N2
  go_wp2
  obtain ⟨B, hB⟩ : ∃ B, B = w4.heap.size := ⟨_, rfl⟩
  rw [← hB] at HP0
  clear hB
  go_loopw [8, 17] (fun lv i wr => ∃ (k : Nat) (S : Sh) (D : Sx), k ≤ L.length ∧ i = .int .i64 k ∧ Hid (S = (V.ring (pkL mx ff L k)).sh) ∧ Hid (PullAt w p r B S D A0 c0 L lv (pk mx ff (L.take k)).1 wr)) (fun _ i _ => L.length - (intOf i).toNat)
  case atStart => exact ⟨0, S, D2, Nat.zero_le _, rfl, HS0', HP0⟩
  case round =>
    clear HP0 HS0'
    obtain ⟨k, S, D, hk, rfl, HS, HP⟩ := hrel
    by_cases hlt : k < L.length
    · obtain ⟨b, o, rfl, hbl, c0', c1', c2', c3', c4', c5', c6'⟩ := HP.out.l0.at_ hlt
      have HTL := Lib.hid (show (pk mx ff (L.take k)).1.length ≤ 12 by
        have h1 := (pk_sub mx ff (L.take k)).2.1.length_le
        have h2 := HLN.out
        simp at h1; omega)
      obtain ⟨A5, cc5, rfl⟩ := own_form HP.out.own
      have HPN' := Lib.hid (HPN.out k hlt)
      have HPY' := Lib.hid (HPY.out k hlt)
      have HLN' := Lib.hid (HLN2.out k hlt)
      have HRM' := Lib.hid (HRM.out k hlt)
      have HTX := Lib.hid (fun W (h : CapAt b1 b2 ep lim W) => HT.out L[k] W h)
      clear HPN HPY HLN2 HRM HT
      generalize (pk mx ff (L.take k)).1 = T at *
      generalize L[k] = X at *
      have HPA := Lib.hid (HP.out.below ((Below.refl _ _).alloc (Nat.le_refl _) (.cells #[.int .i64 X.id, .int .i64 X.rt, .int .i64 X.ep, .int .i64 X.ct, .int .i64 X.gn, .int .i64 X.st, .string X.bd] 44)))
      have HMX := Lib.hid (MBx.start wr X 44)
      by_cases hmx : T.length < mx
      · have hmx' : (T.length : Int) < (mx : Int) := by omega
        cases hf : ff X with
        | false =>
          have HPK := Lib.hid (HPN'.out (fun h => by rw [hf] at h; exact absurd h.2 (by decide)))
          have HLK := Lib.hid (HLN'.out (fun h => by rw [hf] at h; exact absurd h.2 (by decide)))
          rw [hf] at HTX
          clear hf HPN' HPY' HLN' HRM'
          go_wp2_with fail
          refine (HTX.out _ (HCC.out.below HPA.out.sa.bel)).mono ?_
          rintro e w5 ⟨rfl, hb⟩
          have HP5 := Lib.hid (HPA.out.below hb)
          clear hb
          go_wp2
          go_roundw
          case rel => exact ⟨k + 1, S, D, by omega, by go_num, Lib.hid (by rw [HLK.out]; exact HS.out), by rw [HPK.out]; exact HP5⟩
          case measure => simp [intOf]; omega
        | true =>
          have HPK := Lib.hid (HPY'.out hmx hf)
          obtain ⟨S', hS'⟩ : ∃ S', S' = (V.ring (pkL mx ff L (k + 1))).sh := ⟨_, rfl⟩
          have HRK := Lib.hid (HRM'.out hmx hf S S' HS.out hS')
          have HSK := Lib.hid hS'
          have HRE := Lib.hid (fun D W (q : SAt w p S D W) => remove_any D.A S.cs.length D.c S.cs S.hd S.sz X.id W q.sr.ls)
          rw [hf] at HTX
          clear hf HPN' HPY' HLN' HRM' hS'
          generalize ifE (rmE S.cs S.hd S.sz X.id) S.hd = hd at *
          generalize ifE (rmE S.cs S.hd S.sz X.id) (S.sz - 1) = sz at *
          generalize rmC S.cs S.hd S.sz X.id = cs at *
          generalize rmM S.cs S.hd S.sz X.id = rM at *
          generalize rmE S.cs S.hd S.sz X.id = rE at *
          go_wp2_with fail
          refine (HTX.out _ (HCC.out.below HPA.out.sa.bel)).mono ?_
          rintro e w5 ⟨rfl, hb⟩
          have HP5 := Lib.hid (HPA.out.below hb)
          have HM5 := Lib.hid (HMX.out.up hb)
          clear hb
          obtain ⟨⟨t0, t1, t2, t3, t4, t5, t6, t7, tl⟩, ⟨f0, f1, f2, f3, f4, f5, f6, f7⟩⟩ := HP5.out.sa.s8.all
          obtain ⟨v0, v1, v2, v3, v4, v5, v6⟩ := HM5.out.m7
          have vl := HM5.out.lt
          go_wp2_with fail
          clear t0 t1 t2 t3 t4 t5 t6 t7 tl f0 f1 f2 f3 f4 f5 f6 f7 v0 v1 v2 v3 v4 v5 v6 vl
          refine (HRE.out _ _ HP5.out.sa).mono ?_
          rintro e w6 ⟨A6, c6, rfl, hn6, hl6, hb⟩
          have HP6 := Lib.hid (HP5.out.below hb)
          have HM6 := Lib.hid (HM5.out.up hb)
          have HP7 := Lib.hid (show PullAt w p r B S' ⟨A6, c6, D.A2, D.c2, D.A3, D.c3⟩ (some ⟨b, o, none⟩) c0 L (.slice A5 T.length cc5) T (((w6.setCell ⟨p, 3, none⟩ (.slice A6 cs.length c6)).setCell ⟨p, 4, none⟩ (.int .i64 hd)).setCell ⟨p, 5, none⟩ (.int .i64 sz)) from by
            rw [HRK.out]
            exact HP6.out.setRing hd sz hl6 hn6 HP5.out.ne.2.2 (fun q e => (HP5.out.own.lt q e).2))
          have HP8 := Lib.hid (HP7.out.below ((Below.refl _ _).alloc (Nat.le_refl _) (.cells #[.int .i64 X.id, .int .i64 X.rt, .int .i64 X.ep, .int .i64 X.ct, .int .i64 X.gn, .int .i64 X.st, .string X.bd] 44)))
          have HCX := Lib.hid (msg_row (((w6.setCell ⟨p, 3, none⟩ (.slice A6 cs.length c6)).setCell ⟨p, 4, none⟩ (.int .i64 hd)).setCell ⟨p, 5, none⟩ (.int .i64 sz)) X 44)
          have HYP := Lib.hid (show ¬ wr.heap.size = p ∧ ¬ p = wr.heap.size by have h1 := HP.out.ne; omega)
          clear hn6 hl6 hb
          obtain ⟨⟨t0, t1, t2, t3, t4, t5, t6, t7, tl⟩, ⟨f0, f1, f2, f3, f4, f5, f6, f7⟩⟩ := HP6.out.sa.s8.all
          obtain ⟨v0, v1, v2, v3, v4, v5, v6⟩ := HM6.out.m7
          have vl := HM6.out.lt
          obtain ⟨hyp, hpy⟩ := HYP.out
          go_wp2_with (at_builtin; refine wpList_append_lies _ rfl (.tmp 40) (.tmp 42) 25 rfl B 44 i0 _ 7 64 Tryz.underlying25 HI.out HZ.out.1 HZ.out.2.1 HZ.out.2.2 rfl (by omega) (.slice A5 T.length cc5) T.length (lcs T) rfl HP8.out.own ⟨w6.heap.size, 0, none⟩ 1 1 X.l rfl (by simp [Msg.l_len]) (fun j u hu => by have := HCX.out j u hu; simpa using this) X.l_one (by omega) (by have := HTL.out; unfold maxLen; omega) (by have := HTL.out; omega) HP8.out.ne.2.2 _ rfl ?_; intro g cap w8 hown hgrow hat hglt)
          have HP9 := Lib.hid (HP8.out.app (own_end hown) hgrow (fun q e => by
            rcases hat with h | h
            · left; rw [h]; simpa [Value.ownBlock] using e
            · right; simp only [Value.ownBlock] at e; injection e with e; rw [← e, h]; exact Nat.le_refl _))
          clear hown hgrow hat hglt t0 t1 t2 t3 t4 t5 t6 t7 tl f0 f1 f2 f3 f4 f5 f6 f7 v0 v1 v2 v3 v4 v5 v6 vl
          go_wp2
          go_roundw
          case rel => exact ⟨k + 1, S', ⟨A6, c6, D.A2, D.c2, D.A3, D.c3⟩, by omega, by go_num, HSK, by rw [HPK.out]; exact HP9⟩
          case measure => simp [intOf]; omega
      · have hmx' : ¬ (T.length : Int) < (mx : Int) := by omega
        have HPK := Lib.hid (HPN'.out (fun h => hmx h.1))
        have HLK := Lib.hid (HLN'.out (fun h => hmx h.1))
        clear hmx HPN' HPY' HLN' HRM'
        go_wp2
        go_roundw
        case rel => exact ⟨k + 1, S, D, by omega, by go_num, Lib.hid (by rw [HLK.out]; exact HS.out), by rw [HPK.out]; exact HPA⟩
        case measure => simp [intOf]; omega
    · obtain rfl : k = L.length := by omega
      obtain ⟨A5, cc5, rfl⟩ := own_form HP.out.own
      have HF := Lib.hid (show SLs w (V.ring (pk mx ff L).2).sh (pk mx ff L).1 (.returned (.tuple #[sv S D, .slice A5 (pk mx ff (L.take L.length)).1.length cc5])) (set8s wr r S D) from by
        have e : (pk mx ff (L.take L.length)).1 = (pk mx ff L).1 := by rw [List.take_length]
        rw [← HPL.out, ← HS.out, ← e]
        exact z_out HP.out)
      obtain ⟨⟨t0, t1, t2, t3, t4, t5, t6, t7, tl⟩, ⟨f0, f1, f2, f3, f4, f5, f6, f7⟩⟩ := HP.out.sa.s8.all
      obtain ⟨⟨r0, r1, r2, r3, r4, r5, r6, r7, rl⟩, ⟨g0, g1, g2, g3, g4, g5, g6, g7⟩⟩ := HP.out.rs.all
      obtain ⟨hpr, hrp, -, -⟩ := HPR.out
      go_wp2
      exact bodyPost_ret (v := .tuple #[sv S D, .slice A5 (pk mx ff (L.take L.length)).1.length cc5]) (by simp only [results, Tryz.results62]; go_simp <;> rfl) rfl HF.out
end Go.Proofs.YtnldgfhkdllinaaGreat
