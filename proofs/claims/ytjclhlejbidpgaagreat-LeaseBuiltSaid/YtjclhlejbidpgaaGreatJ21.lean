/- What is proved here: slices.DeleteFunc of numbers with lease.Lapsed's function value, lease.Lapsed by contracts; lease.Find by a contract; Bnl. -/
import Derived.Test.YtjclhlejbidpgaaGreatJ20
import Derived.Test.YtjclhlejbidpgaaGreatJ05
import Derived.Test.YtjclhlejbidpgaaGreatJ11
import Derived.Test.YtjclhlejbidpgaaGreatJ12
import Derived.Test.YtjclhlejbidpgaaGreatJ13
import Derived.Test.YtjclhlejbidpgaaGreatJ02
namespace Go.Proofs.YtjclhlejbidpgaaGreat
open Go.RowKit
set_option linter.unusedVariables false

theorem li_under : Tryz.prog.underlying 30 = some (.slice (Tryz.prog.elem 30)) := by kernel_rfl
theorem li_elem : Tryz.prog.elem 30 = 3 := by kernel_rfl
theorem run_iupto (A : Option Addr) (n c : Nat) (kh : IntKind) (j : Nat) (hj : j ≤ c) : ∀ W, (Instr.slice 30 (.slice A n c) none (some (.int kh (j : Int))) none).run Tryz.prog W = .ok (.slice A j c) W := fun W => by
  rw [run_slice_h W _ _ _ _ li_under kh _ (by omega) (by omega), li_elem, Tryz.sizeOf3]
  cases A <;> simp [Result.andThen, sliced, Addr.add]
theorem run_icut (A : Option Addr) (n c : Nat) (kl : IntKind) (k : Nat) (hk : k ≤ n) : ∃ A', A' = (if c = k then A else A.map (·.add (k * 1))) ∧ ∀ W, (Instr.slice 30 (.slice A n c) (some (.int kl (k : Int))) none none).run Tryz.prog W = .ok (.slice A' (n - k) (c - k)) W := by
  refine ⟨_, rfl, fun W => ?_⟩
  rw [run_slice_l W _ _ _ _ li_under kl _ (by omega) (by omega), li_elem, Tryz.sizeOf3]
  simp [Result.andThen, sliced]
theorem own_upL {W W' : World} {base n size : Nat} {e : TypeId} {v : Value} {xs : List Value} (h : W.ownsRow base e size v n xs) (hb : Below W.heap.size W W') : W'.ownsRow base e size v n xs := by
  refine ⟨h.1, ?_⟩
  rcases h.2 with hn | ⟨g, cap, cur, hv, hbg, hg, rest⟩
  · exact .inl hn
  · exact .inr ⟨g, cap, cur, hv, hbg, (hb.block g (Array.getElem?_eq_some_iff.1 hg).1).trans hg, rest⟩
/-- The first i numbers of a row behind clearing the rest. -/
theorem clear_nr {W : World} {base g n cap i : Nat} {ys : List Int} (h : W.ownsRow base 3 1 (.slice (some ⟨g, 0, none⟩) n cap) n (ys.map i64v)) (hi : i ≤ n) {zs : List Int} (hz : ys.take i = zs) (hl : i = zs.length) (vs : List Value) :
    Nr (W.setCells g i vs) (W.setCells g i vs).heap.size (.slice (some ⟨g, 0, none⟩) i cap) zs := by
  have hlen : n = ys.length := by have := h.1; rw [List.length_map] at this; omega
  have hc : n ≤ cap ∧ cap ≤ maxLen := by
    rcases h.2 with ⟨e, _⟩ | ⟨g', cap', cur, e, _, _, hl, hm, _⟩
    · cases e
    · injection e with _ _ e3
      subst e3
      exact ⟨hl, hm⟩
  subst hl
  refine ⟨_, _, rfl, by omega, hc.2, by rw [List.length_map, Nat.mul_one], fun _ => ⟨g, 0, rfl, by rw [sets_size]; exact (h.lt g rfl).2, fun j u hu => ?_⟩⟩
  have hj : j < zs.length := by have := (List.getElem?_eq_some_iff.1 hu).1; rw [List.length_map] at this; exact this
  rw [Nat.zero_add, World.cell?_setCells_out g vs zs.length W ⟨g, j, none⟩ (fun _ _ => Or.inl hj), nr_own h (show j < ys.length by omega), ← hu, List.getElem?_map, List.getElem?_eq_getElem hj]
  have : zs[j] = ys[j]'(by omega) := by
    have := congrArg (fun t => t[j]?) hz
    simp only [List.getElem?_take_of_lt hj, List.getElem?_eq_getElem hj, List.getElem?_eq_getElem (show j < ys.length by omega), Option.some.injEq] at this
    exact this.symm
  rw [this]
  rfl

/-- What is left of a list. -/
def NrB (W0 : World) (zs : List Int) (e : Ending) (w' : World) : Prop := ∃ A c, e = .returned (.slice A zs.length c) ∧ Nr w' w'.heap.size (.slice A zs.length c) zs ∧ Below W0.heap.size W0 w'
set_option maxHeartbeats 8000000 in
set_option maxRecDepth 20000 in
theorem delint_any (p q : Nat) (A : Option Addr) (c : Nat) (l : List Le) (A2 : Option Addr) (c2 : Nat) (h : List Du) (ep : Int) (w W0 W : World) (k : LpW w p q A c l A2 c2 h ep W0) (t : TbOk l h) (hb0 : Below W0.heap.size W0 W) (v : Value) (zs : List Int) (ho : W.ownsRow W0.heap.size 3 1 v zs.length (zs.map i64v)) (hf : ∀ x ∈ zs, 0 ≤ kFi Le.id l x) (h100 : zs.length ≤ 1000) :
    Calls Tryz.prog 38 #[v, .func (.func 40) #[] #[.pointer (some ⟨p, 0, none⟩), .pointer (some ⟨q, 0, none⟩)]] W (NrB W0 (kpI (pgF l h ep) zs)) := by
  obtain ⟨B, d, rfl⟩ := own_form ho
  have HK := Lib.hid k
  have HO := Lib.hid ho
  have HF := Lib.hid hf
  have HB := Lib.hid hb0
  have HL := Lib.hid (fun id hf W (k : LpW w p q A c l A2 c2 h ep W) => lapsed1_any p q A c l A2 c2 h ep id w W k t hf)
  have HIX := Lib.hid (ixint_any p q A c l A2 c2 h ep w W (k.below hb0) t B zs.length d zs (Nr.of_own ho) hf h100)
  clear k ho hf hb0 t
  generalize pgF l h ep = P at *
  rcases fxI_cases P zs with ⟨e, hn⟩ | ⟨i0, hi0, e, h1, hn⟩
  · rw [e] at HIX
    have HKA := Lib.hid (kpI_all hn)
    have HR := Lib.hid (fun W' (hb : Below W.heap.size W W') => show NrB W0 (kpI P zs) (.returned (.slice B zs.length d)) W' from by
      rw [HKA.out]; exact ⟨_, _, rfl, (Nr.of_own HO.out).up hb, HB.out.trans (hb.mono HB.out.size)⟩)
    clear e hn HKA
    go_enter Tryz.func38, Tryz.ntmps38
    go_wp2_with fail
    refine HIX.out.mono ?_
    rintro e w1 ⟨rfl, hb1⟩
    have HF1 := Lib.hid (HR.out _ hb1)
    clear hb1
    go_wp2
    go_ret
    exact HF1.out
  · rw [e] at HIX
    obtain ⟨g, rfl⟩ : ∃ g, B = some ⟨g, 0, none⟩ := by
      rcases HO.out.2 with ⟨_, e0⟩ | ⟨g, cap, cur, hv, _⟩
      · omega
      · injection hv with e1 _ e3
        exact ⟨g, e1⟩
    have hdl := (Nr.of_own HO.out).len
    have hdm : d ≤ 9223372036854775807 := by have := hdl.2.2; unfold maxLen at this; omega
    have hld : zs.length ≤ d := hdl.2.1
    have HI0 := Lib.hid (DfI.start hi0 h1 hn)
    obtain ⟨n, hn0⟩ : ∃ n, n = zs.length := ⟨_, rfl⟩
    have HN := Lib.hid hn0
    rw [← hn0] at HIX hld h100 ⊢
    have HO := Lib.hid (show W.ownsRow W0.heap.size 3 1 (.slice (some ⟨g, 0, none⟩) n d) n (zs.map i64v) by rw [hn0]; exact HO.out)
    have hi0n : i0 < n := by omega
    have hi1 : ((i0 : Int) == -1) = false := by simp
    clear e h1 hn hdl hn0 hi0
    go_enter Tryz.func38, Tryz.ntmps38
    go_wp2_with fail
    refine HIX.out.mono ?_
    rintro e w1 ⟨rfl, hb1⟩
    have HO1 := Lib.hid (own_upL HO.out hb1)
    have HB1 := Lib.hid (HB.out.trans (hb1.mono HB.out.size))
    clear hb1
    go_wp2
    go_loopw [5, 6] (fun s5 s6 wr => ∃ (i j : Nat) (ys : List Int), s5 = .int .i64 i ∧ s6 = .int .i64 j ∧ i < j ∧ j ≤ n ∧ Hid (DfI P zs i j ys) ∧ Hid (wr.ownsRow W0.heap.size 3 1 (.slice (some ⟨g, 0, none⟩) n d) n (ys.map i64v)) ∧ Hid (Below W0.heap.size W0 wr)) (fun _ s6 _ => n - (intOf s6).toNat)
    case atStart => exact ⟨i0, i0 + 1, zs, rfl, by go_num, by omega, by omega, HI0, HO1, HB1⟩
    case round =>
      clear HI0 HO1 HB1
      obtain ⟨i, j, ys, rfl, rfl, hij, hjn, HI, HOJ, HBJ⟩ := hrel
      by_cases hlt : j < n
      · have hjz : j < zs.length := by rw [← HN.out]; exact hlt
        have hjy : j < ys.length := by rw [HI.out.len]; exact hjz
        have c0 := nr_own HOJ.out hjy
        rw [HI.out.at_ hjz] at c0
        obtain ⟨x, hx⟩ : ∃ x, zs[j] = x := ⟨_, rfl⟩
        have HM := Lib.hid (HF.out _ (List.getElem_mem hjz))
        rw [hx] at c0 HM
        have HX := Lib.hid hx
        have HC := Lib.hid (HL.out x HM.out _ (HK.out.below HBJ.out))
        clear hx HM hjy
        cases hp : P x with
        | true =>
          have HI2 := Lib.hid (HI.out.skip hjz (by rw [HX.out]; exact hp))
          rw [hp] at HC
          clear hp HX hjz
          go_wp2_with fail
          refine HC.out.mono ?_
          rintro e w2 ⟨rfl, hb2⟩
          have HO2 := Lib.hid (own_upL HOJ.out hb2)
          have HB2 := Lib.hid (HBJ.out.trans (hb2.mono HBJ.out.size))
          clear hb2 c0
          go_wp2
          go_roundw
          case rel => exact ⟨i, j + 1, ys, rfl, by go_num, by omega, by omega, HI2, HO2, HB2⟩
          case measure => simp [intOf]; omega
        | false =>
          have HI2 := Lib.hid (HI.out.keep hjz (by rw [HX.out]; exact hp))
          rw [HX.out] at HI2
          rw [hp] at HC
          have hin : (i : Int) < (n : Int) := by omega
          have hiy : i < ys.length := by rw [HI.out.len]; omega
          clear hp HX hjz
          go_wp2_with fail
          refine HC.out.mono ?_
          rintro e w2 ⟨rfl, hb2⟩
          have HO2 := Lib.hid (own_upL HOJ.out hb2)
          have HB2 := Lib.hid (HBJ.out.trans (hb2.mono HBJ.out.size))
          have d0 := nr_own HO2.out hiy
          have f0 := HO2.out.frozenAt i
          have HO3 := Lib.hid (show (w2.setCell ⟨g, i, none⟩ (.int .i64 x)).ownsRow W0.heap.size 3 1 (.slice (some ⟨g, 0, none⟩) n d) n ((ys.set i x).map i64v) by
            have := (HO2.out.stored i (.int .i64 x)).1
            rw [List.map_set]
            exact this)
          have HB3 := Lib.hid (HB2.out.setCell (p := ⟨g, i, none⟩) (HO2.out.lt g rfl).1 (.int .i64 x))
          clear hb2 c0
          go_wp2
          go_roundw
          case rel => exact ⟨i + 1, j + 1, ys.set i x, by go_num, by go_num, by omega, by omega, HI2, HO3, HB3⟩
          case measure => simp [intOf]; omega
      · obtain ⟨hk, hil, hiz⟩ := HI.out.done (show ¬ j < zs.length by rw [← HN.out]; exact hlt)
        have hin : i < n := by omega
        obtain ⟨Kp, hKp⟩ : ∃ Kp, Kp = kpI P zs := ⟨_, rfl⟩
        have hcut : ∀ W, (Instr.slice 30 (.slice (some ⟨g, 0, none⟩) n d) (some (.int .i64 (i : Int))) none none).run Tryz.prog W = .ok (.slice (some ⟨g, i, none⟩) (n - i) (d - i)) W := fun W => by
          obtain ⟨A', hA', h⟩ := run_icut (some ⟨g, 0, none⟩) n d .i64 i (by omega)
          rw [hA', if_neg (by omega), Option.map_some, add_mk, Nat.zero_add, Nat.mul_one] at h
          exact h W
        have hcut2 := run_iupto (some ⟨g, 0, none⟩) n d .i64 i (by omega)
        have hclr : ∀ ty, (Builtin.clear_ #[30] ty #[.slice (some ⟨g, i, none⟩) (n - i) (d - i)]).run Tryz.prog wr = .ok (.tuple #[]) (wr.setCells g i (List.replicate (n - i) (.int .i64 0))) := fun ty =>
          Lib.run_clear_slice wr 30 3 ty (.int .i64 0) Tryz.underlying30 (fun w => by rw [Tryz.zeroValue3]) rfl rfl g i (n - i) (d - i) (Nat.sub_pos_of_lt hin) (fun m hm => by rw [nr_own HOJ.out (j := i + m) (by rw [HI.out.len, ← HN.out]; omega)]; rfl) (fun m hm => HOJ.out.frozenAt _)
        have HFI := Lib.hid (show NrB W0 (kpI P zs) (.returned (.slice (some ⟨g, 0, none⟩) i d)) (wr.setCells g i (List.replicate (n - i) (.int .i64 0))) from by
          have h1 := clear_nr HOJ.out (by omega : i ≤ n) hk hil (List.replicate (n - i) (.int .i64 0))
          refine ⟨some ⟨g, 0, none⟩, d, ?_, ?_, sets_below (HOJ.out.lt g rfl).1 _ _ _ HBJ.out⟩
          · rw [← hil]
          · rw [← hil]; exact h1)
        generalize wr.setCells g i (List.replicate (n - i) (.int .i64 0)) = w5 at *
        clear hk hil hiz hKp
        go_wp2
        go_ret
        exact HFI.out

theorem laV_kp {l : List Le} {h : List Du} (t : TbOk l h) (now ep : Int) : laV l h now ep = kpI (pgF l h ep) (unR h now) := by
  rw [t.lav]
  unfold laF kpI unR
  rw [if_pos t.va]
  rfl
theorem un_in {l : List Le} {h : List Du} (t : TbOk l h) (now : Int) : (∀ x ∈ unR h now, 0 ≤ kFi Le.id l x) ∧ (unR h now).length ≤ 12 := by
  unfold unR
  rw [if_pos t.va]
  have hh := (vaF_zero t.va).2.2.2
  refine ⟨fun x hx => ?_, ?_⟩
  · obtain ⟨d, hd, -, e⟩ := (unF_mem hh now x).1 hx
    rw [← kFi_du]
    exact kFi_ge.2 ⟨d, t.perm.mem_iff.1 hd, e⟩
  · rw [unF_len hh]
    exact Nat.le_trans (List.length_filter_le _ _) (by rw [t.hlen]; exact t.len)
theorem LpW.start {w : World} {A A2 : Option Addr} {c c2 : Nat} {l : List Le} {h : List Du} (hv : El w w.heap.size (.slice A l.length c) l) (hd : Dl w w.heap.size (.slice A2 h.length c2) h) (ep : Int) : LpW w w.heap.size (w.heap.size + 1) A c l A2 c2 h ep ((w.alloc (.cells #[.slice A l.length c, .slice A2 h.length c2] 25)).alloc (.cells #[.int .i64 ep] 3)) :=
  ⟨(VaA.start 25 hv hd).alloc _, by simp [go_sem], by simp⟩
set_option maxHeartbeats 4000000 in
set_option maxRecDepth 20000 in
theorem llapsed_any (A : Option Addr) (n c : Nat) (l : List Le) (A2 : Option Addr) (n2 c2 : Nat) (h : List Du) (now ep : Int) (w : World) (hv : El w w.heap.size (.slice A n c) l) (hd : Dl w w.heap.size (.slice A2 n2 c2) h) :
    Calls Tryz.prog 17 #[tv A n c A2 n2 c2, .int .i64 now, .int .i64 ep] w (NrB w (laV l h now ep)) := by
  obtain ⟨rfl, hm1, hm2⟩ := hv.len
  obtain ⟨rfl, hm3, hm4⟩ := hd.len
  have H0 := Lib.hid (LpW.start hv hd ep)
  have HV := Lib.hid (fun p W (k : VaA w p A c l A2 c2 h W) => lvalid_any A l.length c l A2 h.length c2 h W k.el k.dl)
  have HU := Lib.hid (fun p W (k : VaA w p A c l A2 c2 h W) => duntil_own A2 h.length c2 h now W k.dl)
  clear hv hd hm1 hm2 hm3 hm4
  have hmf : ∀ (fn : Fn) (first cap : Array Value) (w : World), (Instr.makeFunc fn first cap).run Tryz.prog w = .ok (.func fn first cap) w := fun _ _ _ _ => rfl
  by_cases h0 : tbV l h = 0
  · have t := (tbV_iff l h).1 h0
    have HD := Lib.hid (fun p q W0 W v (k : LpW w p q A c l A2 c2 h ep W0) hb ho => delint_any p q A c l A2 c2 h ep w W0 W k t hb v (unR h now) ho (un_in t now).1 (by have := (un_in t now).2; omega))
    rw [h0] at HV
    rw [laV_kp t]
    generalize kpI (pgF l h ep) (unR h now) = K at *
    generalize unR h now = U at *
    clear h0 t
    go_enter Tryz.func17, Tryz.ntmps17
    obtain ⟨t0, t1, tl⟩ := H0.out.va.tb
    go_wp2_with fail
    obtain ⟨p, hp⟩ : ∃ p, p = w.heap.size := ⟨_, rfl⟩
    obtain ⟨q, hq⟩ : ∃ q, q = w.heap.size + 1 := ⟨_, rfl⟩
    rw [← hq, ← hp] at H0 ⊢
    clear t0 t1 tl hp hq
    generalize ((w.alloc (.cells #[.slice A l.length c, .slice A2 h.length c2] 25)).alloc (.cells #[.int .i64 ep] 3)) = w1 at *
    refine (HV.out _ _ H0.out.va).mono ?_
    rintro e w2 ⟨rfl, hb⟩
    have H1 := Lib.hid (H0.out.below hb)
    obtain ⟨t0, t1, tl⟩ := H1.out.va.tb
    clear hb
    go_wp2_with fail
    clear t0 t1 tl
    refine (HU.out _ _ H1.out.va).mono ?_
    rintro e w3 ⟨v, rfl, ho, hb⟩
    have HC := Lib.hid (HD.out _ _ _ _ _ H1.out hb ho)
    clear hb ho
    go_wp2_with fail
    refine HC.out.mono ?_
    rintro e w4 ⟨A4, c4, rfl, hn, hb⟩
    have HF := Lib.hid (show NrB w K (.returned (.slice A4 K.length c4)) w4 from ⟨A4, c4, rfl, hn, H1.out.va.bel.trans (hb.mono H1.out.va.bel.size)⟩)
    clear hn hb
    go_wp2
    go_ret
    exact HF.out
  · have HL := Lib.hid (show laV l h now ep = [] from if_neg h0)
    have hne : (tbV l h != 0) = true := bne_iff_ne.2 h0
    rw [HL.out]
    generalize tbV l h = x at *
    clear h0 HL
    go_enter Tryz.func17, Tryz.ntmps17
    obtain ⟨t0, t1, tl⟩ := H0.out.va.tb
    go_wp2_with fail
    obtain ⟨p, hp⟩ : ∃ p, p = w.heap.size := ⟨_, rfl⟩
    obtain ⟨q, hq⟩ : ∃ q, q = w.heap.size + 1 := ⟨_, rfl⟩
    rw [← hq, ← hp] at H0 ⊢
    clear t0 t1 tl hp hq
    generalize ((w.alloc (.cells #[.slice A l.length c, .slice A2 h.length c2] 25)).alloc (.cells #[.int .i64 ep] 3)) = w1 at *
    refine (HV.out _ _ H0.out.va).mono ?_
    rintro e w2 ⟨rfl, hb⟩
    have HB1 := Lib.hid (H0.out.below hb).va.bel
    clear hb
    go_wp2
    go_ret
    exact ⟨none, 0, rfl, Nr.nil, HB1.out⟩
end Go.Proofs.YtjclhlejbidpgaaGreat
namespace Go.Proofs.YtjclhlejbidpgaaGreat
open Go.RowKit
set_option linter.unusedVariables false

theorem fn_has {l : List Le} {h : List Du} {id : Int} (t : TbOk l h) (e : kHas Le.id l id = true) : ∃ hk : kAt Le.id l id < l.length, fnO l h id = true ∧ fnX l h id = l[kAt Le.id l id] := by
  obtain ⟨e1, e2⟩ := kAt_fi t.asc (kHas_iff.1 e)
  exact ⟨e2, fn_yes ((tbV_iff l h).2 t) e2 e1⟩
set_option maxHeartbeats 8000000 in
set_option maxRecDepth 20000 in
theorem lfind_any (A : Option Addr) (n c : Nat) (l : List Le) (A2 : Option Addr) (n2 c2 : Nat) (h : List Du) (id : Int) (w : World) (hv : El w w.heap.size (.slice A n c) l) (hd : Dl w w.heap.size (.slice A2 n2 c2) h) :
    Calls Tryz.prog 19 #[tv A n c A2 n2 c2, .int .i64 id] w fun e w' => e = .returned (.tuple #[(fnX l h id).v, .bool (fnO l h id)]) ∧ Below w.heap.size w w' := by
  obtain ⟨rfl, hm1, hm2⟩ := hv.len
  obtain ⟨rfl, hm3, hm4⟩ := hd.len
  have H0 := Lib.hid ((VaA.start 25 hv hd).alloc (.cells #[.int .i64 0, .int .i64 0, .int .i64 0, .int .i64 0, .int .i64 0, .int .i64 0, .string ⟨#[]⟩, .int .i64 0] 39))
  have HR0 := Lib.hid (RL.start (w.alloc (.cells #[.slice A l.length c, .slice A2 h.length c2] 25)) zL 39)
  clear hv hd hm1 hm2 hm3 hm4
  obtain ⟨O, hO⟩ : ∃ O, O = fnO l h id := ⟨_, rfl⟩
  obtain ⟨X, hX⟩ : ∃ X, X = fnX l h id := ⟨_, rfl⟩
  obtain ⟨z, hz⟩ : ∃ z, z = tbV l h := ⟨_, rfl⟩
  have HV := Lib.hid (fun p W (k : VaA w p A c l A2 c2 h W) => lvalid_any A l.length c l A2 h.length c2 h W k.el k.dl)
  rw [← hz] at HV
  rw [← hO, ← hX]
  have HO := Lib.hid hO
  have HX := Lib.hid hX
  have HZ := Lib.hid hz
  clear hO hX hz
  go_enter Tryz.func19, Tryz.ntmps19
  obtain ⟨t0, t1, tl⟩ := H0.out.tb
  go_wp2_with fail
  clear t0 t1 tl
  obtain ⟨p, hp⟩ : ∃ p, p = w.heap.size := ⟨_, rfl⟩
  obtain ⟨r, hr⟩ : ∃ r, r = w.heap.size + 1 := ⟨_, rfl⟩
  have HPR := Lib.hid (show ¬ p = r ∧ w.heap.size ≤ r by omega)
  have e1 : (w.alloc (.cells #[.slice A l.length c, .slice A2 h.length c2] 25)).heap.size = r := by rw [hr]; simp
  rw [e1] at HR0
  have HS := Lib.hid (show VaA w p A c l A2 c2 h ((w.alloc (.cells #[.slice A l.length c, .slice A2 h.length c2] 25)).alloc (.cells #[.int .i64 0, .int .i64 0, .int .i64 0, .int .i64 0, .int .i64 0, .int .i64 0, .string ⟨#[]⟩, .int .i64 0] 39)) ∧ RL ((w.alloc (.cells #[.slice A l.length c, .slice A2 h.length c2] 25)).alloc (.cells #[.int .i64 0, .int .i64 0, .int .i64 0, .int .i64 0, .int .i64 0, .int .i64 0, .string ⟨#[]⟩, .int .i64 0] 39)) r zL from ⟨by rw [hp]; exact H0.out, HR0.out⟩)
  rw [← hr, ← hp]
  clear e1 H0 HR0 hp hr
  generalize ((w.alloc (.cells #[.slice A l.length c, .slice A2 h.length c2] 25)).alloc (.cells #[.int .i64 0, .int .i64 0, .int .i64 0, .int .i64 0, .int .i64 0, .int .i64 0, .string ⟨#[]⟩, .int .i64 0] 39)) = w2 at *
  have hpr : ¬ p = r := HPR.out.1
  have hrp : ¬ r = p := fun e => HPR.out.1 e.symm
  by_cases hz0 : z = 0
  · rw [hz0] at HV
    have HT := Lib.hid ((tbV_iff l h).1 (HZ.out.symm.trans hz0))
    have HP := Lib.hid (fun p W (k : VaA w p A c l A2 c2 h W) => place_any A l.length c l id W k.el HT.out.asc (by have := HT.out.len; omega))
    have HFH := Lib.hid (fun e => fn_has (id := id) HT.out e)
    have HFN := Lib.hid (fun e => fn_no (l := l) (h := h) (id := id) e)
    have HKN := Lib.hid (fun e => (kHas_not (key := Le.id) (l := l) (x := id)).1 e)
    unfold PlR at HP
    obtain ⟨i, hi⟩ : ∃ i, i = kAt Le.id l id := ⟨_, rfl⟩
    rw [← hi] at HP
    have HI := Lib.hid hi
    clear hz0 hi
    refine (HV.out _ _ HS.out.1).mono ?_
    rintro e w3 ⟨rfl, hb⟩
    have HS3 := Lib.hid (show VaA w p A c l A2 c2 h w3 ∧ RL w3 r zL from ⟨HS.out.1.below hb, HS.out.2.below hb HS.out.2.lt⟩)
    clear hb
    obtain ⟨t0, t1, tl⟩ := HS3.out.1.tb
    go_wp2_with fail
    clear t0 t1 tl
    cases ho : kHas Le.id l id with
    | false =>
      rw [ho] at HP
      have HXO := Lib.hid (show X = zL ∧ O = false from ⟨HX.out.trans (HFN.out (fun hh => by have := HKN.out ho; omega)).2, HO.out.trans (HFN.out (fun hh => by have := HKN.out ho; omega)).1⟩)
      clear ho
      refine (HP.out _ _ HS3.out.1).mono ?_
      rintro e w4 ⟨rfl, hb⟩
      have HS4 := Lib.hid (show VaA w p A c l A2 c2 h w4 ∧ RL w4 r zL from ⟨HS3.out.1.below hb, HS3.out.2.below hb HS3.out.2.lt⟩)
      clear hb
      obtain ⟨r0, r1, r2, r3, r4, r5, r6, r7, g0, g1, g2, g3, g4, g5, g6, g7, rl⟩ := HS4.out.2
      go_wp2
      exact bodyPost_ret (v := .tuple #[.agg #[.int .i64 0, .int .i64 0, .int .i64 0, .int .i64 0, .int .i64 0, .int .i64 0, .string ⟨#[]⟩, .int .i64 0], .bool false]) (by simp only [results, Tryz.results19]; go_simp <;> rfl) rfl ⟨by rw [HXO.out.1, HXO.out.2]; rfl, sets_below HPR.out.2 zL.l 0 _ HS4.out.1.bel⟩
    | true =>
      rw [ho] at HP
      obtain ⟨hk, e1, e2⟩ := HFH.out ho
      have hki : i < l.length := by rw [HI.out]; exact hk
      have hki' : (i : Int) < (l.length : Int) := by omega
      obtain ⟨Y, hY⟩ : ∃ Y, l[i] = Y := ⟨_, rfl⟩
      have HXO := Lib.hid (show X = Y ∧ O = true from ⟨(HX.out.trans e2).trans (by rw [← hY]; simp only [HI.out]), HO.out.trans e1⟩)
      have HYK := Lib.hid hY
      clear ho e1 e2 hk hY
      refine (HP.out _ _ HS3.out.1).mono ?_
      rintro e w4 ⟨rfl, hb⟩
      have HS4 := Lib.hid (show VaA w p A c l A2 c2 h w4 ∧ RL w4 r zL from ⟨HS3.out.1.below hb, HS3.out.2.below hb HS3.out.2.lt⟩)
      clear hb
      obtain ⟨t0, t1, tl⟩ := HS4.out.1.tb
      obtain ⟨r0, r1, r2, r3, r4, r5, r6, r7, g0, g1, g2, g3, g4, g5, g6, g7, rl⟩ := HS4.out.2
      obtain ⟨b, o, rfl, hbl⟩ := HS4.out.1.el.some_ (by omega)
      obtain ⟨⟨c0, c1, c2', c3, c4, c5, c6, c7⟩, _⟩ := HS4.out.1.el.c8 hki
      rw [HYK.out] at c0 c1 c2' c3 c4 c5 c6 c7
      go_wp2
      exact bodyPost_ret (v := .tuple #[Y.v, .bool true]) (by simp only [results, Tryz.results19]; go_simp <;> rfl) rfl ⟨by rw [HXO.out.1, HXO.out.2], sets_below HPR.out.2 Y.l 0 _ HS4.out.1.bel⟩
  · have hz' : (z != 0) = true := by simpa using hz0
    have HXO := Lib.hid (show X = zL ∧ O = false from ⟨HX.out.trans (fn_no fun hh => by have := HZ.out; omega).2, HO.out.trans (fn_no fun hh => by have := HZ.out; omega).1⟩)
    clear hz0
    refine (HV.out _ _ HS.out.1).mono ?_
    rintro e w4 ⟨rfl, hb⟩
    have HS4 := Lib.hid (show VaA w p A c l A2 c2 h w4 ∧ RL w4 r zL from ⟨HS.out.1.below hb, HS.out.2.below hb HS.out.2.lt⟩)
    clear hb
    obtain ⟨r0, r1, r2, r3, r4, r5, r6, r7, g0, g1, g2, g3, g4, g5, g6, g7, rl⟩ := HS4.out.2
    go_wp2
    exact bodyPost_ret (v := .tuple #[.agg #[.int .i64 0, .int .i64 0, .int .i64 0, .int .i64 0, .int .i64 0, .int .i64 0, .string ⟨#[]⟩, .int .i64 0], .bool false]) (by simp only [results, Tryz.results19]; go_simp <;> rfl) rfl ⟨by rw [HXO.out.1, HXO.out.2]; rfl, sets_below HPR.out.2 zL.l 0 _ HS4.out.1.bel⟩
end Go.Proofs.YtjclhlejbidpgaaGreat
/- Plain: what an append onto nil, onto what a call owns leaves. -/
namespace Go.Proofs.YtjclhlejbidpgaaGreat
open Go.RowKit
set_option linter.unusedVariables false

/-- Behind an append onto nil. -/
theorem below_nil {W W' : World} {v : Value} (hg : W.grownBy W' v.ownBlock) (hv : v.ownBlock = none) : Below W.heap.size W W' := (Below.refl _ _).grown hg (Nat.le_refl _) (fun k hk => by rw [hv] at hk; cases hk)
theorem below_own {W0 W W' : World} {n size : Nat} {e : TypeId} {v : Value} {xs : List Value} (hb : Below W0.heap.size W0 W) (ho : W.ownsRow W0.heap.size e size v n xs) (hg : W.grownBy W' v.ownBlock) : Below W0.heap.size W0 W' := hb.grown hg hb.size (fun k hk => (ho.lt k hk).1)
end Go.Proofs.YtjclhlejbidpgaaGreat
