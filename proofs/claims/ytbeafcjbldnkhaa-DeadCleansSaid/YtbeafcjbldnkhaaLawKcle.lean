/- What is proved here: shardqueuelaw08.DeadCleans returns true for every input and leaves its arguments as they were. No condition. -/
import Derived.Test.YtbeafcjbldnkhaaJ17
import Derived.Test.YtbeafcjbldnkhaaJ18
import Derived.Test.YtbeafcjbldnkhaaJ15
import Derived.ProofKit
import Derived.OpenShut
import Derived.ShutString
import Derived.ChangeOld
namespace Go.Proofs.Ytbeafcjbldnkhaa
open Go.RowKit
set_option linter.unusedVariables false

/-- What is kept so far. -/
def kp8 (ew : Int) (l : List Msg) (k : Nat) : List Msg := (l.take k).filter (fun M => !puF M ew)
theorem kp8_yes {ew : Int} {l : List Msg} {k : Nat} (h : k < l.length) (he : ew ≤ l[k].ep) : kp8 ew l (k + 1) = kp8 ew l k ++ [l[k]] := by
  unfold kp8
  rw [filter_take8 h, if_pos (by simp [puF]; omega)]
theorem kp8_no {ew : Int} {l : List Msg} {k : Nat} (h : k < l.length) (he : ¬ ew ≤ l[k].ep) : kp8 ew l (k + 1) = kp8 ew l k := by
  unfold kp8
  rw [filter_take8 h, if_neg (by simp [puF]; omega), List.append_nil]
theorem and_3k (n : Int) : bits .and .i64 n 3 = n % 4 := and_ones n 2 3 (by omega) (by omega)
theorem clean8_good (cap : Int) (A : Option Addr) (c : Nat) (l : List Msg) (ep : Int) (w : World) (h : Ok8 cap l) (e0 : 0 ≤ ep) (e1 : ep ≤ 65536) (hv : Ls w w.heap.size (.slice A l.length c) l) :
    Calls Try.prog 23 #[.agg #[.int .i64 cap, .slice A l.length c], .int .i64 ep] w (D8N w cap (kp8 ep l l.length) ((l.length : Int) - (kp8 ep l l.length).length) 0) := by
  have hx : ex8 cap l ep = 0 := ex8_ok (ok8_iff.2 h) (wi_true e0 e1)
  have hk : kp8 ep l l.length = l.filter (fun M => !puF M ep) := by unfold kp8; rw [List.take_length]
  have := clean8_any cap A l.length c l ep w hv
  have hl := filter_len8 (fun M => puF M ep) l
  rw [hx, show cl8C cap l ep = cap from if_pos hx, show cl8R cap l ep = kp8 ep l l.length from (if_pos hx).trans hk.symm, show cl8N cap l ep = (l.length : Int) - (kp8 ep l l.length).length from (if_pos hx).trans (by rw [hk]; omega)] at this
  exact this
/-- The work of the loop: the store, what Clean gave, the list that is made. -/
structure Cs8 (w : World) (p q B : Nat) (cap : Int) (A : Option Addr) (c : Nat) (l : List Msg) (D : Option Addr) (d : Nat) (R : List Msg) (lv : Value) (T : List Msg) (W : World) : Prop where
  va : VaAt8 w p cap A c l W
  db : DB W q cap D R.length d
  rl : Ls W B (.slice D R.length d) R
  own : W.ownsRow B 37 7 lv T.length (lcs T)
  old : p < q ∧ q < B ∧ B ≤ W.heap.size
section
variable {w W W' : World} {p q B c d : Nat} {cap : Int} {A D : Option Addr} {l R T T' : List Msg} {lv lv' : Value}
theorem Cs8.below (h : Cs8 w p q B cap A c l D d R lv T W) (hb : Below W.heap.size W W') : Cs8 w p q B cap A c l D d R lv T W' :=
  ⟨h.va.below hb, h.db.up hb, h.rl.below (hb.mono h.old.2.2), own8_below h.own hb, h.old.1, h.old.2.1, Nat.le_trans h.old.2.2 hb.size⟩
theorem Cs8.app (h : Cs8 w p q B cap A c l D d R lv T W) (ho : W'.ownsRow B 37 7 lv' T'.length (lcs T')) (hg : W.grownBy W' lv.ownBlock) : Cs8 w p q B cap A c l D d R lv' T' W' := by
  have hold := h.old
  have hvo := h.va.old
  have hlt : ∀ x, lv.ownBlock = some x → B ≤ x := fun x e => (h.own.lt x e).1
  exact ⟨⟨h.va.db.grown hg (fun e => by have := hlt p e.symm; omega), h.va.ls.growno h.va.bel.size hg (fun x e => ob_ls h.va.ls (by have := hlt x e; omega)), h.va.bel.grown hg h.va.bel.size (fun x e => by have := hlt x e; omega), hvo⟩,
    h.db.grown hg (fun e => by have := hlt q e.symm; omega), h.rl.growno hold.2.2 hg (fun x e => ob_ls h.rl (hlt x e)), ho, hold.1, hold.2.1, Nat.le_trans hold.2.2 hg.size⟩
end
set_option maxHeartbeats 16000000 in
set_option maxRecDepth 20000 in
theorem DeadCleans_walk (w : World) (a0 : Option Addr) (l0 c0 : Nat) (zs : List Int) (hz : Ns w w.heap.size (.slice a0 l0 c0) zs) (ep : Int) (we : (Lit.int .i64 ep).wf = true) :
    Calls Try.prog 6 #[.slice a0 l0 c0, .int .i64 ep] w fun e w' => e = .returned (.bool true) ∧ Below w.heap.size w w' := by
  have HN := Lib.hid (new_src a0 l0 c0 zs w hz)
  have HAW := Lib.hid (fun W => awake8_any W)
  obtain ⟨i0, hi0, hz0⟩ := Option.map_eq_some_iff.1 info_m8
  simp only [Prod.mk.injEq] at hz0
  have HI := Lib.hid hi0
  have HZ := Lib.hid hz0
  have HE := Lib.hid (show 0 ≤ bits .and .i64 ep 3 ∧ bits .and .i64 ep 3 ≤ 65536 by rw [and_3k]; omega)
  clear hz we hi0 hz0
  go_enter Try.func6, Try.ntmps6
  go_wp2_with fail
  refine HN.out.mono ?_
  rintro e w1 ⟨g, rfl, hs, hb⟩
  have HW1 := Lib.hid hb
  have HS1 := Lib.hid hs
  clear hb hs HN
  go_wp2_with fail
  refine (dead_any w.heap.size g _ HS1.out).mono ?_
  rintro e w2 ⟨cap, A, c, l, rfl, hok, hn, hl, hs, hg⟩
  have HOK := Lib.hid hok
  have HL24 := Lib.hid (show l.length ≤ 24 by have := hok.len; have := hok.c2; omega)
  have HW2 := Lib.hid (below_only HW1.out hg HS1.out.1 (Nat.le_refl _))
  have HV2 := Lib.hid (VaAt8.start 24 cap hl)
  clear hok hn hl hs hg HS1 HW1
  obtain ⟨t0, t1, tl⟩ := HV2.out.db.facts
  go_wp2_with fail
  clear t0 t1 tl
  generalize bits BinOp.and IntKind.i64 ep 3 = ew at *
  obtain ⟨p, hp⟩ : ∃ p, p = w2.heap.size := ⟨_, rfl⟩
  rw [← hp] at HV2
  rw [← hp]
  clear hp
  generalize w2.alloc (.cells #[.int .i64 cap, .slice A l.length c] 24) = w3 at *
  have HFN := Lib.hid (show kp8 ew l 0 = [] from by simp [kp8])
  have HKL := Lib.hid (fun k => show (kp8 ew l k).length ≤ l.length from Nat.le_trans (List.length_filter_le _ _) (by simp; omega))
  have HKY := Lib.hid (fun k (h : k < l.length) he => kp8_yes (ew := ew) h he)
  have HKN := Lib.hid (fun k (h : k < l.length) he => kp8_no (ew := ew) h he)
  refine (clean8_good cap A c l ew w3 HOK.out HE.out.1 HE.out.2 HV2.out.here).mono ?_
  rintro e w4 ⟨D, d, rfl, hn, hl, hb⟩
  obtain ⟨R, hR⟩ : ∃ R, R = kp8 ew l l.length := ⟨_, rfl⟩
  rw [← hR] at hl
  rw [← hR]
  have HRE := Lib.hid hR
  have HRL := Lib.hid (show R.length ≤ l.length by rw [hR]; exact HKL.out _)
  have H4 := Lib.hid (show Cs8 w2 p w4.heap.size (w4.heap.size + 1) cap A c l D d R (.slice none 0 0) [] (w4.alloc (.cells #[.int .i64 cap, .slice D R.length d] 24)) from
    ⟨(HV2.out.below hb).alloc _, DB.fresh w4 cap D R.length d _, (hl.alloc (Nat.le_refl _) _).more (by omega), World.ownsRow_nil _ _ _ _, (HV2.out.below hb).db.lt, by omega, by simp⟩)
  clear hn hl hb hR
  have hl64 : l.length ≤ 9223372036854775807 := by have := HL24.out; omega
  go_wp2
  obtain ⟨q, hq⟩ : ∃ q, q = w4.heap.size := ⟨_, rfl⟩
  obtain ⟨B, hB⟩ : ∃ B, B = w4.heap.size + 1 := ⟨_, rfl⟩
  rw [← hB, ← hq] at H4
  rw [← hq]
  clear hq hB HV2
  generalize w4.alloc (.cells #[.int .i64 cap, .slice D R.length d] 24) = w5 at *
  go_loopw [9, 10] (fun lv i wr => ∃ k : Nat, k ≤ l.length ∧ i = .int .i64 k ∧ Cs8 w2 p q B cap A c l D d R lv (kp8 ew l k) wr) (fun _ i _ => l.length - (intOf i).toNat)
  case atStart => exact ⟨0, by omega, rfl, by rw [HFN.out]; exact H4.out⟩
  case round =>
    obtain ⟨k, hk, rfl, hr⟩ := hrel
    have HR := Lib.hid hr
    clear hr H4
    by_cases hlt : k < l.length
    · obtain ⟨b, o, rfl, hbl, c0', c1', c2', c3', c4', c5', c6'⟩ := HR.out.va.ls.at_ hlt
      obtain ⟨A1, cc1, rfl⟩ := own_form HR.out.own
      have HTL := Lib.hid (show (kp8 ew l k).length ≤ 24 from Nat.le_trans (HKL.out k) HL24.out)
      obtain ⟨t0, t1, tl⟩ := HR.out.va.db.facts
      by_cases he : ew ≤ l[k].ep
      · have HKK := Lib.hid (HKY.out k hlt he)
        clear HKY HKN
        generalize l[k] = X at *
        generalize kp8 ew l k = T at *
        have HP6 := Lib.hid (HR.out.below ((Below.refl _ _).alloc (Nat.le_refl _) (.cells X.cs 37)))
        have HCX := Lib.hid (msg_row8 wr X 37)
        go_wp2_with (at_builtin; refine wpList_append_lies _ rfl (.tmp 38) (.tmp 44) 22 rfl B 37 i0 _ 7 64 Try.underlying22 HI.out HZ.out.1 HZ.out.2.1 HZ.out.2.2 rfl (by omega) (.slice A1 T.length cc1) T.length (lcs T) rfl HP6.out.own ⟨wr.heap.size, 0, none⟩ 1 1 X.l rfl (by simp [Msg.l_len]) (fun j u hu => by have := HCX.out j u hu; simpa using this) X.l_one (by omega) (by have := HTL.out; unfold maxLen; omega) (by have := HTL.out; omega) HP6.out.old.2.2 _ rfl ?_; intro g1 cp w8 hown hgrow hat hglt)
        have HP9 := Lib.hid (HP6.out.app (own8_end hown) hgrow)
        clear hown hgrow hat hglt t0 t1 tl c0' c1' c2' c3' c4' c5' c6' he
        go_wp2
        go_roundw
        case rel => exact ⟨k + 1, by omega, by go_num, by rw [HKK.out]; exact HP9.out⟩
        case measure => simp [intOf]; omega
      · have HKK := Lib.hid (HKN.out k hlt (by omega))
        clear HKY HKN
        generalize l[k] = X at *
        go_wp2
        go_roundw
        case rel => exact ⟨k + 1, by omega, by go_num, by rw [HKK.out]; exact HR.out⟩
        case measure => simp [intOf]; omega
    · obtain rfl : k = l.length := by omega
      rw [← HRE.out] at HR
      obtain ⟨A1, cc1, rfl⟩ := own_form HR.out.own
      have HSM := Lib.hid (rsame_yes D A1 R.length R.length d cc1 R wr _ _ HR.out.rl (Ls.of_own HR.out.own))
      clear HRE HFN HKL HKY HKN
      have hR24 : R.length ≤ 24 := by have := HRL.out; have := HL24.out; omega
      have hwr : wrap64 ((l.length : Int) - (R.length : Int)) = (l.length : Int) - (R.length : Int) := IntWalk.wrap64_in _ (by omega)
      obtain ⟨t0, t1, tl⟩ := HR.out.va.db.facts
      obtain ⟨q0, q1, ql⟩ := HR.out.db.facts
      go_wp2_with fail
      clear t0 t1 tl q0 q1 ql
      refine HSM.out.mono ?_
      rintro e w6 ⟨rfl, hb⟩
      have H6 := Lib.hid (HR.out.below hb)
      clear hb HR HSM
      obtain ⟨t0, t1, tl⟩ := H6.out.va.db.facts
      obtain ⟨q0, q1, ql⟩ := H6.out.db.facts
      go_wp2_with fail
      clear t0 t1 tl q0 q1 ql
      refine (HAW.out _).mono ?_
      rintro e w7 ⟨rfl, hb⟩
      have HF := Lib.hid (HW2.out.trans (((H6.out.below hb).va.bel).mono HW2.out.size))
      clear hb
      go_wp2
      go_ret
      exact ⟨rfl, HF.out⟩

/-! The row's step, as the guide's shell has it. -/
namespace deadCleans
open Go.ChangeShapes Go.WideShapes Go.ChangeAt
open Go.ChangeMaps (open_string shut_string)
theorem own : ownKnob Try.prog.godebug = none := by kernel_rfl
theorem laidOut : laidOutB Try.prog = true := by kernel_rfl

set_option maxRecDepth 100000 in
theorem lifted (os : Os) (started : os.Started) (H : Type) (enc : TypeId × Value → H) :
    ReturnsInHanded {} Try.checked os 6 .any (Rows.deadCleansSpec.pre6 enc Try.prog Try.f6 Rows.deadCleansRow.domain false) (Rows.deadCleansSpec.post enc Try.prog Try.f6 false true false false) := by
  refine returnsInHanded_of_change (C := Try.checked) own started (by kernel_rfl) Try.func6
    (ChangeSpec.witness6 (enc := enc) (C := Try.checked) false ⟨#[], #[.slice none 0 0, .int .i64 0], []⟩ 8 (by kernel_rfl) (by kernel_rfl) (by kernel_rfl) (by kernel_rfl)) ?_
  intro W base args ds gs before hval0 hW hcnd _
  have hval : ∀ (j : Nat) t v, Try.f6.params[j]? = some t → args[j]? = some v → Value.okWide Try.prog W .any base t v := hval0
  have hW' := hW
  obtain ⟨p, q, hA0, hV, rfl, hfz, hnd⟩ := hW
  have hA : DataW.TrodAll enc Try.prog W 0 (fun _ => true) true Try.f6.params.toList args.toList ds p := hA0
  rw [Try.params6] at hA hval
  obtain ⟨v0, vs0, d0, ds0, p0, q0, hargs, rfl, rfl, h0, r0⟩ := trodAll_cons hA
  obtain ⟨v1, vs1, d1, ds1, p1, q1, rfl, rfl, rfl, h1, r1⟩ := trodAll_cons r0
  obtain ⟨rfl, rfl, rfl⟩ := trodAll_nil r1
  obtain rfl : args = #[v0, v1] := by cases args; simp_all
  obtain ⟨rfl, rfl⟩ := trodVars_none hV
  obtain ⟨a0, len0, cap0, rfl⟩ := okWide_slice Try.underlying31 (hval 0 31 v0 rfl rfl)
  have k0 := h0
  have lt0 : ∀ x ∈ p0, x.block < W.heap.size := by obtain ⟨m, hm⟩ := k0; exact DataW.trod_lt m _ _ _ hm
  obtain ⟨z0, w0⟩ : ∃ zs, Ns W W.heap.size (.slice a0 len0 cap0) zs := by
    obtain ⟨fuel, hf⟩ := h0
    rcases open_ints Try.underlying31 Try.underlying3 (by kernel_rfl) hf with ⟨hcs, _⟩ | ⟨x, l, c, zs, hcs, _, hl, hm, hz, _, hcell, hwz⟩
    · simp [Value.cells] at hcs
      obtain ⟨rfl, rfl, rfl⟩ := hcs
      exact ⟨[], Ns.nil⟩
    · simp [Value.cells] at hcs
      obtain ⟨rfl, rfl, rfl⟩ := hcs
      exact Ns.of_cells hl hm (by simpa using hz) hcell hwz
  obtain ⟨a1, rfl, rfl, rfl, w1⟩ := open_int Try.underlying3 (hval 1 3 v1 rfl rfl) h1
  clear hA0 hval0
  refine (DeadCleans_walk W a0 len0 cap0 z0 w0 a1 w1).mono fun e W' ⟨he, bel⟩ => ?_
  subst he
  exact ⟨_, rfl, _, _, _, [], _, [], hW', trodAll_mk1 (shut_bool Try.underlying4 _), (trodAll_cons_mk (Below.trod laidOut (by kernel_rfl) (of_decide_eq_true (by kernel_rfl)) k0 bel lt0) (trodAll_cons_mk (shut_int Try.underlying3 w1) trodAll_mk0)), rfl, bel.frame _, fun h => by cases h⟩

theorem over : Rows.deadCleansRow.holds Try.pinned (OpenSpec.ofChange Rows.deadCleansSpec) :=
  OpenClaim.holds_of_wide 6 Try.f6 rfl rfl rfl rfl rfl rfl rfl ⟨rfl, rfl, rfl, rfl, rfl⟩ rfl rfl rfl rfl rfl (by kernel_rfl) Try.func6 (by kernel_rfl)
    (of_decide_eq_true (by kernel_rfl)) (by unfold Func.isWrapper; first | (rw [if_pos (by decide +kernel)]; kernel_rfl) | (rw [if_neg (by decide +kernel)]; exact ⟨rfl, rfl⟩))
    (fun os started H enc _ => lifted os started H enc)

/-- The statement. -/
theorem proved : Rows.DeadCleansSaid := over
#print axioms proved
end deadCleans
end Go.Proofs.Ytbeafcjbldnkhaa
