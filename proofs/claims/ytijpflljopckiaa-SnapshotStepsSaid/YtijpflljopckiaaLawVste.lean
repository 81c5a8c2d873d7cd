/- What is proved here: shardqueuelaw14.SnapshotSteps returns true for every input and leaves its arguments as they were. No condition. -/
import Derived.Test.YtijpflljopckiaaJ33
import Derived.Test.YtijpflljopckiaaJ34
import Derived.ProofKit
import Derived.OpenShut
import Derived.ChangeOld
import Derived.Deep.DeepCutAuto
import Derived.Deep.RegionHeld3
namespace Go.Proofs.Ytijpflljopckiaa
open Go.RowKit
set_option linter.unusedVariables false

/-- Behind j steps of a snapshot with m purges: the arena's epoch, the snapshot. -/
def St14 (m j : Nat) (ep : Int) (x : Sn) : Prop :=
  (j = 0 ∧ x.ph = 0 ∧ ep = 0) ∨ (∃ i : Nat, i ≤ m ∧ j = 2 * i + 1 ∧ x.ph = 1 ∧ x.ep = i ∧ ep = if i < m then (i : Int) + 1 else i) ∨ (∃ i : Nat, i ≤ m ∧ j = 2 * i + 2 ∧ x.ph = 2 ∧ x.ep = i ∧ ep = if i < m then (i : Int) + 1 else i) ∨ (j = 2 * m + 3 ∧ x.ph = 3 ∧ 0 ≤ ep ∧ ep ≤ m)
theorem St14.ep {m j : Nat} {ep : Int} {x : Sn} (h : St14 m j ep x) : 0 ≤ ep ∧ ep ≤ m ∧ j ≤ 2 * m + 3 := by
  rcases h with ⟨h1, h2, h3⟩ | ⟨i, h1, h2, h3, h4, h5⟩ | ⟨i, h1, h2, h3, h4, h5⟩ | ⟨h1, h2, h3, h4⟩
  · omega
  · by_cases hi : i < m
    · rw [if_pos hi] at h5; omega
    · rw [if_neg hi] at h5; omega
  · by_cases hi : i < m
    · rw [if_pos hi] at h5; omega
    · rw [if_neg hi] at h5; omega
  · omega
theorem St14.end_ {m j : Nat} {ep : Int} {x : Sn} (h : St14 m j ep x) (h3 : x.ph = 3) : j = 2 * m + 3 := by
  rcases h with ⟨h1, h2, -⟩ | ⟨i, -, h2, h4, -⟩ | ⟨i, -, h2, h4, -⟩ | ⟨h1, -⟩ <;> omega
theorem St14.step {m j : Nat} {ep ck : Int} {x : Sn} (h : St14 m j ep x) (h3 : x.ph ≠ 3) : j ≤ 2 * m + 2 ∧ nsE x = 0 ∧ St14 m (j + 1) (if (j + 1) % 2 = 1 ∧ (j + 1) / 2 < m then ep + 1 else ep) (nsN ep ck x j) := by
  rcases h with ⟨h1, h2, hx⟩ | ⟨i, h1, h2, h4, h5, h6⟩ | ⟨i, h1, h2, h4, h5, h6⟩ | ⟨h1, h2, -⟩
  · have e : nsN ep ck x j = bgN x ep := if_pos h2
    refine ⟨by omega, by simp [nsE, h2], .inr (.inl ⟨0, by omega, by omega, by rw [e]; rfl, by rw [e]; exact hx, ?_⟩)⟩
    subst h1
    by_cases hm : 0 < m
    · rw [if_pos (by omega), if_pos hm, hx]; rfl
    · rw [if_neg (by omega), if_neg hm, hx]; rfl
  · have e : nsN ep ck x j = stN x ck j := by unfold nsN; rw [if_neg (by omega), if_pos h4]
    refine ⟨by omega, by simp [nsE, h4], .inr (.inr (.inl ⟨i, h1, by omega, by rw [e]; rfl, by rw [e]; exact h5, ?_⟩))⟩
    rw [if_neg (by omega)]; exact h6
  · have e : nsN ep ck x j = cmN x ep := by unfold nsN; rw [if_neg (by omega), if_neg (by omega), if_pos h4]
    by_cases hi : i < m
    · rw [if_pos hi] at h6
      have e2 : cmN x ep = bgN x ep := if_neg (by omega)
      refine ⟨by omega, by simp [nsE, h4], .inr (.inl ⟨i + 1, by omega, by omega, by rw [e, e2]; rfl, by rw [e, e2]; show ep = _; omega, ?_⟩)⟩
      by_cases hi2 : i + 1 < m
      · rw [if_pos (by omega), if_pos hi2]; omega
      · rw [if_neg (by omega), if_neg hi2]; omega
    · rw [if_neg hi] at h6
      have e2 : cmN x ep = ⟨3, x.ep, x.ck, x.sp⟩ := if_pos (by omega)
      refine ⟨by omega, by simp [nsE, h4], .inr (.inr (.inr ⟨by omega, by rw [e, e2], ?_⟩))⟩
      rw [if_neg (by omega)]; omega
  · exact absurd h2 h3
theorem Na14.epset {w W : World} {p q : Nat} {a : Ar} {Y : Ax} {s : Sn} (h : Na14 w p q a Y s W) (x : Int) : Na14 w p q (a.words x a.ck a.ni) Y s (W.setCell ⟨p, 8, none⟩ (.int .i64 x)) :=
  ⟨h.qb.ep x, ((h.ar.offp (q := ⟨p, 8, none⟩) h.ofp _).more (by simp)).words _ _ _, h.nb.other (x := ⟨p, 8, none⟩) h.ne.2.2 _, h.off.words _ _ _, h.ofp.words _ _ _, h.ne, h.bel.setCell (p := ⟨p, 8, none⟩) h.ne.1 _⟩
theorem own_su14 : (nwA su14).own 0 = 0 ∧ (nwA su14).sl.length = 1 ∧ (nwA su14).ep = 0 := by
  obtain ⟨hE, n, n0, n6, hca⟩ := ca_nw (suB_iff.1 su14_ok.1)
  have h := nw_words su14_ok.1
  exact ⟨hca.ow 0 (by omega), h.2.2.2, h.1⟩
set_option maxHeartbeats 8000000 in
set_option maxRecDepth 20000 in
theorem SnapshotSteps_walk (w : World) (a : Int) (wa : (Lit.int .u8 a).wf = true) :
    Calls Try.prog 4 #[.int .u8 a] w fun e w' => e = .returned (.bool true) ∧ Below w.heap.size w w' := by
  have ha : 0 ≤ a ∧ a ≤ 255 := (show IntKind.u8.min ≤ a ∧ a ≤ IntKind.u8.max from by simpa [Lit.wf] using wa)
  obtain ⟨n, hn⟩ : ∃ n : Nat, a = n := ⟨a.toNat, by omega⟩
  subst hn
  obtain ⟨m, hm⟩ : ∃ m : Nat, m = n % 20 := ⟨_, rfl⟩
  have HM := Lib.hid (show m ≤ 19 by omega)
  have ht : ((n : Int)).tmod 20 = m := by rw [Int.tmod_eq_emod_of_nonneg (by omega)]; omega
  have hu : IntKind.u8.wrap (m : Int) = m := by rw [IntKind.wrap_u8]; omega
  have hw2 : IntKind.i64.wrap (m : Int) = m := IntWalk.i64_in _ (by omega)
  have HAW := Lib.hid (fun W => awake14_any W)
  have HN := Lib.hid (fun W => anew_any su14 W)
  rw [su14_ok.2.1] at HN
  obtain ⟨A0, hA0⟩ : ∃ A, A = nwA su14 := ⟨_, rfl⟩
  have HO := Lib.hid own_su14
  rw [← hA0] at HN HO
  clear hA0 hm ha wa
  go_enter Try.func4, Try.ntmps4
  go_wp2_with fail
  refine (HN.out _).mono ?_
  rintro e w1 ⟨Y, rfl, hn, hr, hb⟩
  have H1 := Lib.hid (Aw12.start (w := w) hb hr)
  have HOP := Lib.hid (hr.offs (Nat.le_refl _))
  clear hn hr hb HN
  go_upto_region 2 with (fail)
  obtain ⟨p, hp⟩ : ∃ p, p = w1.heap.size := ⟨_, rfl⟩
  rw [← hp] at H1 HOP ⊢
  clear hp
  generalize w1.alloc (.cells #[.slice Y.A A0.sl.length Y.c, .slice Y.A2 A0.st.length Y.c2, .int .i64 A0.ow, .int .i64 A0.cap, .slice Y.A3 A0.dl.length Y.c3, .int .i64 A0.dir.vn, .slice Y.D.A A0.dir.l.length Y.D.c, .slice Y.D.A2 A0.dir.F.length Y.D.c2, .int .i64 A0.ep, .int .i64 A0.ck, .int .i64 A0.ni] 36) = w2 at *
  go_wp2_with fail
  refine (nnew_any _).mono ?_
  rintro e w3 ⟨rfl, hb⟩
  have HNA := Lib.hid (show Na14 w p w3.heap.size A0 Y zSn (w3.alloc (.cells #[.int .i64 zSn.ph, .int .i64 zSn.ep, .int .i64 zSn.ck, .int .i64 zSn.sp] 43)) from H1.out.snap (bal hb (.cells #[.int .i64 zSn.ph, .int .i64 zSn.ep, .int .i64 zSn.ck, .int .i64 zSn.sp] 43)) (NB.start w3 zSn 43) hb.size HOP.out)
  clear hb H1 HOP
  go_upto_region 6 with (fail)
  obtain ⟨q, hq⟩ : ∃ p, p = w3.heap.size := ⟨_, rfl⟩
  rw [← hq] at HNA ⊢
  clear hq
  generalize w3.alloc (.cells #[.int .i64 zSn.ph, .int .i64 zSn.ep, .int .i64 zSn.ck, .int .i64 zSn.sp] 43) = w4 at *
  go_wp2_with fail
  go_loopw [7] (fun iv wr => ∃ (j : Nat) (a : Ar) (x : Sn), iv = .int .i64 (j : Int) ∧ j ≤ 2 * m + 3 ∧ Hid (St14 m j a.ep x ∧ (a.own 0 = 0 ∧ a.sl.length = 1) ∧ Na14 w p q a Y x wr)) (fun iv _ => 2 * m + 3 - (intOf iv).toNat)
  case atStart => exact ⟨0, A0, zSn, rfl, by omega, Lib.hid ⟨.inl ⟨rfl, rfl, HO.out.2.2⟩, ⟨HO.out.1, HO.out.2.1⟩, HNA.out⟩⟩
  case round =>
    clear HNA HO
    obtain ⟨j, a, ⟨ph, ep, ck, sp⟩, rfl, hjm, H⟩ := hrel
    have HJ := Lib.hid hjm
    have HST := Lib.hid H.out.1
    have HOW := Lib.hid H.out.2.1
    have HNA := Lib.hid H.out.2.2
    clear H hjm
    obtain ⟨p0, p1, p2, p3⟩ := HNA.out.nb.k
    have pl := HNA.out.nb.lt
    simp only at p0 p1 p2 p3
    have h100 : (j : Int) < 100 := by have := HJ.out; have := HM.out; omega
    by_cases h3 : ph = 3
    · subst h3
      have hj : j = 2 * m + 3 := HST.out.end_ rfl
      have HJE := Lib.hid hj
      obtain ⟨y0, y1, y2, y3, y4, y5, y6, y7, y8, y9, y10⟩ := HNA.out.qb.k
      have yl := HNA.out.qb.lt
      clear hj
      go_wp2_with fail
      clear y0 y1 y2 y3 y4 y5 y6 y7 y8 y9 y10 yl p0 p1 p2 p3 pl
      have HX := Lib.hid (fun W => nstep_any a Y 3 ep ck sp (j : Int) W)
      rw [show nsE ⟨3, ep, ck, sp⟩ = 7 from rfl] at HX
      obtain ⟨R, hR⟩ : ∃ R, R = nsN a.ep a.ck ⟨3, ep, ck, sp⟩ (j : Int) := ⟨_, rfl⟩
      rw [← hR] at HX
      clear hR
      refine (HX.out _).mono ?_
      rintro e x1 ⟨rfl, hb⟩
      replace HNA := Lib.hid ((HNA.out.below hb).below ((Below.refl x1.heap.size x1).alloc (Nat.le_refl _) (.cells #[.int .i64 R.ph, .int .i64 R.ep, .int .i64 R.ck, .int .i64 R.sp] 43)))
      clear hb HX
      go_upto_region 16 with (fail)
      generalize x1.heap.size = r at *
      generalize x1.alloc (.cells #[.int .i64 R.ph, .int .i64 R.ep, .int .i64 R.ck, .int .i64 R.sp] 43) = x2 at *
      have hw3 : IntKind.i64.wrap (2 * (m : Int)) = 2 * m := IntWalk.i64_in _ (by have := HM.out; omega)
      have hw4 : IntKind.i64.wrap (3 + 2 * (m : Int)) = 3 + 2 * m := IntWalk.i64_in _ (by have := HM.out; omega)
      have hje : ((j : Int) == 3 + 2 * (m : Int)) = true := by have := HJE.out; simp; omega
      obtain ⟨y0, y1, y2, y3, y4, y5, y6, y7, y8, y9, y10⟩ := HNA.out.qb.k
      have yl := HNA.out.qb.lt
      have HOWN := Lib.hid (rowner12_any a Y 0 x2 HNA.out.ar (Nat.zero_le _))
      rw [HOW.out.1] at HOWN
      go_wp2_with fail
      clear y0 y1 y2 y3 y4 y5 y6 y7 y8 y9 y10 yl
      refine HOWN.out.mono ?_
      rintro e x3 ⟨rfl, hb⟩
      replace HNA := Lib.hid (HNA.out.below hb)
      clear hb HOWN
      go_wp2_with fail
      refine (HAW.out _).mono ?_
      rintro e x4 ⟨rfl, hb⟩
      have HF := Lib.hid (HNA.out.below hb).bel
      clear hb HNA
      go_wp2
      go_ret
      exact ⟨rfl, HF.out⟩
    · have hb3 : (ph != 3) = true := bne_iff_ne.2 h3
      obtain ⟨hj2, hE, hst⟩ := HST.out.step (ck := a.ck) h3
      have HJ2 := Lib.hid hj2
      have HX := Lib.hid (fun W => nstep_any a Y ph ep ck sp (j : Int) W)
      rw [hE] at HX
      obtain ⟨R, hR⟩ : ∃ R, R = nsN a.ep a.ck ⟨ph, ep, ck, sp⟩ (j : Int) := ⟨_, rfl⟩
      rw [← hR] at HX hst
      have HST2 := Lib.hid hst
      have hwj : IntKind.i64.wrap ((j : Int) + 1) = (j : Int) + 1 := IntWalk.i64_in _ (by omega)
      obtain ⟨y0, y1, y2, y3, y4, y5, y6, y7, y8, y9, y10⟩ := HNA.out.qb.k
      have yl := HNA.out.qb.lt
      have HEP := Lib.hid HST.out.ep
      clear hst hj2 hE hR h3 HJ HST
      go_wp2_with fail
      clear y0 y1 y2 y3 y4 y5 y6 y7 y8 y9 y10 yl p0 p1 p2 p3 pl hb3
      refine (HX.out _).mono ?_
      rintro e x1 ⟨rfl, hb⟩
      have HQ1 := Lib.hid (Nat.lt_of_lt_of_le HNA.out.nb.lt hb.size)
      have HR := Lib.hid (NB.start x1 R 43)
      replace HNA := Lib.hid ((HNA.out.below hb).below ((Below.refl x1.heap.size x1).alloc (Nat.le_refl _) (.cells #[.int .i64 R.ph, .int .i64 R.ep, .int .i64 R.ck, .int .i64 R.sp] 43)))
      have HQR := Lib.hid (show q < x1.heap.size from HQ1.out)
      clear hb HX HQ1
      go_upto_region 9 with (fail)
      obtain ⟨r, hr⟩ : ∃ p, p = x1.heap.size := ⟨_, rfl⟩
      rw [← hr] at HR HQR ⊢
      clear hr
      generalize x1.alloc (.cells #[.int .i64 R.ph, .int .i64 R.ep, .int .i64 R.ck, .int .i64 R.sp] 43) = x2 at *
      have HNA2 := Lib.hid (show Na14 w p q a Y R ((((x2.setCell ⟨q, 0, none⟩ (.int .i64 R.ph)).setCell ⟨q, 1, none⟩ (.int .i64 R.ep)).setCell ⟨q, 2, none⟩ (.int .i64 R.ck)).setCell ⟨q, 3, none⟩ (.int .i64 R.sp)) from HNA.out.put R)
      obtain ⟨p0, p1, p2, p3⟩ := HNA.out.nb.k
      have pl := HNA.out.nb.lt
      obtain ⟨f0, f1, f2, f3⟩ := HNA.out.nb.free
      obtain ⟨r0, r1, r2, r3⟩ := HR.out.k
      have rl := HR.out.lt
      have hqr : ¬ q = r := by have := HQR.out; omega
      have hrq : ¬ r = q := fun e => hqr e.symm
      go_upto_region 12 with (fail)
      clear p0 p1 p2 p3 pl f0 f1 f2 f3 r0 r1 r2 r3 rl hqr hrq HQR HR HNA
      have HNA := Lib.hid HNA2.out
      clear HNA2
      generalize (((x2.setCell ⟨q, 0, none⟩ (.int .i64 R.ph)).setCell ⟨q, 1, none⟩ (.int .i64 R.ep)).setCell ⟨q, 2, none⟩ (.int .i64 R.ck)).setCell ⟨q, 3, none⟩ (.int .i64 R.sp) = x3 at *
      by_cases hod : (j + 1) % 2 = 1
      · have hto : ((j : Int) + 1).tmod 2 = 1 := by rw [Int.tmod_eq_emod_of_nonneg (by omega)]; omega
        have htd : ((j : Int) + 1).tdiv 2 = (((j + 1) / 2 : Nat) : Int) := by rw [Int.tdiv_eq_ediv_of_nonneg (by omega)]; omega
        obtain ⟨k, hk⟩ : ∃ k, k = (j + 1) / 2 := ⟨_, rfl⟩
        rw [← hk] at htd
        have hwd : IntKind.i64.wrap (k : Int) = k := IntWalk.i64_in _ (by omega)
        have hw1 : IntKind.i64.wrap 1 = 1 := rfl
        by_cases hlt : k < m
        · have hlt' : (k : Int) < (m : Int) := by omega
          have HST3 := Lib.hid (show St14 m (j + 1) (a.ep + 1) R from by have h := HST2.out; rw [if_pos ⟨hod, by rw [← hk]; exact hlt⟩] at h; exact h)
          have HNA2 := Lib.hid (HNA.out.epset (a.ep + 1))
          have hwe : IntKind.i64.wrap (a.ep + 1) = a.ep + 1 := IntWalk.i64_in _ (by have := HEP.out; have := HM.out; omega)
          have y8 := HNA.out.qb.k.2.2.2.2.2.2.2.2.1
          have yl := HNA.out.qb.lt
          have f8 := HNA.out.qb.fr 8
          clear hod hk hlt HST2 HNA HEP
          go_wp2_with fail
          go_roundw
          case rel => exact ⟨j + 1, a.words (a.ep + 1) a.ck a.ni, R, by go_num, by have := HJ2.out; omega, Lib.hid ⟨HST3.out, HOW.out, HNA2.out⟩⟩
          case measure => simp [intOf]; have := HJ2.out; omega
        · have hlt' : ¬ (k : Int) < (m : Int) := by omega
          have HST3 := Lib.hid (show St14 m (j + 1) a.ep R from by have h := HST2.out; rw [if_neg (by rw [← hk]; omega)] at h; exact h)
          clear hod hk hlt HST2 HEP
          go_wp2_with fail
          go_roundw
          case rel => exact ⟨j + 1, a, R, by go_num, by have := HJ2.out; omega, Lib.hid ⟨HST3.out, HOW.out, HNA.out⟩⟩
          case measure => simp [intOf]; have := HJ2.out; omega
      · have hto : ((j : Int) + 1).tmod 2 = 0 := by rw [Int.tmod_eq_emod_of_nonneg (by omega)]; omega
        have hw1 : IntKind.i64.wrap 0 = 0 := rfl
        have HST3 := Lib.hid (show St14 m (j + 1) a.ep R from by have h := HST2.out; rw [if_neg (by omega)] at h; exact h)
        clear hod HST2 HEP
        go_wp2_with fail
        go_roundw
        case rel => exact ⟨j + 1, a, R, by go_num, by have := HJ2.out; omega, Lib.hid ⟨HST3.out, HOW.out, HNA.out⟩⟩
        case measure => simp [intOf]; have := HJ2.out; omega
/-! The row's step, as the guide's shell has it. -/
namespace snapshotSteps
open Go.ChangeShapes Go.WideShapes Go.ChangeAt
open Go.ChangeMaps (open_string shut_string)
theorem own : ownKnob Try.prog.godebug = none := by kernel_rfl
theorem laidOut : laidOutB Try.prog = true := by kernel_rfl

set_option maxRecDepth 100000 in
theorem lifted (os : Os) (started : os.Started) (H : Type) (enc : TypeId × Value → H) :
    ReturnsInHanded {} Try.checked os 4 .any (Rows.snapshotStepsSpec.pre6 enc Try.prog Try.f4 Rows.snapshotStepsRow.domain false) (Rows.snapshotStepsSpec.post enc Try.prog Try.f4 false true false false) := by
  refine returnsInHanded_of_change (C := Try.checked) own started (by kernel_rfl) Try.func4
    (ChangeSpec.witness6 (enc := enc) (C := Try.checked) false ⟨#[], #[.int .u8 0], []⟩ 8 (by kernel_rfl) (by kernel_rfl) (by kernel_rfl) (by kernel_rfl)) ?_
  intro W base args ds gs before hval0 hW hcnd _
  have hval : ∀ (j : Nat) t v, Try.f4.params[j]? = some t → args[j]? = some v → Value.okWide Try.prog W .any base t v := hval0
  have hW' := hW
  obtain ⟨p, q, hA0, hV, rfl, hfz, hnd⟩ := hW
  have hA : DataW.TrodAll enc Try.prog W 0 (fun _ => true) true Try.f4.params.toList args.toList ds p := hA0
  rw [Try.params4] at hA hval
  obtain ⟨v0, vs0, d0, ds0, p0, q0, hargs, rfl, rfl, h0, r0⟩ := trodAll_cons hA
  obtain ⟨rfl, rfl, rfl⟩ := trodAll_nil r0
  obtain rfl : args = #[v0] := by cases args; simp_all
  obtain ⟨rfl, rfl⟩ := trodVars_none hV
  obtain ⟨a0, rfl, rfl, rfl, w0⟩ := open_int Try.underlying5 (hval 0 5 v0 rfl rfl) h0
  clear hA0 hval0
  simp only [List.append_nil] at hW'
  refine (SnapshotSteps_walk W a0 w0).mono fun e W' ⟨he, bel⟩ => ?_
  subst he
  exact ⟨_, rfl, _, _, _, [], _, [], hW', trodAll_mk1 (shut_bool Try.underlying4 _), (trodAll_cons_mk (shut_int Try.underlying5 w0) trodAll_mk0), rfl, bel.frame _, fun h => by cases h⟩

theorem over : Rows.snapshotStepsRow.holds Try.pinned (OpenSpec.ofChange Rows.snapshotStepsSpec) :=
  OpenClaim.holds_of_wide 4 Try.f4 rfl rfl rfl rfl rfl rfl rfl ⟨rfl, rfl, rfl, rfl, rfl⟩ rfl rfl rfl rfl rfl (by kernel_rfl) Try.func4 (by kernel_rfl)
    (of_decide_eq_true (by kernel_rfl)) (by unfold Func.isWrapper; first | (rw [if_pos (by decide +kernel)]; kernel_rfl) | (rw [if_neg (by decide +kernel)]; exact ⟨rfl, rfl⟩))
    (fun os started H enc _ => lifted os started H enc)

/-- The statement. -/
theorem proved : Rows.SnapshotStepsSaid := over
#print axioms proved
end snapshotSteps
end Go.Proofs.Ytijpflljopckiaa
