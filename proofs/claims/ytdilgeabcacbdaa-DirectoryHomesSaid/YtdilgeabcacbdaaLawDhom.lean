/- What is proved here: shardqueuelaw10.DirectoryHomes returns true for every input and leaves its arguments as they were. No condition. -/
import Derived.Test.YtdilgeabcacbdaaJ13
import Derived.Test.YtdilgeabcacbdaaJ11
import Derived.ProofKit
import Derived.OpenShut
import Derived.ChangeOld
import Derived.Deep.DeepCutAuto
import Derived.Deep.RegionHeld3
namespace Go.Proofs.Ytdilgeabcacbdaa
open Go.RowKit
set_option linter.unusedVariables false

open Classical in
set_option maxHeartbeats 4000000 in
set_option maxRecDepth 20000 in
theorem DirectoryHomes_walk (w : World) (a0 : Option Addr) (l0 c0 : Nat) (zs : List Int) (hz : Ns w w.heap.size (.slice a0 l0 c0) zs) :
    Calls Try.prog 7 #[.slice a0 l0 c0] w fun e w' => e = .returned (.bool true) ∧ Below w.heap.size w w' := by
  have HNS := Lib.hid (new_src a0 l0 c0 zs w hz)
  have HAW := Lib.hid (fun W => awake10_any W)
  clear hz
  go_enter Try.func7, Try.ntmps7
  go_wp2_with fail
  refine HNS.out.mono ?_
  rintro e w2 ⟨g, rfl, hs, hb⟩
  have HS := Lib.hid hs
  have HB := Lib.hid hb
  have HGW := Lib.hid (show w.heap.size ≤ g from hs.1)
  clear hs hb HNS
  go_wp2_with fail
  refine (range_any w.heap.size g _ HS.out 1 6 (by omega) (by omega) (by omega)).mono ?_
  rintro e w3 ⟨n, rfl, n1, n2, hs, hg⟩
  have HN := Lib.hid (And.intro n1 n2)
  have HS3 := Lib.hid hs
  have HB3 := Lib.hid (HB.out.grown hg HB.out.size (fun k e => by injection e with e; subst e; exact HGW.out))
  clear hs hg n1 n2 HS HB
  go_wp2_with fail
  refine (range_any w.heap.size g _ HS3.out 1 n (by omega) HN.out.1 (by have := HN.out; omega)).mono ?_
  rintro e w4 ⟨m, rfl, m1, m2, hs, hg⟩
  have HM := Lib.hid (And.intro m1 m2)
  have HS4 := Lib.hid hs
  have HB4 := Lib.hid (HB3.out.grown hg HB3.out.size (fun k e => by injection e with e; subst e; exact HGW.out))
  clear hs hg m1 m2 HS3 HB3
  go_wp2_with fail
  refine (dnew_any n m _).mono ?_
  rintro e w5 ⟨X, rfl, hnw, hdr, hb⟩
  have hE : nwE n m = 0 := by unfold nwE; rw [if_pos (by have := HN.out; have := HM.out; omega)]
  obtain ⟨N, hN⟩ : ∃ N : Nat, n = N := ⟨n.toNat, by have := HN.out; omega⟩
  obtain ⟨M, hM⟩ : ∃ M : Nat, m = M := ⟨m.toNat, by have := HN.out; have := HM.out; omega⟩
  have HEV := Lib.hid (show EvI N (fun j => decide (j < M)) (nwD n m) from by
    subst hN
    subst hM
    exact EvI.start (by have := HM.out; omega) (by have := HM.out; omega) (by have := HN.out; omega))
  rw [hE]
  obtain ⟨D, hD⟩ : ∃ D, D = nwD n m := ⟨_, rfl⟩
  rw [← hD] at HEV hdr ⊢
  clear hD hE
  subst hN
  subst hM
  have HD0 := Lib.hid (DsAt.start (w := w) (HS4.out.below hb) hdr (hnw.off (by have := HS4.out.2.1; exact this)) HGW.out (Nat.le_refl _) (HB4.out.trans (hb.mono HB4.out.size)) 47)
  clear hnw hdr hb HS4 HB4
  go_upto_region 4 with (fail)
  obtain ⟨p, hp⟩ : ∃ p, p = w5.heap.size := ⟨_, rfl⟩
  have HSZ := Lib.hid (show (w5.alloc (.cells #[.int .i64 D.vn, .slice X.A D.l.length X.c, .slice X.A2 D.F.length X.c2] 47)).heap.size = w5.heap.size + 1 by simp)
  rw [← hp] at HD0 HSZ ⊢
  generalize w5.alloc (.cells #[.int .i64 D.vn, .slice X.A D.l.length X.c, .slice X.A2 D.F.length X.c2] 47) = w6 at *
  clear hp
  have HO0 := Lib.hid (HoAt.start HD0.out 69)
  have HMN := Lib.hid (show M ≤ 6 ∧ M ≤ N ∧ N ≤ 6 by have := HM.out; have := HN.out; omega)
  go_wp2_with fail
  rw [HSZ.out] at HO0
  obtain ⟨q, hq⟩ : ∃ q, q = p + 1 := ⟨_, rfl⟩
  rw [← hq] at HO0 ⊢
  generalize w6.alloc (.cells #[.bool false, .bool false, .bool false, .bool false, .bool false, .bool false] 69) = w7 at *
  clear hq HD0 HM HSZ
  go_loopw [9] (fun iv wr => ∃ i : Nat, iv = .int .i64 i ∧ i ≤ M ∧ Hid (HoAt w g p q D X (fun j => decide (j < i)) wr)) (fun iv _ => M - (intOf iv).toNat)
  case atStart => exact ⟨0, rfl, Nat.zero_le _, HO0⟩
  case round =>
    clear HO0
    obtain ⟨i, rfl, hi, HO⟩ := hrel
    by_cases hlt : i < M
    · have hlt' : (i : Int) < (M : Int) := by omega
      have hi6 : i < 6 := by have := HMN.out; omega
      have hi6' : (i : Int) < 6 := by omega
      have hw2 : IntKind.i64.wrap ((i : Int) + 1) = (i : Int) + 1 := IntWalk.i64_in _ (by omega)
      have hc := HO.out.ev.c i hi6
      have hf := HO.out.ev.fr i
      have hql := HO.out.ev.lt
      have HO2 := Lib.hid ((HO.out.set hi6 true).congr (u := fun j => decide (j < i + 1)) (fun j hj => by
        by_cases e : j = i
        · rw [if_pos e, decide_eq_true (by omega)]
        · rw [if_neg e]
          rw [Bool.eq_iff_iff]
          simp
          omega))
      clear HO hi hlt
      go_wp2
      exact ⟨⟨i + 1, by rw [Int.natCast_add]; rfl, by omega, HO2⟩, by simp [intOf]; omega⟩
    · have hiM : i = M := by omega
      subst hiM
      obtain ⟨v, hv⟩ : ∃ v : Nat → Bool, v = fun j => decide (j < i) := ⟨_, rfl⟩
      rw [← hv] at HO HEV
      clear hv hi hlt
      go_wp2
      generalize wr = w8 at *
      go_loopw [10] (fun iv wr => ∃ (k : Nat) (D : Dd) (X : Dx) (v : Nat → Bool), iv = .int .i64 k ∧ k ≤ 12 ∧ Hid (EvI N v D) ∧ Hid (HoAt w g p q D X v wr)) (fun iv _ => 12 - (intOf iv).toNat)
      case atStart => exact ⟨0, D, X, v, rfl, by omega, HEV, HO⟩
      case round =>
        clear HEV HO
        obtain ⟨k, D, X, v, rfl, hk, HEV, HO⟩ := hrel
        by_cases hkl : k < 12
        · have hkl' : (k : Int) < 12 := by omega
          have hw2 : IntKind.i64.wrap ((k : Int) + 1) = (k : Int) + 1 := IntWalk.i64_in _ (by omega)
          go_wp2_with fail
          refine (edit_any w.heap.size g _ HO.out.ds.src (N : Int) HN.out.1 (by have := HN.out; omega)).mono ?_
          rintro e w2 ⟨E, rfl, -, -, -, -, hs, hg⟩
          have HO2 := Lib.hid ((HO.out.turn hs hg).below ((Below.refl _ _).alloc (Nat.le_refl _) (.cells #[.int .i64 E.kd, .int .i64 E.fr, .int .i64 E.to, .int .i64 E.md] 49)))
          have HE2 := Lib.hid (EB.start w2 E 49)
          have HCA := Lib.hid (fun W (h : HoAt w g p q D X v W) => dapply_any D X E W h.ds.dr (by have := okd_len HEV.out.va; omega))
          have HZP := Lib.hid (show p < w2.heap.size from (HO.out.turn hs hg).ds.db.lt)
          clear hs hg HO
          obtain ⟨⟨x0, x1, x2, xl⟩, -⟩ := HO2.out.ds.db.all
          obtain ⟨y0, y1, y2, y3, yl⟩ := HE2.out
          go_wp2_with fail
          clear x0 x1 x2 xl y0 y1 y2 y3 yl
          obtain ⟨z, hz⟩ : ∃ p, p = w2.heap.size := ⟨_, rfl⟩
          rw [← hz] at HE2 HZP ⊢
          clear hz
          generalize w2.alloc (.cells #[.int .i64 E.kd, .int .i64 E.fr, .int .i64 E.to, .int .i64 E.md] 49) = w3 at *
          refine (HCA.out _ HO2.out).mono ?_
          rintro e w4 ⟨Y, rfl, hnw, hdr, hb⟩
          have HST := Lib.hid (fun hx : apE D E = 0 => HEV.out.apply hx)
          obtain ⟨D', hD'⟩ : ∃ D', apD D E = D' := ⟨_, rfl⟩
          obtain ⟨x, hx⟩ : ∃ x, apE D E = x := ⟨_, rfl⟩
          rw [hD'] at hdr HST ⊢
          rw [hx] at HST ⊢
          clear hD' hx
          have hplt := (HO2.out.below hb).ds.db.lt
          have hzlt := HE2.out.lt
          have HYP := Lib.hid (show w4.heap.size ≠ p ∧ ¬ p = w4.heap.size ∧ ¬ z = p ∧ ¬ p = z from by
            have := HZP.out
            omega)
          have hb2 := hb.alloc hb.size (.cells #[.int .i64 D'.vn, .slice Y.A D'.l.length Y.c, .slice Y.A2 D'.F.length Y.c2] 47)
          have HYO := Lib.hid (show DOff D' Y p ∧ DOff D' Y g ∧ DOff D' Y q from ⟨hnw.off HO2.out.ds.db.lt, hnw.off HO2.out.ds.src.2.1, hnw.off HO2.out.ev.lt⟩)
          have HO3 := Lib.hid (HO2.out.below hb2)
          have HE3 := Lib.hid (HE2.out.up hb2)
          have HY3 := Lib.hid (DB.start w4 D' Y 47)
          have HR3 := Lib.hid (hdr.alloc (.cells #[.int .i64 D'.vn, .slice Y.A D'.l.length Y.c, .slice Y.A2 D'.F.length Y.c2] 47))
          clear hb2 hb hdr hnw HO2 HE2 HCA hplt hzlt HZP
          go_upto_if 56 with (fail)
          obtain ⟨y, hy⟩ : ∃ p, p = w4.heap.size := ⟨_, rfl⟩
          rw [← hy] at HY3 HYP ⊢
          clear hy
          generalize w4.alloc (.cells #[.int .i64 D'.vn, .slice Y.A D'.l.length Y.c, .slice Y.A2 D'.F.length Y.c2] 47) = w5 at *
          go_cut [6] (fun s6 wx => s6 = .pointer (some ⟨p, 0, none⟩) ∧ ∃ (D : Dd) (X : Dx) (v : Nat → Bool), Hid (EvI N v D) ∧ Hid (HoAt w g p q D X v wx))
          case first =>
            by_cases hx0 : x = 0
            · subst hx0
              obtain ⟨hto, hev⟩ := HST.out rfl
              obtain ⟨t, ht⟩ : ∃ t : Nat, E.to = t := ⟨E.to.toNat, by have := hto.1; omega⟩
              have htn : t < 6 := by have := hto.2; have := HMN.out; omega
              have htn' : (t : Int) < 6 := by omega
              rw [ht] at hev
              have HEV2 := Lib.hid (show EvI N (fun j => if j = t then true else v j) D' from hev)
              obtain ⟨⟨x0, x1, x2, xl⟩, f0, f1, f2⟩ := HO3.out.ds.db.all
              obtain ⟨⟨y0, y1, y2, yl⟩, -, -, -⟩ := HY3.out.all
              obtain ⟨z0, z1, z2, z3, zl⟩ := HE3.out
              rw [ht] at z2
              have hc := HO3.out.ev.c t htn
              have hf := HO3.out.ev.fr t
              have hql := HO3.out.ev.lt
              have hqp := HO3.out.qn.2.1
              have hpq : ¬ p = q := fun e => hqp e.symm
              obtain ⟨hyp, hpy, hzp, hpz⟩ := HYP.out
              have HO4 := Lib.hid ((HO3.out.put HR3.out HYO.out.1 HYO.out.2.1 HYO.out.2.2).set htn true)
              clear hto hev ht htn HST HEV
              go_wp2
              go_meet
              exact ⟨rfl, D', Y, _, HEV2, HO4⟩
            · have hx1 : (x == 0) = false := by simpa using hx0
              clear HST
              go_wp2
              go_meet
              exact ⟨rfl, D, X, v, HEV, HO3⟩
          case rest =>
            clear HO3 HEV HE3 HY3 HR3 HYO HYP HST
            obtain ⟨rfl, D, X, v, HEV, HO⟩ := hcut
            generalize wc = w7 at *
            have HLN := Lib.hid HEV.out.ln
            have HH := Lib.hid (fun (j : Nat) W (k : HoAt w g p q D X v W) => dhome_any D X (j : Int) W k.ds.dr (by have := HLN.out; have := HMN.out; omega))
            have HSP := Lib.hid (fun (j : Int) W (k : HoAt w g p q D X v W) => dspan_any D X j W k.ds.dr)
            have HEH := Lib.hid (fun (j : Nat) (hj : j < N) => HEV.out.home hj)
            go_wp2_with fail
            go_loopw [14] (fun jv wr => ∃ j : Nat, jv = .int .i64 j ∧ j ≤ N ∧ Hid (HoAt w g p q D X v wr)) (fun jv _ => N - (intOf jv).toNat)
            case atStart => exact ⟨0, rfl, Nat.zero_le _, HO⟩
            case round =>
              clear HO
              obtain ⟨j, rfl, hjn, HO⟩ := hrel
              by_cases hj : j < N
              · have hj' : (j : Int) < (N : Int) := by omega
                have hj6 : j < 6 := by have := HMN.out; omega
                have hj6' : (j : Int) < 6 := by omega
                have hwj : IntKind.i64.wrap ((j : Int) + 1) = (j : Int) + 1 := IntWalk.i64_in _ (by omega)
                obtain ⟨h1, h2, h3⟩ := HEH.out j hj
                have HH := Lib.hid (fun W k => HH.out j W k)
                have HS1 := Lib.hid (fun W k => HSP.out (j : Int) W k)
                have HS2 := Lib.hid (fun W k => HSP.out (homD D (j : Int)) W k)
                obtain ⟨⟨x0, x1, x2, xl⟩, -⟩ := HO.out.ds.db.all
                by_cases h0 : 0 ≤ homD D (j : Int)
                · rw [decide_eq_true h0] at h1
                  rw [h3 h0] at HS2
                  obtain ⟨bb, hbb⟩ : ∃ bb, bb = spnB D (j : Int) := ⟨_, rfl⟩
                  rw [← hbb] at h2 HS1
                  generalize spnD D (j : Int) = S1 at *
                  generalize spnD D (homD D (j : Int)) = S2 at *
                  generalize homD D (j : Int) = H at *
                  clear hbb h3
                  have hbc : bb = false ∨ (bb = true ∧ (H != (j : Int)) = false) := by
                    cases bb with
                    | false => exact .inl rfl
                    | true => exact .inr ⟨rfl, by simpa using h2 rfl⟩
                  clear h2
                  rcases hbc with rfl | ⟨rfl, hbj⟩
                  all_goals
                    go_wp2_with fail
                    clear x0 x1 x2 xl
                    refine (HH.out _ HO.out).mono ?_
                    rintro e w8 ⟨rfl, hb⟩
                    have HO8 := Lib.hid (HO.out.below hb)
                    clear hb
                    obtain ⟨⟨x0, x1, x2, xl⟩, -⟩ := HO8.out.ds.db.all
                    go_wp2_with fail
                    clear x0 x1 x2 xl
                    refine (HS1.out _ HO8.out).mono ?_
                    rintro e w9 ⟨rfl, hb⟩
                    have hb2 := hb.alloc hb.size (.cells #[.int .i64 S1.lo, .int .i64 S1.hi, .int .i64 S1.sh] 63)
                    have HO9 := Lib.hid (HO8.out.below hb2)
                    clear hb hb2
                    obtain ⟨⟨x0, x1, x2, xl⟩, -⟩ := HO9.out.ds.db.all
                    have hc := HO9.out.ev.c j hj6
                    rw [h1] at hc
                    have hql := HO9.out.ev.lt
                    go_wp2_with fail
                    clear x0 x1 x2 xl hc hql
                    refine (HS2.out _ HO9.out).mono ?_
                    rintro e w10 ⟨rfl, hb⟩
                    have hb2 := hb.alloc hb.size (.cells #[.int .i64 S2.lo, .int .i64 S2.hi, .int .i64 S2.sh] 63)
                    have HO10 := Lib.hid (HO9.out.below hb2)
                    clear hb hb2
                    go_wp2
                    exact ⟨⟨j + 1, by rw [Int.natCast_add]; rfl, by omega, HO10⟩, by simp [intOf]; omega⟩
                · rw [decide_eq_false h0] at h1
                  have hbf : spnB D (j : Int) = false := by
                    cases e : spnB D (j : Int) with
                    | false => rfl
                    | true => exact absurd (h2 e) (by omega)
                  rw [hbf] at HS1
                  generalize spnD D (j : Int) = S1 at *
                  generalize homD D (j : Int) = H at *
                  clear h2 h3 hbf
                  go_wp2_with fail
                  clear x0 x1 x2 xl
                  refine (HH.out _ HO.out).mono ?_
                  rintro e w8 ⟨rfl, hb⟩
                  have HO8 := Lib.hid (HO.out.below hb)
                  clear hb
                  obtain ⟨⟨x0, x1, x2, xl⟩, -⟩ := HO8.out.ds.db.all
                  go_wp2_with fail
                  clear x0 x1 x2 xl
                  refine (HS1.out _ HO8.out).mono ?_
                  rintro e w9 ⟨rfl, hb⟩
                  have hb2 := hb.alloc hb.size (.cells #[.int .i64 S1.lo, .int .i64 S1.hi, .int .i64 S1.sh] 63)
                  have HO9 := Lib.hid (HO8.out.below hb2)
                  clear hb hb2
                  have hc := HO9.out.ev.c j hj6
                  rw [h1] at hc
                  have hql := HO9.out.ev.lt
                  go_wp2
                  exact ⟨⟨j + 1, by rw [Int.natCast_add]; rfl, by omega, HO9⟩, by simp [intOf]; omega⟩
              · go_wp2
                exact ⟨⟨k + 1, D, X, v, by rw [Int.natCast_add]; rfl, by omega, HEV, HO⟩, by simp [intOf]; omega⟩
        · have HB := Lib.hid HO.out.ds.bel
          clear HO HEV
          go_wp2_with fail
          refine (HAW.out _).mono ?_
          rintro e w8 ⟨rfl, hb⟩
          have HBB := Lib.hid (HB.out.trans (hb.mono HB.out.size))
          clear hb
          go_wp2
          go_ret
          exact ⟨rfl, HBB.out⟩

/-! The row's step, as the guide's shell has it. -/
namespace directoryHomes
open Go.ChangeShapes Go.WideShapes Go.ChangeAt
open Go.ChangeMaps (open_string shut_string)
theorem own : ownKnob Try.prog.godebug = none := by kernel_rfl
theorem laidOut : laidOutB Try.prog = true := by kernel_rfl

set_option maxRecDepth 100000 in
theorem lifted (os : Os) (started : os.Started) (H : Type) (enc : TypeId × Value → H) :
    ReturnsInHanded {} Try.checked os 7 .any (Rows.directoryHomesSpec.pre6 enc Try.prog Try.f7 Rows.directoryHomesRow.domain false) (Rows.directoryHomesSpec.post enc Try.prog Try.f7 false true false false) := by
  refine returnsInHanded_of_change (C := Try.checked) own started (by kernel_rfl) Try.func7
    (ChangeSpec.witness6 (enc := enc) (C := Try.checked) false ⟨#[], #[.slice none 0 0], []⟩ 8 (by kernel_rfl) (by kernel_rfl) (by kernel_rfl) (by kernel_rfl)) ?_
  intro W base args ds gs before hval0 hW hcnd _
  have hval : ∀ (j : Nat) t v, Try.f7.params[j]? = some t → args[j]? = some v → Value.okWide Try.prog W .any base t v := hval0
  have hW' := hW
  obtain ⟨p, q, hA0, hV, rfl, hfz, hnd⟩ := hW
  have hA : DataW.TrodAll enc Try.prog W 0 (fun _ => true) true Try.f7.params.toList args.toList ds p := hA0
  rw [Try.params7] at hA hval
  obtain ⟨v0, vs0, d0, ds0, p0, q0, hargs, rfl, rfl, h0, r0⟩ := trodAll_cons hA
  obtain ⟨rfl, rfl, rfl⟩ := trodAll_nil r0
  obtain rfl : args = #[v0] := by cases args; simp_all
  obtain ⟨rfl, rfl⟩ := trodVars_none hV
  obtain ⟨a0, len0, cap0, rfl⟩ := okWide_slice Try.underlying45 (hval 0 45 v0 rfl rfl)
  have k0 := h0
  have lt0 : ∀ x ∈ p0, x.block < W.heap.size := by obtain ⟨m, hm⟩ := k0; exact DataW.trod_lt m _ _ _ hm
  obtain ⟨z0, w0⟩ : ∃ zs, Ns W W.heap.size (.slice a0 len0 cap0) zs := by
    obtain ⟨fuel, hf⟩ := h0
    rcases open_ints Try.underlying45 Try.underlying3 (by kernel_rfl) hf with ⟨hcs, _⟩ | ⟨x, l, c, zs, hcs, _, hl, hm, hz, _, hcell, hwz⟩
    · simp [Value.cells] at hcs
      obtain ⟨rfl, rfl, rfl⟩ := hcs
      exact ⟨[], Ns.nil⟩
    · simp [Value.cells] at hcs
      obtain ⟨rfl, rfl, rfl⟩ := hcs
      exact Ns.of_cells hl hm (by simpa using hz) hcell hwz
  clear hA0 hval0
  refine (DirectoryHomes_walk W a0 len0 cap0 z0 w0).mono fun e W' ⟨he, bel⟩ => ?_
  subst he
  exact ⟨_, rfl, _, _, _, [], _, [], hW', trodAll_mk1 (shut_bool Try.underlying4 _), (trodAll_cons_mk (Below.trod laidOut (by kernel_rfl) (of_decide_eq_true (by kernel_rfl)) k0 bel lt0) trodAll_mk0), rfl, bel.frame _, fun h => by cases h⟩

theorem over : Rows.directoryHomesRow.holds Try.pinned (OpenSpec.ofChange Rows.directoryHomesSpec) :=
  OpenClaim.holds_of_wide 7 Try.f7 rfl rfl rfl rfl rfl rfl rfl ⟨rfl, rfl, rfl, rfl, rfl⟩ rfl rfl rfl rfl rfl (by kernel_rfl) Try.func7 (by kernel_rfl)
    (of_decide_eq_true (by kernel_rfl)) (by unfold Func.isWrapper; first | (rw [if_pos (by decide +kernel)]; kernel_rfl) | (rw [if_neg (by decide +kernel)]; exact ⟨rfl, rfl⟩))
    (fun os started H enc _ => lifted os started H enc)

/-- The statement. -/
theorem proved : Rows.DirectoryHomesSaid := over
#print axioms proved
end directoryHomes
end Go.Proofs.Ytdilgeabcacbdaa
