/- What is proved here: shardqueuelaw10.DirectoryMoves returns true for every input and leaves its arguments as they were. No condition. -/
import Derived.Test.YtfkpkmcpepeaeaaJ17
import Derived.Test.YtfkpkmcpepeaeaaJ13
import Derived.Test.YtfkpkmcpepeaeaaJ18
import Derived.Test.YtfkpkmcpepeaeaaJ14
import Derived.ProofKit
import Derived.OpenShut
import Derived.ChangeOld
import Derived.Deep.DeepCutAuto
import Derived.Deep.RegionHeld3
namespace Go.Proofs.Ytfkpkmcpepeaeaa
open Go.RowKit
set_option linter.unusedVariables false

/-- What DirectoryMoves holds: a directory, a change, a span, the directory behind the change. -/
structure Mv10 (w : World) (pd pe ps px : Nat) (d : Dd) (X : Dx) (e : Ed) (s : Sp) (d' : Dd) (Y : Dx) (W : World) : Prop where
  a : Dh10 W pd d X
  eb : EB W pe e
  sb : SpB10 W ps s
  b : Dh10 W px d' Y
  bel : Below w.heap.size w W
theorem Mv10.below {w W W' : World} {pd pe ps px : Nat} {d : Dd} {X : Dx} {e : Ed} {s : Sp} {d' : Dd} {Y : Dx} (h : Mv10 w pd pe ps px d X e s d' Y W) (hb : Below W.heap.size W W') : Mv10 w pd pe ps px d X e s d' Y W' :=
  ⟨h.a.up hb, h.eb.up hb, h.sb.up hb, h.b.up hb, h.bel.trans (hb.mono h.bel.size)⟩
/-- The nine routes that are looked at last. -/
def nine10 (s : Sp) (e : Ed) : List Int := [s.lo, s.hi, e.md, e.md + 1, 0, 65535, max (s.lo - 1) 0, min (s.hi + 1) 65535, 5]
theorem nine10_ok {s : Sp} {e : Ed} (h1 : 0 ≤ s.lo ∧ s.lo ≤ 65535) (h2 : 0 ≤ s.hi ∧ s.hi ≤ 65535) (h3 : 0 ≤ e.md ∧ e.md ≤ 65534) : ∀ x ∈ nine10 s e, 0 ≤ x ∧ x ≤ 65535 := by
  intro x hx
  simp only [nine10, List.mem_cons, List.not_mem_nil, or_false] at hx
  rcases hx with rfl | rfl | rfl | rfl | rfl | rfl | rfl | rfl | rfl <;> omega
theorem nine10_cell (w : World) (s : Sp) (e : Ed) (t : TypeId) (k : Nat) (hk : k < 9) : (w.alloc (.cells #[.int .i64 s.lo, .int .i64 s.hi, .int .i64 e.md, .int .i64 (e.md + 1), .int .i64 0, .int .i64 65535, .int .i64 (max (s.lo - 1) 0), .int .i64 (min (s.hi + 1) 65535), .int .i64 5] t)).cell? ⟨w.heap.size, k, none⟩ = some (.int .i64 ((nine10 s e)[k]'hk)) := by
  match k, hk with
  | 0, _ => simp [go_sem, nine10]
  | 1, _ => simp [go_sem, nine10]
  | 2, _ => simp [go_sem, nine10]
  | 3, _ => simp [go_sem, nine10]
  | 4, _ => simp [go_sem, nine10]
  | 5, _ => simp [go_sem, nine10]
  | 6, _ => simp [go_sem, nine10]
  | 7, _ => simp [go_sem, nine10]
  | 8, _ => simp [go_sem, nine10]
theorem spn_rng {d : Dd} {j : Int} (hv : vaD d = 0) : (0 ≤ (spnD d j).lo ∧ (spnD d j).lo ≤ 65535) ∧ (0 ≤ (spnD d j).hi ∧ (spnD d j).hi ≤ 65535) := by
  unfold spnD
  by_cases h : vaD d = 0 ∧ 0 ≤ ixS d.l j
  · rw [if_pos h]
    obtain ⟨i, hi, hil, _, _⟩ := ixS_pos h.2
    rw [hi]
    have := ok_rng (ok_va hv) hil
    simp only [Int.toNat_natCast]
    omega
  · rw [if_neg h]
    refine ⟨⟨?_, ?_⟩, ?_, ?_⟩ <;> decide

open Classical in
set_option maxHeartbeats 4000000 in
set_option maxRecDepth 20000 in
theorem DirectoryMoves_walk (w : World) (a0 : Option Addr) (l0 c0 : Nat) (zs : List Int) (hz : Ns w w.heap.size (.slice a0 l0 c0) zs) :
    Calls Try.prog 5 #[.slice a0 l0 c0] w fun e w' => e = .returned (.bool true) ∧ Below w.heap.size w w' := by
  have HNS := Lib.hid (new_src a0 l0 c0 zs w hz)
  have HAW := Lib.hid (fun W => awake10_any W)
  clear hz
  go_enter Try.func5, Try.ntmps5
  go_wp2_with fail
  refine HNS.out.mono ?_
  rintro e w2 ⟨g, rfl, hs, hb⟩
  have HS := Lib.hid hs
  have HB := Lib.hid hb
  have HGW := Lib.hid (show w.heap.size ≤ g from hs.1)
  clear hs hb HNS
  go_wp2_with fail
  refine (directory_any w.heap.size g _ HS.out).mono ?_
  rintro e w3 ⟨D, X, rfl, hv, hdr, hnw, hs, hg⟩
  have HVA := Lib.hid hv
  have HD0 := Lib.hid (DsAt.start (w := w) hs hdr (hnw.off HS.out.2.1) HGW.out (Nat.le_refl _) (HB.out.grown hg HB.out.size (fun k e => by injection e with e; subst e; exact HGW.out)) 25)
  clear hv hs hg hdr hnw HS HB
  go_upto_region 3 with (fail)
  obtain ⟨p, hp⟩ : ∃ p, p = w3.heap.size := ⟨_, rfl⟩
  rw [← hp] at HD0 ⊢
  generalize w3.alloc (.cells #[.int .i64 D.vn, .slice X.A D.l.length X.c, .slice X.A2 D.F.length X.c2] 25) = w4 at *
  clear hp
  have HFL := Lib.hid (show 1 ≤ D.F.length ∧ D.F.length ≤ 6 from by have h1 := (ok_va HVA.out).rg; unfold rgD at h1; omega)
  obtain ⟨⟨x0, x1, x2, xl⟩, -⟩ := HD0.out.db.all
  go_wp2_with fail
  clear x0 x1 x2 xl
  refine (edit_any w.heap.size g _ HD0.out.src (D.F.length : Int) (by have := HFL.out; omega) (by have := HFL.out; omega)).mono ?_
  rintro e w5 ⟨E, rfl, hk, -, -, hmd, hs, hg⟩
  have HE5 := Lib.hid (And.intro hk hmd)
  have HD1 := Lib.hid ((HD0.out.turn hs hg).below ((Below.refl _ _).alloc (Nat.le_refl _) (.cells #[.int .i64 E.kd, .int .i64 E.fr, .int .i64 E.to, .int .i64 E.md] 27)))
  have HE1 := Lib.hid (EB.start w5 E 27)
  clear hk hmd hs hg HD0
  go_upto_region 4 with (fail)
  obtain ⟨q, hq⟩ : ∃ p, p = w5.heap.size := ⟨_, rfl⟩
  rw [← hq] at HE1 ⊢
  clear hq
  generalize w5.alloc (.cells #[.int .i64 E.kd, .int .i64 E.fr, .int .i64 E.to, .int .i64 E.md] 27) = w6 at *
  obtain ⟨⟨x0, x1, x2, xl⟩, -⟩ := HD1.out.db.all
  obtain ⟨y0, y1, y2, y3, yl⟩ := HE1.out
  go_wp2_with fail
  clear x0 x1 x2 xl y0 y1 y2 y3 yl
  refine (dspan_any D X E.fr _ HD1.out.dr).mono ?_
  rintro e w7 ⟨rfl, hb⟩
  have HSR := Lib.hid (spn_rng (j := E.fr) HVA.out)
  obtain ⟨S, hS⟩ : ∃ S, S = spnD D E.fr := ⟨_, rfl⟩
  rw [← hS] at HSR ⊢
  clear hS
  have HA := ((Below.refl w7.heap.size w7).alloc (Nat.le_refl _) (.cells #[.int .i64 S.lo, .int .i64 S.hi, .int .i64 S.sh] 43))
  have HD2 := Lib.hid ((HD1.out.below hb).below HA)
  have HE2 := Lib.hid ((HE1.out.up hb).up HA)
  have HSB := Lib.hid (SpB10.start w7 S 43)
  clear hb HA HD1 HE1
  go_upto_region 5 with (fail)
  obtain ⟨s, hs⟩ : ∃ p, p = w7.heap.size := ⟨_, rfl⟩
  rw [← hs] at HSB ⊢
  clear hs
  generalize w7.alloc (.cells #[.int .i64 S.lo, .int .i64 S.hi, .int .i64 S.sh] 43) = w8 at *
  obtain ⟨⟨x0, x1, x2, xl⟩, -⟩ := HD2.out.db.all
  obtain ⟨y0, y1, y2, y3, yl⟩ := HE2.out
  go_wp2_with fail
  clear x0 x1 x2 xl y0 y1 y2 y3 yl
  refine (dapply_any D X E _ HD2.out.dr (by have := okd_len HVA.out; omega)).mono ?_
  rintro e w9 ⟨Y, rfl, hnw, hdr, hb⟩
  have HMV := Lib.hid (fun (hx : apE D E = 0) (r : Int) (h0 : 0 ≤ r) (h1 : r ≤ 65535) => own_move hx h0 h1)
  have HVB := Lib.hid (fun (hx : apE D E = 0) => (apD_ok hx).1)
  obtain ⟨D', hD'⟩ : ∃ D', D' = apD D E := ⟨_, rfl⟩
  obtain ⟨x, hx⟩ : ∃ x, x = apE D E := ⟨_, rfl⟩
  rw [← hD', ← hx] at HMV HVB
  rw [← hD'] at hdr ⊢
  rw [← hx]
  clear hD' hx
  have HA := ((Below.refl w9.heap.size w9).alloc (Nat.le_refl _) (.cells #[.int .i64 D'.vn, .slice Y.A D'.l.length Y.c, .slice Y.A2 D'.F.length Y.c2] 25))
  have HDB := Lib.hid (Dh10.start hdr 25)
  have HD3 := Lib.hid ((HD2.out.below hb).below HA)
  have HE3 := Lib.hid ((HE2.out.up hb).up HA)
  have HS3 := Lib.hid ((HSB.out.up hb).up HA)
  clear hb HA HD2 HE2 HSB hnw hdr
  go_upto_region 6 with (fail)
  obtain ⟨z, hz⟩ : ∃ p, p = w9.heap.size := ⟨_, rfl⟩
  rw [← hz] at HDB ⊢
  clear hz
  generalize w9.alloc (.cells #[.int .i64 D'.vn, .slice Y.A D'.l.length Y.c, .slice Y.A2 D'.F.length Y.c2] 25) = w10 at *
  have HM := Lib.hid (show Mv10 w p q s z D X E S D' Y w10 from ⟨⟨HD3.out.db, HD3.out.dr⟩, HE3.out, HS3.out, HDB.out, HD3.out.bel⟩)
  clear HDB HD3 HE3 HS3
  by_cases hx0 : x = 0
  · have HMW := Lib.hid (HMV.out hx0)
    clear HMV HVB
    subst hx0
    go_wp2_with fail
    go_loopw [10] (fun iv wr => ∃ i : Nat, iv = .int .i64 i ∧ i ≤ 70 ∧ Hid (Mv10 w p q s z D X E S D' Y wr)) (fun iv _ => 70 - (intOf iv).toNat)
    case atStart => exact ⟨0, rfl, by omega, HM⟩
    case round =>
      clear HM
      obtain ⟨i, rfl, hi, HM⟩ := hrel
      by_cases hlt : i < 70
      · have hlt' : (i : Int) < 70 := by omega
        have hw0 : IntKind.i64.wrap ((i : Int) + 1) = (i : Int) + 1 := IntWalk.i64_in _ (by omega)
        have hw1 : IntKind.i64.wrap ((i : Int) * 1000) = (i : Int) * 1000 := IntWalk.i64_in _ (by omega)
        obtain ⟨T, hT⟩ : ∃ T : Int, T = ((i : Int) * 1000).tmod 65536 := ⟨_, rfl⟩
        have hT2 : 0 ≤ T ∧ T ≤ 65535 := by rw [hT, Int.tmod_eq_emod_of_nonneg (show (0 : Int) ≤ (i : Int) * 1000 by omega)]; omega
        have hw2 : IntKind.i64.wrap T = T := IntWalk.i64_in _ (by omega)
        have HTT := Lib.hid hT2
        have hT' : ((i : Int) * 1000).tmod 65536 = T := hT.symm
        clear hT hT2
        go_upto_if 46 with (fail)
        go_cut [11] (fun s11 wx => ∃ R : Int, s11 = .int .i64 R ∧ (0 ≤ R ∧ R ≤ 65535) ∧ Hid (Mv10 w p q s z D X E S D' Y wx))
        case first =>
          by_cases h60 : 60 < i
          · obtain ⟨k, hk⟩ : ∃ k, i = k + 61 := ⟨i - 61, by omega⟩
            have hk9 : k < 9 := by omega
            have hk9' : (k : Int) < 9 := by omega
            have e4 : IntKind.i64.wrap (((k + 61 : Nat) : Int) - 61) = (k : Int) := by rw [show ((k + 61 : Nat) : Int) - 61 = (k : Int) by omega]; exact IntWalk.i64_in _ (by omega)
            subst hk
            have h60' : (60 : Int) < ((k + 61 : Nat) : Int) := by omega
            obtain ⟨⟨c0, c1, c2⟩, cl⟩ := HM.out.sb
            obtain ⟨y0, y1, y2, y3, yl⟩ := HM.out.eb
            have e1 : IntKind.i64.wrap (E.md + 1) = E.md + 1 := IntWalk.i64_in _ (by have := HE5.out; omega)
            have e2 : IntKind.i64.wrap (S.lo - 1) = S.lo - 1 := IntWalk.i64_in _ (by have := HSR.out; omega)
            have e3 : IntKind.i64.wrap (S.hi + 1) = S.hi + 1 := IntWalk.i64_in _ (by have := HSR.out; omega)
            have hrow := nine10_cell wr S E 3 k hk9
            have HMN := Lib.hid (HM.out.below ((Below.refl _ _).alloc (Nat.le_refl _) (.cells #[.int .i64 S.lo, .int .i64 S.hi, .int .i64 E.md, .int .i64 (E.md + 1), .int .i64 0, .int .i64 65535, .int .i64 (max (S.lo - 1) 0), .int .i64 (min (S.hi + 1) 65535), .int .i64 5] 3)))
            have HNR := Lib.hid (nine10_ok HSR.out.1 HSR.out.2 HE5.out.2 _ (List.getElem_mem (show k < (nine10 S E).length from hk9)))
            clear HM
            generalize (nine10 S E)[k] = R at *
            go_wp2
            go_meet
            exact ⟨R, rfl, HNR.out, HMN⟩
          · have h60' : ¬ (60 : Int) < (i : Int) := by omega
            go_wp2
            go_meet
            exact ⟨T, rfl, HTT.out, HM⟩
        case rest =>
          clear HM HTT hT' hw1 hw2
          obtain ⟨R, rfl, hR, HM⟩ := hcut
          generalize wc = w11 at *
          have HRR := Lib.hid hR
          clear hR
          have HMO := Lib.hid (HMW.out R HRR.out.1 HRR.out.2)
          obtain ⟨O, hO⟩ : ∃ O, O = ownD D R := ⟨_, rfl⟩
          obtain ⟨O', hO'⟩ : ∃ O', O' = ownD D' R := ⟨_, rfl⟩
          have HO1 := Lib.hid (fun W (k : Mv10 w p q s z D X E S D' Y W) => downer_any D X R W k.a.dr)
          have HO2 := Lib.hid (fun W (k : Mv10 w p q s z D X E S D' Y W) => downer_any D' Y R W k.b.dr)
          rw [← hO] at HMO HO1
          rw [← hO'] at HMO HO2
          clear hO hO'
          obtain ⟨⟨x0, x1, x2, xl⟩, -⟩ := HM.out.a.db.all
          go_wp2_with fail
          clear x0 x1 x2 xl
          refine (HO1.out _ HM.out).mono ?_
          rintro e w12 ⟨rfl, hb⟩
          have HM2 := Lib.hid (HM.out.below hb)
          clear hb HM
          have hkk := HE5.out.1
          by_cases g1 : O = E.fr
          · have g1' : (O == E.fr) = true := by simpa using g1
            by_cases g2 : E.kd = 2
            · have g2' : (E.kd == 2) = true := by simpa using g2
              have HQ := Lib.hid (show O' = E.to from by rw [HMO.out, if_pos ⟨g1, .inl g2⟩])
              rw [HQ.out] at HO2
              clear HMO HQ hkk g1 g2
              obtain ⟨y0, y1, y2, y3, yl⟩ := HM2.out.eb
              obtain ⟨⟨x0, x1, x2, xl⟩, -⟩ := HM2.out.b.db.all
              go_wp2_with fail
              clear x0 x1 x2 xl y0 y1 y2 y3 yl
              refine (HO2.out _ HM2.out).mono ?_
              rintro e w13 ⟨rfl, hb⟩
              have HM3 := Lib.hid (HM2.out.below hb)
              clear hb HM2
              go_wp2
              go_roundw
              case rel => exact ⟨i + 1, by go_num, by omega, HM3⟩
              case measure => simp [intOf]; omega
            · have g2' : (E.kd == 2) = false := by simpa using g2
              by_cases g3 : E.md < R
              · have HQ := Lib.hid (show O' = E.to from by rw [HMO.out, if_pos ⟨g1, .inr g3⟩])
                rw [HQ.out] at HO2
                clear HMO HQ hkk
                obtain ⟨y0, y1, y2, y3, yl⟩ := HM2.out.eb
                obtain ⟨⟨x0, x1, x2, xl⟩, -⟩ := HM2.out.b.db.all
                go_wp2_with fail
                clear x0 x1 x2 xl y0 y1 y2 y3 yl
                refine (HO2.out _ HM2.out).mono ?_
                rintro e w13 ⟨rfl, hb⟩
                have HM3 := Lib.hid (HM2.out.below hb)
                clear hb HM2
                go_wp2
                go_roundw
                case rel => exact ⟨i + 1, by go_num, by omega, HM3⟩
                case measure => simp [intOf]; omega
              · have HQ := Lib.hid (show O' = O from by rw [HMO.out, if_neg (fun h => by rcases h.2 with h2 | h2; exact g2 h2; exact g3 h2)])
                rw [HQ.out] at HO2
                clear HMO HQ hkk
                obtain ⟨y0, y1, y2, y3, yl⟩ := HM2.out.eb
                obtain ⟨⟨x0, x1, x2, xl⟩, -⟩ := HM2.out.b.db.all
                go_wp2_with fail
                clear x0 x1 x2 xl y0 y1 y2 y3 yl
                refine (HO2.out _ HM2.out).mono ?_
                rintro e w13 ⟨rfl, hb⟩
                have HM3 := Lib.hid (HM2.out.below hb)
                clear hb HM2
                go_wp2
                go_roundw
                case rel => exact ⟨i + 1, by go_num, by omega, HM3⟩
                case measure => simp [intOf]; omega
          · have g1' : (O == E.fr) = false := by simpa using g1
            have HQ := Lib.hid (show O' = O from by rw [HMO.out, if_neg (fun h => g1 h.1)])
            rw [HQ.out] at HO2
            clear HMO HQ hkk
            obtain ⟨y0, y1, y2, y3, yl⟩ := HM2.out.eb
            obtain ⟨⟨x0, x1, x2, xl⟩, -⟩ := HM2.out.b.db.all
            go_wp2_with fail
            clear x0 x1 x2 xl y0 y1 y2 y3 yl
            refine (HO2.out _ HM2.out).mono ?_
            rintro e w13 ⟨rfl, hb⟩
            have HM3 := Lib.hid (HM2.out.below hb)
            clear hb HM2
            go_wp2
            go_roundw
            case rel => exact ⟨i + 1, by go_num, by omega, HM3⟩
            case measure => simp [intOf]; omega
      · obtain rfl : i = 70 := by omega
        clear hlt hi
        go_wp2_with fail
        refine (HAW.out _).mono ?_
        rintro e w11 ⟨rfl, hb⟩
        have HF := Lib.hid (HM.out.below hb)
        clear hb
        go_wp2
        go_ret
        exact ⟨rfl, HF.out.bel⟩
  · have hx1 : (x != 0) = true := bne_iff_ne.2 hx0
    clear HMV HVB
    go_wp2_with fail
    refine (HAW.out _).mono ?_
    rintro e w11 ⟨rfl, hb⟩
    have HF := Lib.hid (HM.out.below hb)
    clear hb
    go_wp2
    go_ret
    exact ⟨rfl, HF.out.bel⟩

/-! The row's step, as the guide's shell has it. -/
namespace directoryMoves
open Go.ChangeShapes Go.WideShapes Go.ChangeAt
open Go.ChangeMaps (open_string shut_string)
theorem own : ownKnob Try.prog.godebug = none := by kernel_rfl
theorem laidOut : laidOutB Try.prog = true := by kernel_rfl

set_option maxRecDepth 100000 in
theorem lifted (os : Os) (started : os.Started) (H : Type) (enc : TypeId × Value → H) :
    ReturnsInHanded {} Try.checked os 5 .any (Rows.directoryMovesSpec.pre6 enc Try.prog Try.f5 Rows.directoryMovesRow.domain false) (Rows.directoryMovesSpec.post enc Try.prog Try.f5 false true false false) := by
  refine returnsInHanded_of_change (C := Try.checked) own started (by kernel_rfl) Try.func5
    (ChangeSpec.witness6 (enc := enc) (C := Try.checked) false ⟨#[], #[.slice none 0 0], []⟩ 8 (by kernel_rfl) (by kernel_rfl) (by kernel_rfl) (by kernel_rfl)) ?_
  intro W base args ds gs before hval0 hW hcnd _
  have hval : ∀ (j : Nat) t v, Try.f5.params[j]? = some t → args[j]? = some v → Value.okWide Try.prog W .any base t v := hval0
  have hW' := hW
  obtain ⟨p, q, hA0, hV, rfl, hfz, hnd⟩ := hW
  have hA : DataW.TrodAll enc Try.prog W 0 (fun _ => true) true Try.f5.params.toList args.toList ds p := hA0
  rw [Try.params5] at hA hval
  obtain ⟨v0, vs0, d0, ds0, p0, q0, hargs, rfl, rfl, h0, r0⟩ := trodAll_cons hA
  obtain ⟨rfl, rfl, rfl⟩ := trodAll_nil r0
  obtain rfl : args = #[v0] := by cases args; simp_all
  obtain ⟨rfl, rfl⟩ := trodVars_none hV
  obtain ⟨a0, len0, cap0, rfl⟩ := okWide_slice Try.underlying23 (hval 0 23 v0 rfl rfl)
  have k0 := h0
  have lt0 : ∀ x ∈ p0, x.block < W.heap.size := by obtain ⟨m, hm⟩ := k0; exact DataW.trod_lt m _ _ _ hm
  obtain ⟨z0, w0⟩ : ∃ zs, Ns W W.heap.size (.slice a0 len0 cap0) zs := by
    obtain ⟨fuel, hf⟩ := h0
    rcases open_ints Try.underlying23 Try.underlying3 (by kernel_rfl) hf with ⟨hcs, _⟩ | ⟨x, l, c, zs, hcs, _, hl, hm, hz, _, hcell, hwz⟩
    · simp [Value.cells] at hcs
      obtain ⟨rfl, rfl, rfl⟩ := hcs
      exact ⟨[], Ns.nil⟩
    · simp [Value.cells] at hcs
      obtain ⟨rfl, rfl, rfl⟩ := hcs
      exact Ns.of_cells hl hm (by simpa using hz) hcell hwz
  clear hA0 hval0
  refine (DirectoryMoves_walk W a0 len0 cap0 z0 w0).mono fun e W' ⟨he, bel⟩ => ?_
  subst he
  exact ⟨_, rfl, _, _, _, [], _, [], hW', trodAll_mk1 (shut_bool Try.underlying4 _), (trodAll_cons_mk (Below.trod laidOut (by kernel_rfl) (of_decide_eq_true (by kernel_rfl)) k0 bel lt0) trodAll_mk0), rfl, bel.frame _, fun h => by cases h⟩

theorem over : Rows.directoryMovesRow.holds Try.pinned (OpenSpec.ofChange Rows.directoryMovesSpec) :=
  OpenClaim.holds_of_wide 5 Try.f5 rfl rfl rfl rfl rfl rfl rfl ⟨rfl, rfl, rfl, rfl, rfl⟩ rfl rfl rfl rfl rfl (by kernel_rfl) Try.func5 (by kernel_rfl)
    (of_decide_eq_true (by kernel_rfl)) (by unfold Func.isWrapper; first | (rw [if_pos (by decide +kernel)]; kernel_rfl) | (rw [if_neg (by decide +kernel)]; exact ⟨rfl, rfl⟩))
    (fun os started H enc _ => lifted os started H enc)

/-- The statement. -/
theorem proved : Rows.DirectoryMovesSaid := over
#print axioms proved
end directoryMoves
end Go.Proofs.Ytfkpkmcpepeaeaa
