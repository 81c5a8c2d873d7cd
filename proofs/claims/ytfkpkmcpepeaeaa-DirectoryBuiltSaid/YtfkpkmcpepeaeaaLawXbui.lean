/- What is proved here: shardqueuelaw10.DirectoryBuilt returns true for every input and leaves its arguments as they were. No condition. -/
import Derived.Test.YtfkpkmcpepeaeaaJ18
import Derived.Test.YtfkpkmcpepeaeaaJ13
import Derived.Test.YtfkpkmcpepeaeaaJ17
import Derived.Test.YtfkpkmcpepeaeaaJ14
import Derived.ProofKit
import Derived.OpenShut
import Derived.ChangeOld
import Derived.Deep.DeepCutAuto
import Derived.Deep.RegionHeld3
namespace Go.Proofs.Ytfkpkmcpepeaeaa
open Go.RowKit
set_option linter.unusedVariables false

theorem ok_ne {d : Dd} (hv : vaD d = 0) : 0 < d.l.length := by
  cases h : d.l with
  | nil =>
    have := ok_chn (ok_va hv)
    rw [h] at this
    exact absurd this (by unfold chN; decide)
  | cons a l => simp
theorem ics_get {F : List Int} {x : Nat} (h : x < F.length) : (ics F)[x]? = some (.int .i64 (ig F x)) := by rw [ig_get h]; simp [ics, h, i64v]
theorem info_in : (Try.prog.info? 3).map (fun i => (i.zero, i.size, i.bytes)) = some (some (.int .i64 0), 1, 8) := by kernel_rfl
/-- A source, a directory in a box, a change in a box. -/
structure Bu10 (w : World) (g p q : Nat) (d : Dd) (X : Dx) (e : Ed) (W : World) : Prop where
  ds : DsAt w w.heap.size g p d X W
  eb : EB W q e
  qg : q ≠ g
abbrev C7 (p q : Nat) (d : Dd) (X : Dx) (e : Ed) (W : World) : Prop :=
  (W.cell? ⟨p, 0, none⟩ = some (.int .i64 d.vn) ∧ W.cell? ⟨p, 1, none⟩ = some (.slice X.A d.l.length X.c) ∧ W.cell? ⟨p, 2, none⟩ = some (.slice X.A2 d.F.length X.c2)) ∧
  (W.cell? ⟨q, 0, none⟩ = some (.int .i64 e.kd) ∧ W.cell? ⟨q, 1, none⟩ = some (.int .i64 e.fr) ∧ W.cell? ⟨q, 2, none⟩ = some (.int .i64 e.to) ∧ W.cell? ⟨q, 3, none⟩ = some (.int .i64 e.md))
section
variable {w W W' : World} {g p q c1 q2 c2 : Nat} {d : Dd} {X : Dx} {e : Ed}
theorem Bu10.below (h : Bu10 w g p q d X e W) (hb : Below W.heap.size W W') : Bu10 w g p q d X e W' := ⟨h.ds.below hb, h.eb.up hb, h.qg⟩
theorem Bu10.drew (h : Bu10 w g p q d X e W) : Bu10 w g p q d X e W.drew := h.below (Below.refl _ _).drew
theorem Bu10.turn (h : Bu10 w g p q d X e W) (hs : SrcAt W' w.heap.size g) (hg : W.grownBy W' (some g)) : Bu10 w g p q d X e W' := ⟨h.ds.turn hs hg, h.eb.grown hg h.qg, h.qg⟩
theorem Bu10.c (h : Bu10 w g p q d X e W) : C7 p q d X e W := ⟨⟨h.ds.db.c0, h.ds.db.c1, h.ds.db.c2⟩, h.eb.c0, h.eb.c1, h.eb.c2, h.eb.c3⟩
theorem Bf10.k (k : Bf10 w g p q c1 q2 c2 d W) : K3 p d ⟨some ⟨q, 0, none⟩, c1, some ⟨q2, 0, none⟩, c2⟩ W := ⟨k.db.c0, k.db.c1, k.db.c2⟩
end

open Classical in
set_option maxHeartbeats 8000000 in
set_option maxRecDepth 20000 in
theorem DirectoryBuilt_walk (w : World) (a0 : Option Addr) (l0 c0 : Nat) (zs : List Int) (hz : Ns w w.heap.size (.slice a0 l0 c0) zs) :
    Calls Try.prog 4 #[.slice a0 l0 c0] w fun e w' => e = .returned (.bool true) ∧ Below w.heap.size w w' := by
  have HNS := Lib.hid (new_src a0 l0 c0 zs w hz)
  have HAW := Lib.hid (fun W => awake10_any W)
  obtain ⟨i0, hi0, hz0⟩ := Option.map_eq_some_iff.1 info_sp
  obtain ⟨i1, hi1, hz1⟩ := Option.map_eq_some_iff.1 info_in
  simp only [Prod.mk.injEq] at hz0 hz1
  have HI := Lib.hid hi0
  have HZ := Lib.hid hz0
  have HI1 := Lib.hid hi1
  have HZ1 := Lib.hid hz1
  clear hz hi0 hz0 hi1 hz1
  go_enter Try.func4, Try.ntmps4
  go_wp2_with fail
  refine HNS.out.mono ?_
  rintro e w2 ⟨g, rfl, hs, hb⟩
  have HS := Lib.hid hs
  have HB := Lib.hid hb
  have HGW := Lib.hid (show w.heap.size ≤ g from hs.1)
  clear hs hb HNS
  go_wp2_with fail
  refine (directory_any w.heap.size g _ HS.out).mono ?_
  rintro e w3 ⟨D, X, rfl, hv, hdr, hnw, hs, hg⟩
  have HVA := Lib.hid hv
  have HD0 := Lib.hid (DsAt.start (w := w) hs hdr (hnw.off HS.out.2.1) HGW.out (Nat.le_refl _) (HB.out.grown hg HB.out.size (fun k e => by injection e with e; subst e; exact HGW.out)) 25)
  have HGP := Lib.hid (show g < w3.heap.size from hs.2.1)
  clear hv hs hg hdr hnw HS HB
  go_upto_region 3 with (fail)
  obtain ⟨p, hp⟩ : ∃ p, p = w3.heap.size := ⟨_, rfl⟩
  rw [← hp] at HD0 HGP ⊢
  generalize w3.alloc (.cells #[.int .i64 D.vn, .slice X.A D.l.length X.c, .slice X.A2 D.F.length X.c2] 25) = w4 at *
  clear hp
  have HFL := Lib.hid (show (1 ≤ D.F.length ∧ D.F.length ≤ 6) ∧ D.l.length ≤ 6 ∧ 0 < D.l.length from by
    have h1 := (ok_va HVA.out).rg
    unfold rgD at h1
    have h2 := okd_len HVA.out
    have h3 := ok_ne HVA.out
    omega)
  go_wp2_with fail
  go_loopw [5] (fun iv wr => ∃ i : Nat, iv = .int .i64 i ∧ i ≤ 6 ∧ Hid (DsAt w w.heap.size g p D X wr)) (fun iv _ => 6 - (intOf iv).toNat)
  case atStart => exact ⟨0, rfl, by omega, HD0⟩
  case round =>
    clear HD0
    obtain ⟨i, rfl, i6, HD⟩ := hrel
    by_cases hi : i < 6
    · have hi' : (i : Int) < 6 := by omega
      have hw1 : IntKind.i64.wrap ((D.F.length : Int) + 1) = (D.F.length : Int) + 1 := IntWalk.i64_in _ (by have := HFL.out; omega)
      obtain ⟨⟨x0, x1, x2, xl⟩, -⟩ := HD.out.db.all
      go_wp2_with fail
      clear x0 x1 x2 xl
      refine (edit_any w.heap.size g _ HD.out.src ((D.F.length : Int) + 1) (by have := HFL.out; omega) (by have := HFL.out; omega)).mono ?_
      rintro e w5 ⟨E, rfl, -, -, -, -, hs, hg⟩
      have HB5 := Lib.hid (show Bu10 w g p w5.heap.size D X E (w5.alloc (.cells #[.int .i64 E.kd, .int .i64 E.fr, .int .i64 E.to, .int .i64 E.md] 27)) from ⟨(HD.out.turn hs hg).below ((Below.refl _ _).alloc (Nat.le_refl _) _), EB.start w5 E _, by have := hs.2.1; omega⟩)
      clear hs hg HD hw1
      go_upto_region 7 with (fail)
      obtain ⟨q, hq⟩ : ∃ p, p = w5.heap.size := ⟨_, rfl⟩
      rw [← hq] at HB5 ⊢
      clear hq
      generalize w5.alloc (.cells #[.int .i64 E.kd, .int .i64 E.fr, .int .i64 E.to, .int .i64 E.md] 27) = w6 at *
      have HM := Lib.hid HB5.out.drew
      have HS := Lib.hid HM.out.c
      have HAG := Lib.hid (fun ro sl W (k : Bu10 w g p q D X E W) => agrees10_any D X E ro sl W k.ds.dr (by have := HFL.out; omega) (by have := HFL.out; omega))
      clear HB5
      go_wp2
      go_region_held3 (fun W => C7 p q D X E W)
        (first | with_reducible exact HS.out)
        (first
        | (go_at_call 15; (with_reducible refine (n_any w.heap.size g _ HM.out.ds.src 65536 (by omega) (by omega)).mono ?_); rintro e w7 ⟨y, rfl, _, _, hs, hg⟩; have HM := Lib.hid (HM.out.turn hs hg); have HS := Lib.hid HM.out.c; clear hs hg)
        | (go_at_call 16; (with_reducible refine (range2_any w.heap.size g _ HM.out.ds.src (-1) 6 (by omega) (by omega) (by omega)).mono ?_); rintro e w8 ⟨z, rfl, _, _, hs, hg⟩; have HM := Lib.hid (HM.out.turn hs hg); have HS := Lib.hid HM.out.c; clear hs hg)
        | (go_at_call 10; (with_reducible refine (HAG.out _ _ _ HM.out).mono ?_); rintro e w9 ⟨rfl, hb⟩; have HM := Lib.hid (HM.out.below hb); have HS := Lib.hid HM.out.c; clear hb))
      all_goals
        have HFI := Lib.hid HM.out.ds
        clear HS HM HAG
        go_wp2
        go_roundw
        case rel => exact ⟨i + 1, by go_num, by omega, HFI⟩
        case measure => simp [intOf]; omega
    · obtain rfl : i = 6 := by omega
      clear hi i6
      have HRD := Lib.hid HD.out.dr.pl.rd
      obtain ⟨⟨x0, x1, x2, xl⟩, f0, f1, f2⟩ := HD.out.db.all
      go_upto_region 10 with (at_builtin; refine wpList_append_rd _ rfl (.const (.slice none 0 0)) (.tmp 30) 22 rfl wr.heap.size 43 i0 _ 3 24 Try.underlying22 HI.out HZ.out.1 HZ.out.2.1 HZ.out.2.2 rfl (by omega) (.slice none 0 0) 0 [] rfl (World.ownsRow_nil _ _ _ _) wr.heap.size X.A D.l.length X.c (scs D.l) rfl HRD.out (scs_one D.l) (by have := HFL.out; unfold maxLen; omega) (by have := HFL.out; omega) (Nat.le_refl _) ?_; intro v4 w4 hown4 hg4 hat4; rw [Nat.zero_add, List.nil_append] at hown4; obtain ⟨q, cap, rfl, hq, hle, hmx, hrow⟩ := own_rb hown4 (by have := HFL.out; omega); have HB4 := Lib.hid ((Below.refl wr.heap.size wr).grown hg4 (Nat.le_refl _) (fun k e => by simp [Value.ownBlock] at e)); have HN5 := Lib.hid (HD.out.one HGP.out HB4.out hrow hq ⟨hle, hmx⟩); clear x0 x1 x2 xl f0 f1 f2; obtain ⟨⟨x0, x1, x2, xl⟩, f0, f1, f2⟩ := (HD.out.below HB4.out).db.all; clear hown4 hg4 hat4 hq hle hmx hrow)
      clear x0 x1 x2 xl f0 f1 f2 HB4 HRD
      generalize w4.setCell ⟨p, 1, none⟩ (.slice (some ⟨q, 0, none⟩) D.l.length cap) = w5 at *
      have HRH := Lib.hid HN5.out.fl.rd
      obtain ⟨⟨x0, x1, x2, xl⟩, f0, f1, f2⟩ := HN5.out.db.all
      go_upto_region 11 with (at_builtin; refine wpList_append_rd _ rfl (.const (.slice none 0 0)) (.tmp 34) 23 rfl w5.heap.size 3 i1 _ 1 8 Try.underlying23 HI1.out HZ1.out.1 HZ1.out.2.1 HZ1.out.2.2 rfl (by omega) (.slice none 0 0) 0 [] rfl (World.ownsRow_nil _ _ _ _) w5.heap.size X.A2 D.F.length X.c2 (ics D.F) rfl HRH.out (ics_one D.F) (by have := HFL.out; unfold maxLen; omega) (by have := HFL.out; omega) (Nat.le_refl _) ?_; intro v6 w6 hown6 hg6 hat6; rw [Nat.zero_add, List.nil_append] at hown6; obtain ⟨q2, cap2, rfl, hq, hle, hmx, hrow⟩ := own_rb hown6 (by have := HFL.out; omega); have HB6 := Lib.hid ((Below.refl w5.heap.size w5).grown hg6 (Nat.le_refl _) (fun k e => by simp [Value.ownBlock] at e)); have HW7 := Lib.hid (HN5.out.two HB6.out hrow hq ⟨hle, hmx⟩); clear x0 x1 x2 xl f0 f1 f2; obtain ⟨⟨x0, x1, x2, xl⟩, f0, f1, f2⟩ := (HN5.out.db.up HB6.out).all; clear hown6 hg6 hat6 hq hle hmx hrow)
      clear x0 x1 x2 xl f0 f1 f2 HB6 HRH
      generalize w6.setCell ⟨p, 2, none⟩ (.slice (some ⟨q2, 0, none⟩) D.F.length cap2) = w7 at *
      clear HD HN5
      go_wp2_with fail
      refine (n_any w.heap.size g _ HW7.out.src 5 (by omega) (by omega)).mono ?_
      rintro e w8 ⟨j, rfl, j0, j1, hs, hg⟩
      have HW := Lib.hid (HW7.out.turn hs hg)
      have HLN := Lib.hid (show D.l.length = D.l.length ∧ D.F.length = D.F.length from ⟨rfl, rfl⟩)
      clear hs hg HW7
      have HOR := Lib.hid (fun x (hx : x < D.l.length) => ok_rng (ok_va HVA.out) hx)
      go_upto_block 2 with (fail)
      go_cut [3] (fun s3 wx => s3 = .pointer (some ⟨g, 0, none⟩) ∧ ∃ D' : Dd, (D'.l.length = D.l.length ∧ D'.F.length = D.F.length) ∧ Hid (Bf10 w g p q cap q2 cap2 D' wx))
      case first =>
        rcases (show j = 0 ∨ j = 1 ∨ j = 2 ∨ j = 3 ∨ j = 4 by omega) with rfl | rfl | rfl | rfl | rfl
        · have hrow := rowd_cells w8 [0, 1, 1099511627776, 1099511627777] 3
          have hgw := HW.out.src.2.1
          have HW9 := Lib.hid (HW.out.below ((Below.refl _ _).alloc (Nat.le_refl _) (.cells #[.int .i64 0, .int .i64 1, .int .i64 1099511627776, .int .i64 1099511627777] 3)))
          have HRW := Lib.hid (show (∀ j (hj : j < ([0, 1, 1099511627776, 1099511627777] : List Int).length), (w8.alloc (.cells #[.int .i64 0, .int .i64 1, .int .i64 1099511627776, .int .i64 1099511627777] 3)).cell? ⟨w8.heap.size, j, none⟩ = some (.int .i64 ([0, 1, 1099511627776, 1099511627777] : List Int)[j])) ∧ w8.heap.size < (w8.alloc (.cells #[.int .i64 0, .int .i64 1, .int .i64 1099511627776, .int .i64 1099511627777] 3)).heap.size ∧ w8.heap.size ≠ g from ⟨hrow, by simp, by omega⟩)
          clear hrow hgw HW
          go_wp2_with fail
          generalize w8.heap.size = b at *
          generalize w8.alloc (.cells #[.int .i64 0, .int .i64 1, .int .i64 1099511627776, .int .i64 1099511627777] 3) = w9 at *
          refine (pick_any w.heap.size g _ HW9.out.src b 4 [0, 1, 1099511627776, 1099511627777] rfl HRW.out.2.1 HRW.out.2.2 (by omega) (by omega) HRW.out.1).mono ?_
          rintro e w10 ⟨x, rfl, _, hs, hg⟩
          have HM := Lib.hid (HW9.out.turn hs hg)
          have HPUT := Lib.hid (HM.out.setV x)
          obtain ⟨⟨x0, x1, x2, xl⟩, f0, f1, f2⟩ := HM.out.db.all
          clear hs hg HW9 HM HRW
          go_wp2
          go_meet
          exact ⟨rfl, ⟨x, D.l, D.F⟩, ⟨rfl, rfl⟩, HPUT⟩
        · have HM := Lib.hid HW.out.drew
          have HS := Lib.hid HM.out.k
          have HKN := Lib.hid (fun W (hs : SrcAt W w.heap.size g) => n_any w.heap.size g W hs D.F.length (by have := HFL.out; omega) (by have := HFL.out; omega))
          go_wp2
          go_region_held3 (fun W => K3 p D ⟨some ⟨q, 0, none⟩, cap, some ⟨q2, 0, none⟩, cap2⟩ W)
            (first | with_reducible exact HS.out | with_reducible exact HS5.out)
            (first
            | (go_at_call 16; (with_reducible refine (range2_any w.heap.size g _ HM.out.src (-2) 6 (by omega) (by omega) (by omega)).mono ?_); rintro e w10 ⟨y, rfl, _, _, hs, hg⟩; have HM := Lib.hid (HM.out.turn hs hg); have HS := Lib.hid HM.out.k; (try (have c0 := HM.out.r2.c x (.int .i64 (ig D.F x)) (ics_get hxn); have f0 := HM.out.r2.f x; have hql := HM.out.pn.2.2; have HPUT := Lib.hid (HM.out.setF hxn y); have HS5 := Lib.hid (HM.out.ko (a := ⟨q2, x, none⟩) HM.out.pn.1.2 (.int .i64 y)))); clear hs hg)
            | (go_at_call 15; (with_reducible refine (HKN.out _ HM.out.src).mono ?_); rintro e w9 ⟨x, rfl, x0, x1, hs, hg⟩; obtain ⟨x, rfl⟩ := Int.eq_ofNat_of_zero_le x0; have hxk : (x : Int) < (D.F.length : Int) := (by omega); have hxn : x < D.F.length := (by omega); have HM := Lib.hid (HM.out.turn hs hg); have HS := Lib.hid HM.out.k; have c0 := HM.out.r2.c x (.int .i64 (ig D.F x)) (ics_get hxn); have f0 := HM.out.r2.f x; have hql := HM.out.pn.2.2; (try (have HPUT := Lib.hid (HM.out.setF hxn y); have HS5 := Lib.hid (HM.out.ko (a := ⟨q2, x, none⟩) HM.out.pn.1.2 (.int .i64 y)))); clear hs hg x1))
          all_goals
            have HF := Lib.hid HPUT.out
            have HFN := Lib.hid (show (D.F.set x y).length = D.F.length from List.length_set)
            clear HM HS HS5 HPUT c0 f0 hql
            go_wp2
            go_meet
            exact ⟨rfl, ⟨D.vn, D.l, D.F.set x y⟩, ⟨rfl, HFN.out⟩, HF⟩
        · have HM := Lib.hid HW.out.drew
          have HS := Lib.hid HM.out.k
          have HKN := Lib.hid (fun W (hs : SrcAt W w.heap.size g) => n_any w.heap.size g W hs D.l.length (by have := HFL.out; omega) (by have := HFL.out; omega))
          go_wp2
          go_region_held3 (fun W => K3 p D ⟨some ⟨q, 0, none⟩, cap, some ⟨q2, 0, none⟩, cap2⟩ W)
            (first | with_reducible exact HS.out | with_reducible exact HS5.out)
            (first
            | (go_at_call 16; (with_reducible refine (range2_any w.heap.size g _ HM.out.src (-1) 6 (by omega) (by omega) (by omega)).mono ?_); rintro e w10 ⟨y, rfl, _, _, hs, hg⟩; have HM := Lib.hid (HM.out.turn hs hg); have HS := Lib.hid HM.out.k; (try (obtain ⟨c0, c1, c2⟩ := HM.out.sp hxn; have f0 := HM.out.r1.f (x * 3 + 2); have hql := HM.out.pn.2.1; have HPUT := Lib.hid (HM.out.setL (o := x * 3 + 2) (L := D.l.set x ⟨(sg D.l x).lo, (sg D.l x).hi, y⟩) (x := y) List.length_set (by omega) (scs_set2 hxn _)); have HS5 := Lib.hid (HM.out.ko (a := ⟨q, x * 3 + 2, none⟩) HM.out.pn.1.1 (.int .i64 y)))); clear hs hg)
            | (go_at_call 15; (with_reducible refine (HKN.out _ HM.out.src).mono ?_); rintro e w9 ⟨x, rfl, x0, x1, hs, hg⟩; obtain ⟨x, rfl⟩ := Int.eq_ofNat_of_zero_le x0; have hxk : (x : Int) < (D.l.length : Int) := (by omega); have hxn : x < D.l.length := (by omega); have HM := Lib.hid (HM.out.turn hs hg); have HS := Lib.hid HM.out.k; obtain ⟨c0, c1, c2⟩ := HM.out.sp hxn; have f0 := HM.out.r1.f (x * 3 + 2); have hql := HM.out.pn.2.1; (try (have HPUT := Lib.hid (HM.out.setL (o := x * 3 + 2) (L := D.l.set x ⟨(sg D.l x).lo, (sg D.l x).hi, y⟩) (x := y) List.length_set (by omega) (scs_set2 hxn _)); have HS5 := Lib.hid (HM.out.ko (a := ⟨q, x * 3 + 2, none⟩) HM.out.pn.1.1 (.int .i64 y)))); clear hs hg x1))
          all_goals
            have HF := Lib.hid HPUT.out
            have HFN := Lib.hid (show (D.l.set x ⟨(sg D.l x).lo, (sg D.l x).hi, y⟩).length = D.l.length from List.length_set)
            clear HM HS HS5 HPUT c0 c1 c2 f0 hql
            go_wp2
            go_meet
            exact ⟨rfl, ⟨D.vn, D.l.set x ⟨(sg D.l x).lo, (sg D.l x).hi, y⟩, D.F⟩, ⟨HFN.out, rfl⟩, HF⟩
        · have HM := Lib.hid HW.out.drew
          have HKN := Lib.hid (fun W (hs : SrcAt W w.heap.size g) => n_any w.heap.size g W hs D.l.length (by have := HFL.out; omega) (by have := HFL.out; omega))
          have HL6 := Lib.hid (show D.l.length ≤ 6 by have := HFL.out; omega)
          go_wp2
          obtain ⟨⟨t0, t1, t2, tl⟩, g0, g1, g2⟩ := HW.out.db.all
          go_region_with (first
            | (go_at_call 16; (with_reducible refine (range2_any w.heap.size g _ HM.out.src (-1) 1 (by omega) (by omega) (by omega)).mono ?_); rintro e w10 ⟨y, rfl, y0, y1, hs, hg⟩; have HM := Lib.hid (HM.out.turn hs hg); have HYY := Lib.hid (And.intro y0 y1); clear y0 y1; (first | (obtain ⟨c0, c1, c2⟩ := HM.out.sp hxn; have f0 := HM.out.r1.f (x * 3 + 1); have hql := HM.out.pn.2.1; have hqp := HM.out.pn.1.1; obtain ⟨⟨t0, t1, t2, tl⟩, g0, g1, g2⟩ := HM.out.db.all; have hwr : IntKind.i64.wrap ((sg D.l x).hi + y) = (sg D.l x).hi + y := IntWalk.i64_in _ (by have h1 := HOR.out x hxn; have h2 := HYY.out; omega); have HPUT := Lib.hid (HM.out.setL (o := x * 3 + 1) (L := D.l.set x ⟨(sg D.l x).lo, (sg D.l x).hi + y, (sg D.l x).sh⟩) (x := (sg D.l x).hi + y) List.length_set (by omega) (scs_set1 hxn _))) | (obtain ⟨⟨t0, t1, t2, tl⟩, g0, g1, g2⟩ := HM.out.db.all; skip)); clear hs hg)
            | (go_at_call 15; (with_reducible refine (HKN.out _ HM.out.src).mono ?_); rintro e w9 ⟨x, rfl, x0, x1, hs, hg⟩; obtain ⟨x, rfl⟩ := Int.eq_ofNat_of_zero_le x0; have hxk : (x : Int) < (D.l.length : Int) := (by omega); have hxn : x < D.l.length := (by omega); have HM := Lib.hid (HM.out.turn hs hg); obtain ⟨c0, c1, c2⟩ := HM.out.sp hxn; have f0 := HM.out.r1.f (x * 3 + 1); have hql := HM.out.pn.2.1; have hqp := HM.out.pn.1.1; obtain ⟨⟨t0, t1, t2, tl⟩, g0, g1, g2⟩ := HM.out.db.all; (try (have hwr : IntKind.i64.wrap ((sg D.l x).hi + y) = (sg D.l x).hi + y := IntWalk.i64_in _ (by have h1 := HOR.out x hxn; have h2 := HYY.out; omega); have HPUT := Lib.hid (HM.out.setL (o := x * 3 + 1) (L := D.l.set x ⟨(sg D.l x).lo, (sg D.l x).hi + y, (sg D.l x).sh⟩) (x := (sg D.l x).hi + y) List.length_set (by omega) (scs_set1 hxn _)))); clear hs hg x1))
          all_goals
            have HF := Lib.hid HPUT.out
            have HFN := Lib.hid (show (D.l.set x ⟨(sg D.l x).lo, (sg D.l x).hi + y, (sg D.l x).sh⟩).length = D.l.length from List.length_set)
            clear HM HPUT
            go_wp2
            go_meet
            exact ⟨rfl, ⟨D.vn, D.l.set x ⟨(sg D.l x).lo, (sg D.l x).hi + y, (sg D.l x).sh⟩, D.F⟩, ⟨HFN.out, rfl⟩, HF⟩
        · have HM := Lib.hid HW.out.drew
          have HKN := Lib.hid (fun W (hs : SrcAt W w.heap.size g) => n_any w.heap.size g W hs D.l.length (by have := HFL.out; omega) (by have := HFL.out; omega))
          have HL6 := Lib.hid (show D.l.length ≤ 6 by have := HFL.out; omega)
          go_wp2
          obtain ⟨⟨t0, t1, t2, tl⟩, g0, g1, g2⟩ := HW.out.db.all
          go_region_with (first
            | (go_at_call 16; (with_reducible refine (range2_any w.heap.size g _ HM.out.src (-1) 1 (by omega) (by omega) (by omega)).mono ?_); rintro e w10 ⟨y, rfl, y0, y1, hs, hg⟩; have HM := Lib.hid (HM.out.turn hs hg); have HYY := Lib.hid (And.intro y0 y1); clear y0 y1; (first | (obtain ⟨c0, c1, c2⟩ := HM.out.sp hxn; have f0 := HM.out.r1.f (x * 3); have hql := HM.out.pn.2.1; have hqp := HM.out.pn.1.1; obtain ⟨⟨t0, t1, t2, tl⟩, g0, g1, g2⟩ := HM.out.db.all; have hwr : IntKind.i64.wrap ((sg D.l x).lo + y) = (sg D.l x).lo + y := IntWalk.i64_in _ (by have h1 := HOR.out x hxn; have h2 := HYY.out; omega); have HPUT := Lib.hid (HM.out.setL (o := x * 3) (L := D.l.set x ⟨(sg D.l x).lo + y, (sg D.l x).hi, (sg D.l x).sh⟩) (x := (sg D.l x).lo + y) List.length_set (by omega) (scs_set0 hxn _))) | (obtain ⟨⟨t0, t1, t2, tl⟩, g0, g1, g2⟩ := HM.out.db.all; skip)); clear hs hg)
            | (go_at_call 15; (with_reducible refine (HKN.out _ HM.out.src).mono ?_); rintro e w9 ⟨x, rfl, x0, x1, hs, hg⟩; obtain ⟨x, rfl⟩ := Int.eq_ofNat_of_zero_le x0; have hxk : (x : Int) < (D.l.length : Int) := (by omega); have hxn : x < D.l.length := (by omega); have HM := Lib.hid (HM.out.turn hs hg); obtain ⟨c0, c1, c2⟩ := HM.out.sp hxn; have f0 := HM.out.r1.f (x * 3); have hql := HM.out.pn.2.1; have hqp := HM.out.pn.1.1; obtain ⟨⟨t0, t1, t2, tl⟩, g0, g1, g2⟩ := HM.out.db.all; (try (have hwr : IntKind.i64.wrap ((sg D.l x).lo + y) = (sg D.l x).lo + y := IntWalk.i64_in _ (by have h1 := HOR.out x hxn; have h2 := HYY.out; omega); have HPUT := Lib.hid (HM.out.setL (o := x * 3) (L := D.l.set x ⟨(sg D.l x).lo + y, (sg D.l x).hi, (sg D.l x).sh⟩) (x := (sg D.l x).lo + y) List.length_set (by omega) (scs_set0 hxn _)))); clear hs hg x1))
          all_goals
            have HF := Lib.hid HPUT.out
            have HFN := Lib.hid (show (D.l.set x ⟨(sg D.l x).lo + y, (sg D.l x).hi, (sg D.l x).sh⟩).length = D.l.length from List.length_set)
            clear HM HPUT
            go_wp2
            go_meet
            exact ⟨rfl, ⟨D.vn, D.l.set x ⟨(sg D.l x).lo + y, (sg D.l x).hi, (sg D.l x).sh⟩, D.F⟩, ⟨HFN.out, rfl⟩, HF⟩
      case rest =>
        obtain ⟨rfl, D', hD', HB⟩ := hcut
        have HDL := Lib.hid (show (1 ≤ D'.F.length ∧ D'.F.length ≤ 6) ∧ D'.l.length ≤ 6 by have := HFL.out; omega)
        clear HW hD'
        have HM := Lib.hid HB.out.drew
        have HS := Lib.hid HM.out.k
        have HAG := Lib.hid (fun E ro sl W (k : Bf10 w g p q cap q2 cap2 D' W) => agrees10_any D' ⟨some ⟨q, 0, none⟩, cap, some ⟨q2, 0, none⟩, cap2⟩ E ro sl W k.dr (by have := HDL.out; omega) (by have := HDL.out; omega))
        have HED := Lib.hid (fun W (hs : SrcAt W w.heap.size g) => edit_any w.heap.size g W hs (D'.F.length : Int) (by have := HDL.out; omega) (by have := HDL.out; omega))
        go_wp2
        go_region_held3 (fun W => K3 p D' ⟨some ⟨q, 0, none⟩, cap, some ⟨q2, 0, none⟩, cap2⟩ W)
          (first | with_reducible exact HS.out)
          (first
          | (go_at_call 14; (with_reducible refine (HED.out _ HM.out.src).mono ?_); rintro e w7 ⟨E, rfl, _, _, _, _, hs, hg⟩; have HM := Lib.hid (HM.out.turn hs hg); have HS := Lib.hid HM.out.k; clear hs hg)
          | (go_at_call 15; (with_reducible refine (n_any w.heap.size g _ HM.out.src 65536 (by omega) (by omega)).mono ?_); rintro e w7 ⟨y, rfl, _, _, hs, hg⟩; have HM := Lib.hid (HM.out.turn hs hg); have HS := Lib.hid HM.out.k; clear hs hg)
          | (go_at_call 16; (with_reducible refine (range2_any w.heap.size g _ HM.out.src 0 5 (by omega) (by omega) (by omega)).mono ?_); rintro e w8 ⟨z, rfl, _, _, hs, hg⟩; have HM := Lib.hid (HM.out.turn hs hg); have HS := Lib.hid HM.out.k; clear hs hg)
          | (go_at_call 10; (with_reducible refine (HAG.out _ _ _ _ HM.out).mono ?_); rintro e w9 ⟨rfl, hb⟩; have HM := Lib.hid (HM.out.below hb); have HS := Lib.hid HM.out.k; clear hb)
          | (go_at_call 11; (with_reducible refine (HAW.out _).mono ?_); rintro e w9 ⟨rfl, hb⟩; have HM := Lib.hid (HM.out.below hb); have HS := Lib.hid HM.out.k; clear hb))
        all_goals
          have HFIN := Lib.hid HM.out.bel
          clear HS HM
          go_wp2
          go_ret
          exact ⟨rfl, HFIN.out⟩

/-! The row's step, as the guide's shell has it. -/
namespace directoryBuilt
open Go.ChangeShapes Go.WideShapes Go.ChangeAt
open Go.ChangeMaps (open_string shut_string)
theorem own : ownKnob Try.prog.godebug = none := by kernel_rfl
theorem laidOut : laidOutB Try.prog = true := by kernel_rfl

set_option maxRecDepth 100000 in
theorem lifted (os : Os) (started : os.Started) (H : Type) (enc : TypeId × Value → H) :
    ReturnsInHanded {} Try.checked os 4 .any (Rows.directoryBuiltSpec.pre6 enc Try.prog Try.f4 Rows.directoryBuiltRow.domain false) (Rows.directoryBuiltSpec.post enc Try.prog Try.f4 false true false false) := by
  refine returnsInHanded_of_change (C := Try.checked) own started (by kernel_rfl) Try.func4
    (ChangeSpec.witness6 (enc := enc) (C := Try.checked) false ⟨#[], #[.slice none 0 0], []⟩ 8 (by kernel_rfl) (by kernel_rfl) (by kernel_rfl) (by kernel_rfl)) ?_
  intro W base args ds gs before hval0 hW hcnd _
  have hval : ∀ (j : Nat) t v, Try.f4.params[j]? = some t → args[j]? = some v → Value.okWide Try.prog W .any base t v := hval0
  have hW' := hW
  obtain ⟨p, q, hA0, hV, rfl, hfz, hnd⟩ := hW
  have hA : DataW.TrodAll enc Try.prog W 0 (fun _ => true) true Try.f4.params.toList args.toList ds p := hA0
  rw [Try.params4] at hA hval
  obtain ⟨v0, vs0, d0, ds0, p0, q0, hargs, rfl, rfl, h0, r0⟩ := trodAll_cons hA
  obtain ⟨rfl, rfl, rfl⟩ := trodAll_nil r0
  obtain rfl : args = #[v0] := by cases args; simp_all
  obtain ⟨rfl, rfl⟩ := trodVars_none hV
  obtain ⟨a0, len0, cap0, rfl⟩ := okWide_slice Try.underlying23 (hval 0 23 v0 rfl rfl)
  have k0 := h0
  have lt0 : ∀ x ∈ p0, x.block < W.heap.size := by obtain ⟨m, hm⟩ := k0; exact DataW.trod_lt m _ _ _ hm
  obtain ⟨z0, w0⟩ : ∃ zs, Ns W W.heap.size (.slice a0 len0 cap0) zs := by
    obtain ⟨fuel, hf⟩ := h0
    rcases open_ints Try.underlying23 Try.underlying3 (by kernel_rfl) hf with ⟨hcs, _⟩ | ⟨x, l, c, zs, hcs, _, hl, hm, hz, _, hcell, hwz⟩
    · simp [Value.cells] at hcs
      obtain ⟨rfl, rfl, rfl⟩ := hcs
      exact ⟨[], Ns.nil⟩
    · simp [Value.cells] at hcs
      obtain ⟨rfl, rfl, rfl⟩ := hcs
      exact Ns.of_cells hl hm (by simpa using hz) hcell hwz
  clear hA0 hval0
  refine (DirectoryBuilt_walk W a0 len0 cap0 z0 w0).mono fun e W' ⟨he, bel⟩ => ?_
  subst he
  exact ⟨_, rfl, _, _, _, [], _, [], hW', trodAll_mk1 (shut_bool Try.underlying4 _), (trodAll_cons_mk (Below.trod laidOut (by kernel_rfl) (of_decide_eq_true (by kernel_rfl)) k0 bel lt0) trodAll_mk0), rfl, bel.frame _, fun h => by cases h⟩

theorem over : Rows.directoryBuiltRow.holds Try.pinned (OpenSpec.ofChange Rows.directoryBuiltSpec) :=
  OpenClaim.holds_of_wide 4 Try.f4 rfl rfl rfl rfl rfl rfl rfl ⟨rfl, rfl, rfl, rfl, rfl⟩ rfl rfl rfl rfl rfl (by kernel_rfl) Try.func4 (by kernel_rfl)
    (of_decide_eq_true (by kernel_rfl)) (by unfold Func.isWrapper; first | (rw [if_pos (by decide +kernel)]; kernel_rfl) | (rw [if_neg (by decide +kernel)]; exact ⟨rfl, rfl⟩))
    (fun os started H enc _ => lifted os started H enc)

/-- The statement. -/
theorem proved : Rows.DirectoryBuiltSaid := over
#print axioms proved
end directoryBuilt
end Go.Proofs.Ytfkpkmcpepeaeaa
