/- What is proved here: shardqueuelaw13.LockerOrder returns true for every input and leaves its arguments as they were. No condition. -/
import Derived.Test.YtommkhjgockpfaaJ44
import Derived.Test.YtommkhjgockpfaaJ45
import Derived.Test.YtommkhjgockpfaaJ22
import Derived.Test.YtommkhjgockpfaaJ39
import Derived.Test.YtommkhjgockpfaaJ46
import Derived.Deep.AppendLies
import Derived.ProofKit
import Derived.OpenShut
import Derived.ChangeOld
import Derived.Deep.DeepCutAuto
import Derived.Deep.RegionHeld3
namespace Go.Proofs.Ytommkhjgockpfaa
open Go.RowKit
set_option linter.unusedVariables false

theorem Tv13.owns {n m : Nat} {a : Ar} {Q : List Lc} {T : Int} {t : Lc} {j c : Nat} (h : Tv13 n m a Q T) (hj : Q[j]? = some t) (hc : c ≤ n) : a.own c = (j : Int) + 1 ↔ Hl t.l c := h.iv.own j t.l c (map_at hj) hc
theorem Tv13.le {n m : Nat} {a : Ar} {Q : List Lc} {T : Int} {c : Nat} (h : Tv13 n m a Q T) (hc : c ≤ n) : 0 ≤ a.own c ∧ a.own c ≤ m := by
  rcases h.iv.fr c hc with h0 | ⟨j, hj, h1⟩
  · omega
  · rw [List.length_map, h.ql] at hj
    omega
/-- What the law's inner loops count: the owner, as far as it is among the first j lockers. -/
def wa13 (x : Int) (j : Nat) : Int := if 1 ≤ x ∧ x ≤ j then x else 0
theorem wa_0 (x : Int) : wa13 x 0 = 0 := if_neg (by omega)
theorem wa_3 {x : Int} (h : 0 ≤ x ∧ x ≤ 3) : wa13 x 3 = x := by
  unfold wa13
  split
  · rfl
  · omega
theorem wa_yes {x : Int} {j : Nat} (h : x = (j : Int) + 1) : wa13 x (j + 1) = (j : Int) + 1 := by
  unfold wa13
  rw [if_pos (by omega)]
  exact h
theorem wa_no {x : Int} {j : Nat} (h : x ≠ (j : Int) + 1) : wa13 x (j + 1) = wa13 x j := by
  unfold wa13
  by_cases e : 1 ≤ x ∧ x ≤ j
  · rw [if_pos e, if_pos (by omega)]
  · rw [if_neg e, if_neg (by omega)]
set_option maxHeartbeats 8000000 in
set_option maxRecDepth 20000 in
theorem LockerOrder_walk (w : World) (a1 : Option Addr) (l1 c1 : Nat) (zs : List Int) (hz : Ns w w.heap.size (.slice a1 l1 c1) zs) :
    Calls Try.prog 5 #[.slice a1 l1 c1] w fun e w' => e = .returned (.bool true) ∧ Below w.heap.size w w' := by
  have HAW := Lib.hid (fun W => awake13_any W)
  have HNS := Lib.hid (new_src a1 l1 c1 zs w hz)
  obtain ⟨i0, hi0, hz0⟩ := Option.map_eq_some_iff.1 info_lk
  simp only [Prod.mk.injEq] at hz0
  have HI := Lib.hid hi0
  have HZ := Lib.hid hz0
  clear hz hi0 hz0
  go_enter Try.func5, Try.ntmps5
  go_wp2_with fail
  refine HNS.out.mono ?_
  rintro e w2 ⟨g, rfl, hs, hb⟩
  have HS := Lib.hid hs
  have HB := Lib.hid hb
  clear hs hb HNS
  go_wp2_with fail
  refine (setup_any w.heap.size g _ HS.out).mono ?_
  rintro e w3 ⟨s, rfl, hok, hs, hg⟩
  have HB := Lib.hid (HB.out.grown hg HB.out.size (fun k e => by injection e with e; have := HS.out.1; omega))
  have HS := Lib.hid hs
  obtain ⟨hE, n, n0, n6, hca⟩ := ca_nw hok
  have how := nw_ow hok
  have HN := Lib.hid (anew_any s w3)
  rw [hE] at HN
  obtain ⟨A0, hA0⟩ : ∃ A, A = nwA s := ⟨_, rfl⟩
  rw [← hA0] at HN hca how
  have HCA := Lib.hid (And.intro hca.fw (own_all hca how))
  have HNN := Lib.hid (show 0 < n ∧ n ≤ 6 ∧ A0.sl.length = n from ⟨n0, n6, hca.sl⟩)
  clear hg hs hok hE hca how hA0 n0 n6
  go_wp2_with fail
  refine HN.out.mono ?_
  rintro e w4 ⟨Y0, rfl, hn, hr, hb⟩
  have H1 := Lib.hid (Jb1.start HS.out hn hr hb HB.out)
  clear hn hr hb HN HS HB
  go_upto_region 3 with (fail)
  obtain ⟨p, hp⟩ : ∃ p, p = w4.heap.size := ⟨_, rfl⟩
  rw [← hp] at H1 ⊢
  clear hp
  generalize w4.alloc (.cells #[.slice Y0.A A0.sl.length Y0.c, .slice Y0.A2 A0.st.length Y0.c2, .int .i64 A0.ow, .int .i64 A0.cap, .slice Y0.A3 A0.dl.length Y0.c3, .int .i64 A0.dir.vn, .slice Y0.D.A A0.dir.l.length Y0.D.c, .slice Y0.D.A2 A0.dir.F.length Y0.D.c2, .int .i64 A0.ep, .int .i64 A0.ck, .int .i64 A0.ni] 46) = w5 at *
  have HM := Lib.hid (show 1 ≤ 3 ∧ 3 ≤ 6 by omega)
  go_wp2_with fail
  go_loopw [6, 7] (fun sv iv wr => ∃ (A : Option Addr) (c : Nat) (Q : List Lc), iv = .int .i64 (Q.length : Int) ∧ sv = .slice A Q.length c ∧ Q.length ≤ 3 ∧ Hid ((∀ t ∈ Q, Ok0 n t.l) ∧ Jb1 w g p A0 Y0 A c Q wr)) (fun _ iv _ => 3 - (intOf iv).toNat)
  case atStart => exact ⟨none, 0, [], rfl, rfl, by simp, Lib.hid ⟨fun t ht => absurd ht (by simp), H1.out⟩⟩
  case round =>
    clear H1
    obtain ⟨A, c, Q, rfl, rfl, hQm, H⟩ := hrel
    by_cases hlt : Q.length < 3
    · have hlt' : (Q.length : Int) < (3 : Int) := by omega
      have hw1 : IntKind.i64.wrap ((Q.length : Int) + 1) = (Q.length : Int) + 1 := IntWalk.i64_in _ (by have := (show 1 ≤ 3 ∧ 3 ≤ 6 by omega); omega)
      have HQL := Lib.hid (show Q.length ≤ 6 ∧ Q.length < 3 from by have := (show 1 ≤ 3 ∧ 3 ≤ 6 by omega); omega)
      have HOK := Lib.hid H.out.1
      have HW := Lib.hid H.out.2
      clear hlt hQm H
      obtain ⟨y0, -⟩ := HW.out.qb.k
      have yl := HW.out.qb.lt
      rw [HNN.out.2.2] at y0
      go_wp2_with fail
      clear y0 yl
      refine (some13_any n w.heap.size g _ HW.out.src (by have := HNN.out; omega)).mono ?_
      rintro e x6 ⟨A1, c1', cs, rfl, hokc, hl1, hnw, hfl, hs, hg⟩
      have HW := Lib.hid (HW.out.turn hs hg)
      have HNC := Lib.hid (jnew_any A1 c1' cs x6 hfl)
      rw [(okc_new hokc hl1 HNN.out.2.1).1, (okc_new hokc hl1 HNN.out.2.1).2] at HNC
      have HT := Lib.hid (ok0_new hokc hl1)
      clear hokc hl1 hnw hfl hs hg
      go_wp2_with fail
      refine HNC.out.mono ?_
      rintro e x7 ⟨A2, c2, rfl, hnw, hfl, hb⟩
      have HWF := Lib.hid (show Fl (x7.alloc (.cells #[.slice A2 cs.length c2, .int .i64 0, .int .i64 0, .int .i64 0, .int .i64 0] 28)) (x7.alloc (.cells #[.slice A2 cs.length c2, .int .i64 0, .int .i64 0, .int .i64 0, .int .i64 0] 28)).heap.size (.slice A2 cs.length c2) cs ∧ (OffB p cs.length A2 ∧ OffB g cs.length A2) ∧ ∀ b, (Value.slice A Q.length c).ownBlock = some b → OffB b cs.length A2 from ⟨hfl.alloc2 _, ⟨offb_nw hnw HW.out.qb.lt, offb_nw hnw HW.out.src.2.1⟩, fun b e => offb_nw hnw (HW.out.own.lt b e).2⟩)
      have HW := Lib.hid ((HW.out.below hb).below ((Below.refl x7.heap.size x7).alloc (Nat.le_refl _) (.cells #[.slice A2 cs.length c2, .int .i64 0, .int .i64 0, .int .i64 0, .int .i64 0] 28)))
      have HX := Lib.hid (LB.start x7 ⟨cs, 0, 0, 0, 0⟩ A2 c2 28)
      clear hnw hfl hb HNC
      go_upto_region 10 with (fail)
      obtain ⟨x, hx⟩ : ∃ x, x = x7.heap.size := ⟨_, rfl⟩
      rw [← hx] at HX ⊢
      clear hx
      have HX := Lib.hid (show LB (x7.alloc (.cells #[.slice A2 cs.length c2, .int .i64 0, .int .i64 0, .int .i64 0, .int .i64 0] 28)) x ⟨cs, 0, 0, 0, 0⟩ A2 c2 from HX.out)
      generalize (x7.alloc (.cells #[.slice A2 cs.length c2, .int .i64 0, .int .i64 0, .int .i64 0, .int .i64 0] 28)) = x8 at *
      have HWF := Lib.hid (show Fl (x8.alloc (.cells (Lc.mk ⟨cs, 0, 0, 0, 0⟩ A2 c2).v.toArray 28)) (x8.alloc (.cells (Lc.mk ⟨cs, 0, 0, 0, 0⟩ A2 c2).v.toArray 28)).heap.size (.slice A2 cs.length c2) cs ∧ (OffB p cs.length A2 ∧ OffB g cs.length A2) ∧ ∀ b, (Value.slice A Q.length c).ownBlock = some b → OffB b cs.length A2 from ⟨HWF.out.1.alloc2 _, HWF.out.2⟩)
      have HW := Lib.hid (HW.out.below ((Below.refl x8.heap.size x8).alloc (Nat.le_refl _) (.cells (Lc.mk ⟨cs, 0, 0, 0, 0⟩ A2 c2).v.toArray 28)))
      obtain ⟨u0, u1, u2, u3, u4⟩ := HX.out.k
      have ul := HX.out.lt
      go_wp2_with (at_builtin; refine wpList_append_lies _ rfl _ _ _ rfl (p + 1) 28 i0 _ 5 56 Try.underlying52 HI.out HZ.out.1 HZ.out.2.1 HZ.out.2.2 rfl (by omega) (.slice A Q.length c) Q.length (kcs Q) (by rfl) HW.out.own ⟨x8.heap.size, 0, none⟩ 1 1 (Lc.mk ⟨cs, 0, 0, 0, 0⟩ A2 c2).v (by rfl) (by rfl) (World.news_of_block (cs := (Lc.mk ⟨cs, 0, 0, 0, 0⟩ A2 c2).v.toArray) (t := 28) (fr := (0, 0)) (heap_alloc_new x8 _)) (Lc.v_one _) (by omega) (by have := HQL.out; unfold maxLen; omega) (by have := HQL.out; omega) (Nat.succ_le_of_lt HW.out.qb.lt) _ rfl ?_; intro g1 cp1 w8 hown1 hgrow1 hat1 hlt1; have HP8 := Lib.hid (HW.out.app (T := ⟨⟨cs, 0, 0, 0, 0⟩, A2, c2⟩) HWF.out.1 HWF.out.2.1 HWF.out.2.2 hown1 hgrow1 hat1); clear hown1 hgrow1 hat1 hlt1)
      clear u0 u1 u2 u3 u4 ul
      exact ⟨⟨_, _, Q ++ [⟨⟨cs, 0, 0, 0, 0⟩, A2, c2⟩], by simp, by simp, by have := HQL.out; simp; omega, Lib.hid ⟨fun t ht => by
        rcases List.mem_append.1 ht with h1 | h1
        · exact HOK.out t h1
        · obtain rfl : t = ⟨⟨cs, 0, 0, 0, 0⟩, A2, c2⟩ := by simpa using h1
          exact HT.out, HP8.out⟩⟩, by simp [intOf]; have := HQL.out; omega⟩
    · have hqm : Q.length = 3 := by omega
      obtain ⟨b, cap, he, hj2⟩ := H.out.2.end_ (by omega)
      have HQ0 := Lib.hid H.out.1
      have HJ := Lib.hid hj2
      have HQM := Lib.hid hqm
      injection he with he1 he2 he3
      subst he1 he3
      have hlt' : ¬ (Q.length : Int) < (3 : Int) := by omega
      rw [hqm] at hlt' ⊢
      rw [show ((3 : Nat) : Int) = 3 from rfl] at hlt' ⊢
      clear hj2 H hlt hQm hqm he2
      have HOU := Lib.hid (out_start (hQ := HQ0.out) HQM.out (by omega) (by omega) HNN.out.2.2 HCA.out.1 HCA.out.2).tv
      clear HQ0 HQM HI HZ HCA
      go_wp2_with fail
      go_loopw [10] (fun iv wr => ∃ (r : Nat) (a : Ar) (Y : Ax) (Q : List Lc), iv = .int .i64 (r : Int) ∧ r ≤ 60 ∧ Hid (Tv13 n 3 a Q (r : Int) ∧ Jt2 w g p b a Y Q wr)) (fun iv _ => 60 - (intOf iv).toNat)
      case atStart => exact ⟨0, A0, Y0, Q, rfl, by omega, Lib.hid ⟨HOU.out.mono (by omega), HJ.out⟩⟩
      case round =>
        clear HOU HJ hlt'
        obtain ⟨r, a, Y, Q, rfl, hr60, H⟩ := hrel
        have HTV := Lib.hid H.out.1
        have HJ := Lib.hid H.out.2
        have HR := Lib.hid hr60
        clear H hr60
        go_upto_region 14 with (fail)
        go_cut [59] (fun s59 wx => ∃ bb : Bool, s59 = .bool bb ∧ (bb = true → r < 60) ∧ Hid (Jt2 w g p b a Y Q wx))
        case first =>
          by_cases h60 : r < 60
          · have h60' : (r : Int) < 60 := by omega
            by_cases h6 : r < 6
            · have h6' : (r : Int) < 6 := by omega
              go_wp2_with fail
              go_meet
              exact ⟨true, rfl, fun _ => h60, HJ⟩
            · have h6' : ¬ (r : Int) < 6 := by omega
              go_wp2_with fail
              refine (more_any w.heap.size g _ HJ.out.src).mono ?_
              rintro e w5 ⟨bb, rfl, hs, hg⟩
              have HJ := Lib.hid (HJ.out.turn hs hg)
              clear hs hg
              go_wp2_with fail
              go_meet
              exact ⟨bb, rfl, fun _ => h60, HJ⟩
          · have h60' : ¬ (r : Int) < 60 := by omega
            go_wp2_with fail
            go_meet
            exact ⟨false, rfl, (fun h => by cases h), HJ⟩
        case rest =>
          clear HJ
          obtain ⟨bb, rfl, hb60, HJ⟩ := hcut
          cases bb with
          | false =>
            clear hb60
            go_wp2_with fail
            refine (HAW.out _).mono ?_
            rintro e x1 ⟨rfl, hb⟩
            have HFIN := Lib.hid (HJ.out.below hb).bel
            clear hb HJ
            go_wp2
            go_ret
            exact ⟨rfl, HFIN.out⟩
          | true =>
            have HR60 := Lib.hid (hb60 rfl)
            have hwr : IntKind.i64.wrap ((r : Int) + 1) = (r : Int) + 1 := IntWalk.i64_in _ (by have := HR60.out; omega)
            clear hb60
            go_wp2_with fail
            refine (n_any w.heap.size g _ HJ.out.src 3 (by omega) (by omega)).mono ?_
            rintro e x1 ⟨ki, rfl, k1, k2, hs, hg⟩
            replace HJ := Lib.hid (HJ.out.turn hs hg)
            obtain ⟨k, rfl⟩ : ∃ k : Nat, ki = (k : Int) := ⟨ki.toNat, by omega⟩
            have hlt' : (k : Int) < 3 := by omega
            have hk0 : (0 : Int) ≤ (k : Int) := by omega
            have hwk : IntKind.i64.wrap ((k : Int) + 1) = (k : Int) + 1 := IntWalk.i64_in _ (by omega)
            have hkq : k < Q.length := by rw [HTV.out.ql]; omega
            obtain ⟨t, ht⟩ : ∃ t, Q[k]? = some t := ⟨_, List.getElem?_eq_getElem hkq⟩
            have HT := Lib.hid ht
            have HKM := Lib.hid (show k < 3 ∧ k < Q.length from ⟨by omega, hkq⟩)
            have HR5 := Lib.hid (HJ.out.rb.at5 ht)
            clear ht hkq hs hg k1 k2
            obtain ⟨-, t1, -⟩ := HR5.out
            go_upto_if 69 with (fail)
            clear t1
            have HJ2B := Lib.hid HJ.out.rb.lt
            generalize x1 = wr at *
            go_cut [] (fun wx => ∃ (Q' : List Lc) (t' : Lc), Hid (Tv13 n 3 a Q' (r : Int) ∧ Jt2 w g p b a Y Q' wx ∧ Q'[k]? = some t' ∧ t'.l.ph ≠ 3))
            case first =>
              obtain ⟨t0, t1, t2, t3, t4⟩ := HR5.out
              by_cases h3 : t.l.ph = 3
              · have hb3 : (t.l.ph == 3) = true := by simp [h3]
                have HFR := Lib.hid (jfree_any t.l t.A t.c wr (HJ.out.lx t (List.mem_of_getElem? HT.out)).fl (by have := (HTV.out.iv.ok _ _ (map_at HT.out)).l3; omega))
                rw [show frE t.l = 0 from if_pos h3] at HFR
                have HP4 := Lib.hid (show (frL t.l).ph = 4 from by rw [show frL t.l = ⟨t.l.cs, 4, t.l.hv, t.l.tr, t.l.wt⟩ from if_pos h3])
                have HNI := Lib.hid (fun (A : Option Addr) (c : Nat) => HTV.out.free (A := A) (c := c) HT.out h3)
                obtain ⟨M, hM⟩ : ∃ M, M = frL t.l := ⟨_, rfl⟩
                rw [← hM] at HFR HP4 HNI
                clear h3 hM HTV
                obtain ⟨hk1, hk2⟩ := And.intro hk0 hlt'
                go_wp2_with fail
                clear t0 t1 t2 t3 t4
                refine HFR.out.mono ?_
                rintro e x1 ⟨A2, c2, rfl, hn, hl, hb⟩
                have HLX := Lib.hid (show Lx (x1.alloc (.cells #[.slice A2 M.cs.length c2, .int .i64 M.ph, .int .i64 M.hv, .int .i64 M.tr, .int .i64 M.wt] 28)) p b g ⟨M, A2, c2⟩ from ⟨hl.alloc2 _, offb_nw hn HJ.out.qb.lt, offb_nw hn HJ.out.rb.lt, offb_nw hn HJ.out.src.2.1⟩)
                have HJ := Lib.hid ((HJ.out.below hb).below ((Below.refl x1.heap.size x1).alloc (Nat.le_refl _) (.cells #[.slice A2 M.cs.length c2, .int .i64 M.ph, .int .i64 M.hv, .int .i64 M.tr, .int .i64 M.wt] 28)))
                have HX := Lib.hid (LB.start x1 M A2 c2 28)
                have HXB := Lib.hid (show b < x1.heap.size from Nat.lt_of_lt_of_le (HJ2B.out) hb.size)
                clear hn hl hb HFR
                go_upto_region 20 with (fail)
                obtain ⟨x, hx⟩ : ∃ x, x = x1.heap.size := ⟨_, rfl⟩
                rw [← hx] at HX HXB ⊢
                clear hx
                generalize (x1.alloc (.cells #[.slice A2 M.cs.length c2, .int .i64 M.ph, .int .i64 M.hv, .int .i64 M.tr, .int .i64 M.wt] 28)) = x2 at *
                have HJ5 := Lib.hid (HJ.out.putK HKM.out.2 HLX.out)
                obtain ⟨u0, u1, u2, u3, u4⟩ := HX.out.k
                have ul := HX.out.lt
                obtain ⟨t0, t1, t2, t3, t4⟩ := HJ.out.rb.at5 HT.out
                have rl := HJ.out.rb.lt
                have f0 := HJ.out.rb.f (k * 5)
                have f1 := HJ.out.rb.f (k * 5 + 1)
                have f2 := HJ.out.rb.f (k * 5 + 2)
                have f3 := HJ.out.rb.f (k * 5 + 3)
                have f4 := HJ.out.rb.f (k * 5 + 4)
                have nxb : ¬ x = b := by have := HXB.out; omega
                have nbx : ¬ b = x := fun e => nxb e.symm
                go_wp2_with fail
                go_meet
                exact ⟨Q.set k ⟨M, A2, c2⟩, ⟨M, A2, c2⟩, Lib.hid ⟨HNI.out A2 c2, HJ5.out, by rw [List.getElem?_set_self HKM.out.2], by show M.ph ≠ 3; rw [HP4.out]; decide⟩⟩
              · have hb3 : (t.l.ph == 3) = false := by simp [h3]
                have HRE := Lib.hid (show ∃ (Q' : List Lc) (t' : Lc), Hid (Tv13 n 3 a Q' (r : Int) ∧ Jt2 w g p b a Y Q' wr ∧ Q'[k]? = some t' ∧ t'.l.ph ≠ 3) from ⟨Q, t, Lib.hid ⟨HTV.out, HJ.out, HT.out, h3⟩⟩)
                clear h3 HTV HJ
                go_wp2_with fail
                go_meet
                exact HRE.out
            case rest =>
              clear HTV HJ HT HJ2B HKM HR5
              clear t
              clear Q
              obtain ⟨Q, t, H⟩ := hcut
              have HTV := Lib.hid H.out.1
              have HJ := Lib.hid H.out.2.1
              have HT := Lib.hid H.out.2.2.1
              have HP3 := Lib.hid H.out.2.2.2
              have HKQ := Lib.hid (show k < Q.length ∧ k < 3 from ⟨(List.getElem?_eq_some_iff.1 HT.out).1, by have := HTV.out.ql; have := (List.getElem?_eq_some_iff.1 HT.out).1; omega⟩)
              clear H
              generalize wc = wr at *
              obtain ⟨TA, hTA⟩ : ∃ x, x = stA13 a t.l ((k : Int) + 1) := ⟨_, rfl⟩
              obtain ⟨M, hM⟩ : ∃ x, x = stL13 a t.l ((k : Int) + 1) := ⟨_, rfl⟩
              obtain ⟨E, hE⟩ : ∃ x, x = stE13 a t.l ((k : Int) + 1) := ⟨_, rfl⟩
              have hst := fun (h5 : t.l.ph ≠ 5) A c => HTV.out.step (A := A) (c := c) HT.out ⟨HP3.out, h5⟩ (by omega)
              have HTC := Lib.hid (fun W (h : Below wr.heap.size wr W) => jstep_any a Y t.l t.A t.c ((k : Int) + 1) W (HJ.out.ar.up h) ((HJ.out.lx t (List.mem_of_getElem? HT.out)).fl.up h) HTV.out.fw (HTV.out.sm (by have := HR60.out; omega) HT.out))
              rw [← hE, ← hTA, ← hM] at HTC
              rw [← hE, ← hTA, ← hM] at hst
              have HNI := Lib.hid (fun h5 A c => (hst h5 A c).2.2)
              have HE := Lib.hid (show (t.l.ph = 5 ∧ E = 7) ∨ (t.l.ph ≠ 5 ∧ E = 0) from by
                by_cases h5 : t.l.ph = 5
                · exact .inl ⟨h5, by rw [hE]; exact (st_err (.inr h5)).1⟩
                · exact .inr ⟨h5, (hst h5 none 0).1⟩)
              have HSK := Lib.hid (show ∀ W, Below wr.heap.size wr W → K11 p a Y W ∧ R5 W b (k * 5) t from fun W h => ⟨(HJ.out.qb.up h).k, (HJ.out.rb.up h).at5 HT.out⟩)
              have HB0 := Lib.hid (Below.refl wr.heap.size wr)
              have HT2 := Lib.hid HT.out
              have HT := Lib.hid HTC.out
              clear hst hTA hM hE HTC
              go_wp2
              go_cut [14, 15, 16] (fun s16 s17 s18 wx => ∃ (u v : Nat) (Z : Ax) (A' : Option Addr) (c' : Nat), s16 = .pointer (some ⟨u, 0, none⟩) ∧ s17 = .pointer (some ⟨v, 0, none⟩) ∧ s18 = .int .i64 E ∧ Hid (Jt3 w g p b u v a Y Q TA Z ⟨M, A', c'⟩ wx))
              case first =>
                go_region_held3 (fun W => K11 p a Y W ∧ R5 W b (k * 5) t)
                  ((refine HSK.out _ ?_; repeat' (first | with_reducible exact HB0.out | with_reducible exact HB4.out | with_reducible refine bal ?_ _ | with_reducible refine bdr ?_ | with_reducible refine bst ?_ ?_ _ | exact Nat.le_refl _ | (simp; done) | (simp; omega))))
                  (first | (go_at_call 20; (with_reducible refine (HT.out _ ?hbel).mono ?_); (case hbel => (repeat' (first | with_reducible exact HB0.out | with_reducible refine bal ?_ _ | with_reducible refine bdr ?_))); rintro e w4 ⟨Z, A', c', rfl, hn, hm, hr, hf, hb⟩; have HP := Lib.hid (jt3_4 HJ.out hn hm hr hf hb).2.2; have HXU := Lib.hid (jt3_4 HJ.out hn hm hr hf hb).1; have HXV := Lib.hid (jt3_4 HJ.out hn hm hr hf hb).2.1; have HB4 := Lib.hid ((bdr (bal (bal HB0.out (.cells #[.slice none 0 0, .slice none 0 0, .int .i64 0, .int .i64 0, .slice none 0 0, .int .i64 0, .slice none 0 0, .slice none 0 0, .int .i64 0, .int .i64 0, .int .i64 0] 46)) (.cells #[.slice none 0 0, .int .i64 0, .int .i64 0, .int .i64 0, .int .i64 0] 28))).trans (hb.mono (by simp <;> omega))); obtain ⟨z0, z1, z2, z3, z4, z5, z6, z7, z8, z9, z10⟩ := HXU.out.k; have zl := HXU.out.lt; obtain ⟨f0, f1, f2, f3, f4, f5, f6, f7, f8, f9, f10⟩ := HXU.out.free; obtain ⟨v0, v1, v2, v3, v4⟩ := HXV.out.k; have vl := HXV.out.lt; obtain ⟨e0, e1, e2, e3, e4⟩ := HXV.out.free; have huv : ¬ wr.heap.size = wr.heap.size + 1 := (by omega); have hvu : ¬ wr.heap.size + 1 = wr.heap.size := (by omega); clear hn hm hr hf hb) | (go_at_call 20; (with_reducible refine (HT.out _ ?hbel).mono ?_); (case hbel => (repeat' (first | with_reducible exact HB0.out | with_reducible refine bal ?_ _ | with_reducible refine bdr ?_))); rintro e w4 ⟨Z, A', c', rfl, hn, hm, hr, hf, hb⟩; have HP := Lib.hid (jt3_5 HJ.out hn hm hr hf hb).2.2; have HXU := Lib.hid (jt3_5 HJ.out hn hm hr hf hb).1; have HXV := Lib.hid (jt3_5 HJ.out hn hm hr hf hb).2.1; have HB4 := Lib.hid ((bdr (bal (bal HB0.out (.cells #[.slice none 0 0, .int .i64 0, .int .i64 0, .int .i64 0, .int .i64 0] 28)) (.cells #[.slice none 0 0, .slice none 0 0, .int .i64 0, .int .i64 0, .slice none 0 0, .int .i64 0, .slice none 0 0, .slice none 0 0, .int .i64 0, .int .i64 0, .int .i64 0] 46))).trans (hb.mono (by simp <;> omega))); obtain ⟨z0, z1, z2, z3, z4, z5, z6, z7, z8, z9, z10⟩ := HXU.out.k; have zl := HXU.out.lt; obtain ⟨f0, f1, f2, f3, f4, f5, f6, f7, f8, f9, f10⟩ := HXU.out.free; obtain ⟨v0, v1, v2, v3, v4⟩ := HXV.out.k; have vl := HXV.out.lt; obtain ⟨e0, e1, e2, e3, e4⟩ := HXV.out.free; have huv : ¬ wr.heap.size = wr.heap.size + 1 := (by omega); have hvu : ¬ wr.heap.size + 1 = wr.heap.size := (by omega); clear hn hm hr hf hb) | (go_at_call 20; (with_reducible refine (HT.out _ ?hbel).mono ?_); (case hbel => (repeat' (first | with_reducible exact HB0.out | with_reducible refine bal ?_ _ | with_reducible refine bdr ?_))); rintro e w4 ⟨Z, A', c', rfl, hn, hm, hr, hf, hb⟩; have HP := Lib.hid (jt3_2 HJ.out hn hm hr hf hb).2; have HXU := Lib.hid (jt3_2 HJ.out hn hm hr hf hb).1; have HB4 := Lib.hid ((bdr (bal HB0.out (.cells #[.slice none 0 0, .slice none 0 0, .int .i64 0, .int .i64 0, .slice none 0 0, .int .i64 0, .slice none 0 0, .slice none 0 0, .int .i64 0, .int .i64 0, .int .i64 0] 46))).trans (hb.mono (by simp <;> omega))); obtain ⟨z0, z1, z2, z3, z4, z5, z6, z7, z8, z9, z10⟩ := HXU.out.k; have zl := HXU.out.lt; obtain ⟨f0, f1, f2, f3, f4, f5, f6, f7, f8, f9, f10⟩ := HXU.out.free; clear hn hm hr hf hb) | (go_at_call 20; (with_reducible refine (HT.out _ ?hbel).mono ?_); (case hbel => (repeat' (first | with_reducible exact HB0.out | with_reducible refine bal ?_ _ | with_reducible refine bdr ?_))); rintro e w4 ⟨Z, A', c', rfl, hn, hm, hr, hf, hb⟩; have HP := Lib.hid (jt3_3 HJ.out hn hm hr hf hb).2; have HXV := Lib.hid (jt3_3 HJ.out hn hm hr hf hb).1; have HB4 := Lib.hid ((bdr (bal HB0.out (.cells #[.slice none 0 0, .int .i64 0, .int .i64 0, .int .i64 0, .int .i64 0] 28))).trans (hb.mono (by simp <;> omega))); obtain ⟨v0, v1, v2, v3, v4⟩ := HXV.out.k; have vl := HXV.out.lt; obtain ⟨e0, e1, e2, e3, e4⟩ := HXV.out.free; clear hn hm hr hf hb) | (go_at_call 20; (with_reducible refine (HT.out _ ?hbel).mono ?_); (case hbel => (repeat' (first | with_reducible exact HB0.out | with_reducible refine bal ?_ _ | with_reducible refine bdr ?_))); rintro e w4 ⟨Z, A', c', rfl, hn, hm, hr, hf, hb⟩; have HP := Lib.hid (jt3_1 HJ.out (bdr HB0.out) hn hm hr hf hb).1; have HPQ := Lib.hid (jt3_1 HJ.out (bdr HB0.out) hn hm hr hf hb).2; have HB4 := Lib.hid ((bdr HB0.out).trans (hb.mono (by simp <;> omega))); clear hn hm hr hf hb))
                all_goals
                  go_wp2_with fail
                  go_meet
                  first
                  | exact ⟨_, _, Z, A', c', rfl, rfl, rfl, HP⟩
                  | exact ⟨_, _, Z, A', c', rfl, rfl, rfl, HPQ⟩
              case rest =>
                obtain ⟨u, v, Z, A', c', rfl, rfl, rfl, H3⟩ := hcut
                clear HT HSK HB0 HJ
                generalize wc = wx at *
                rcases HE.out with ⟨h5, rfl⟩ | ⟨h5, rfl⟩
                · have hb5 : (t.l.ph != 5) = false := by simp [h5]
                  have HJ := Lib.hid H3.out.j2
                  clear HE HNI h5
                  obtain ⟨-, t1, -⟩ := HJ.out.rb.at5 HT2.out
                  clear H3
                  go_wp2_with fail
                  go_roundw
                  case rel => exact ⟨r + 1, a, Y, Q, by go_num, HR60.out, Lib.hid ⟨HTV.out.mono (by omega), HJ.out⟩⟩
                  case measure => simp [intOf]; have := HR60.out; omega
                · have HJ5 := Lib.hid (H3.out.put HKQ.out.1)
                  replace HTV := Lib.hid (HNI.out h5 A' c')
                  clear h5 HE HNI
                  obtain ⟨z0, z1, z2, z3, z4, z5, z6, z7, z8, z9, z10⟩ := H3.out.ub.k
                  have zl := H3.out.ub.lt
                  obtain ⟨v0, v1, v2, v3, v4⟩ := H3.out.vb.k
                  have vl := H3.out.vb.lt
                  obtain ⟨y0, y1, y2, y3, y4, y5, y6, y7, y8, y9, y10⟩ := H3.out.j2.qb.k
                  have yl := H3.out.j2.qb.lt
                  obtain ⟨f0, f1, f2, f3, f4, f5, f6, f7, f8, f9, f10⟩ := H3.out.j2.qb.free
                  obtain ⟨t0, t1, t2, t3, t4⟩ := H3.out.j2.rb.at5 HT2.out
                  have rl := H3.out.j2.rb.lt
                  have d0 := H3.out.j2.rb.f (k * 5)
                  have d1 := H3.out.j2.rb.f (k * 5 + 1)
                  have d2 := H3.out.j2.rb.f (k * 5 + 2)
                  have d3 := H3.out.j2.rb.f (k * 5 + 3)
                  have d4 := H3.out.j2.rb.f (k * 5 + 4)
                  have nup : ¬ u = p := by have := H3.out.ne; have := H3.out.j2.ne; omega
                  have npu : ¬ p = u := fun e => nup e.symm
                  have nvp : ¬ v = p := by have := H3.out.ne; have := H3.out.j2.ne; omega
                  have npv : ¬ p = v := fun e => nvp e.symm
                  have nub : ¬ u = b := by have := H3.out.ne; omega
                  have nbu : ¬ b = u := fun e => nub e.symm
                  have nvb : ¬ v = b := by have := H3.out.ne; omega
                  have nbv : ¬ b = v := fun e => nvb e.symm
                  have npb : ¬ p = b := by have := H3.out.j2.ne; omega
                  have nbp : ¬ b = p := fun e => npb e.symm
                  clear H3
                  go_wp2
                  go_region
                  all_goals
                    have HJ := Lib.hid HJ5.out.drew
                    clear HJ5
                    obtain ⟨Q2, hQ2⟩ : ∃ x, x = Q.set k ⟨M, A', c'⟩ := ⟨_, rfl⟩
                    rw [← hQ2] at HJ HTV
                    have HSL := Lib.hid HTV.out.sl
                    clear hQ2
                    go_wp2_with fail
                    go_loopw [17] (fun cv wr => ∃ c : Nat, cv = .int .i64 (c : Int) ∧ c ≤ n + 1 ∧ Hid (Jt2 w g p b TA Z Q2 wr)) (fun cv _ => n + 1 - (intOf cv).toNat)
                    case atStart => exact ⟨0, rfl, by omega, HJ⟩
                    case round =>
                      clear HJ
                      obtain ⟨c, rfl, hc, HJ⟩ := hrel
                      by_cases hcn : c ≤ n
                      · have hcn' : (c : Int) ≤ (TA.sl.length : Int) := by rw [HSL.out]; omega
                        have hwc : IntKind.i64.wrap ((c : Int) + 1) = (c : Int) + 1 := IntWalk.i64_in _ (by have := HNN.out; omega)
                        have HC2 := Lib.hid hcn
                        obtain ⟨x, hx⟩ : ∃ x, x = TA.own c := ⟨_, rfl⟩
                        have HOW := Lib.hid (fun W (h : AR W W.heap.size TA Z) => rowner12_any TA Z c W h (by rw [HSL.out]; exact HC2.out))
                        rw [← hx] at HOW
                        have HX := Lib.hid hx
                        have HX3 := Lib.hid (wa_3 (x := x) (by rw [hx]; have := HTV.out.le hcn; omega))
                        clear hc hcn hx
                        obtain ⟨y0, -⟩ := HJ.out.qb.k
                        have yl := HJ.out.qb.lt
                        go_wp2_with fail
                        clear y0 yl
                        go_loopw [18, 19] (fun wv jv wr => ∃ j : Nat, jv = .int .i64 (j : Int) ∧ wv = .int .i64 (wa13 x j) ∧ j ≤ 3 ∧ Hid (Jt2 w g p b TA Z Q2 wr)) (fun _ jv _ => 3 - (intOf jv).toNat)
                        case atStart => exact ⟨0, rfl, by rw [wa_0], by omega, HJ⟩
                        case round =>
                          clear HJ
                          obtain ⟨j, rfl, rfl, hj3, HJ⟩ := hrel
                          by_cases hlt : j < 3
                          · have hjlt : (j : Int) < 3 := by omega
                            have hj0 : (0 : Int) ≤ (j : Int) := by omega
                            have hwj : IntKind.i64.wrap ((j : Int) + 1) = (j : Int) + 1 := IntWalk.i64_in _ (by omega)
                            have hjq : j < Q2.length := by rw [HTV.out.ql]; exact hlt
                            obtain ⟨s, hs⟩ : ∃ s, Q2[j]? = some s := ⟨_, List.getElem?_eq_getElem hjq⟩
                            have HS2 := Lib.hid hs
                            have HJ3 := Lib.hid hlt
                            have HOK := Lib.hid (HTV.out.iv.ok _ _ (map_at hs))
                            have HHL := Lib.hid (show x = (j : Int) + 1 ↔ Hl s.l c from by rw [HX.out]; exact HTV.out.owns hs HC2.out)
                            have HWY := Lib.hid (fun (h : x = (j : Int) + 1) => wa_yes h)
                            have HWN := Lib.hid (fun (h : x ≠ (j : Int) + 1) => wa_no h)
                            obtain ⟨V, hV⟩ : ∃ V, V = wa13 x j := ⟨_, rfl⟩
                            rw [← hV] at HWN ⊢
                            clear hlt hj3 hjq hs hV
                            go_wp2_with fail
                            go_loopw [18, 20] (fun wv hv wr => ∃ (h : Nat) (y : Int), hv = .int .i64 (h : Int) ∧ wv = .int .i64 y ∧ h ≤ s.l.h ∧ Hid (((∃ i, i < h ∧ ig s.l.cs i = (c : Int)) ∧ y = (j : Int) + 1) ∨ ((∀ i, i < h → ig s.l.cs i ≠ (c : Int)) ∧ y = V)) ∧ Hid (Jt2 w g p b TA Z Q2 wr)) (fun _ hv _ => s.l.h - (intOf hv).toNat)
                            case atStart => exact ⟨0, V, rfl, rfl, Nat.zero_le _, Lib.hid (.inr ⟨fun i hi => by omega, rfl⟩), HJ⟩
                            case round =>
                              clear HJ
                              obtain ⟨h, y, rfl, rfl, hhl, HY, HJ⟩ := hrel
                              by_cases hh : h < s.l.h
                              · have hlen : h < s.l.cs.length := by have := HOK.out.hle; omega
                                have hh1 : (h : Int) < s.l.hv := by rw [HOK.out.hv]; omega
                                have hh2 : (h : Int) < (s.l.cs.length : Int) := by omega
                                have hh0 : (0 : Int) ≤ (h : Int) := by omega
                                have hwh : IntKind.i64.wrap ((h : Int) + 1) = (h : Int) + 1 := IntWalk.i64_in _ (by have := HOK.out.l3; omega)
                                have HHH := Lib.hid hh
                                obtain ⟨t0, -, t2, -⟩ := HJ.out.rb.at5 HS2.out
                                obtain ⟨cb, co, hA, hcb, hc⟩ := (HJ.out.lx s (List.mem_of_getElem? HS2.out)).fl.atg hlen
                                rw [hA] at t0
                                obtain ⟨z, hz⟩ : ∃ z, z = ig s.l.cs h := ⟨_, rfl⟩
                                have HZ := Lib.hid hz
                                rw [← hz] at hc
                                clear hhl hh hlen hA hz
                                by_cases hzc : z = (c : Int)
                                · have hb : (z == (c : Int)) = true := by simp [hzc]
                                  have HN := Lib.hid (show ∃ i, i < h + 1 ∧ ig s.l.cs i = (c : Int) from ⟨h, by omega, by rw [← HZ.out]; exact hzc⟩)
                                  clear hzc HY
                                  go_wp2
                                  go_roundw
                                  case rel => exact ⟨h + 1, (j : Int) + 1, by go_num, by go_num, HHH.out, Lib.hid (.inl ⟨HN.out, rfl⟩), HJ⟩
                                  case measure => simp [intOf]; have := HHH.out; omega
                                · have hb : (z == (c : Int)) = false := beq_eq_false_iff_ne.2 hzc
                                  have HN := Lib.hid (show ((∃ i, i < h + 1 ∧ ig s.l.cs i = (c : Int)) ∧ y = (j : Int) + 1) ∨ ((∀ i, i < h + 1 → ig s.l.cs i ≠ (c : Int)) ∧ y = V) from by
                                    rcases HY.out with ⟨⟨i, hi, he⟩, hy⟩ | ⟨ha, hy⟩
                                    · exact .inl ⟨⟨i, by omega, he⟩, hy⟩
                                    · refine .inr ⟨fun i hi => ?_, hy⟩
                                      by_cases e : i = h
                                      · subst e; rw [← HZ.out]; exact hzc
                                      · exact ha i (by omega))
                                  clear hzc HY
                                  go_wp2
                                  go_roundw
                                  case rel => exact ⟨h + 1, y, by go_num, rfl, HHH.out, HN, HJ⟩
                                  case measure => simp [intOf]; have := HHH.out; omega
                              · have hh1 : ¬ (h : Int) < s.l.hv := by rw [HOK.out.hv]; omega
                                obtain rfl : h = s.l.h := by omega
                                have HF := Lib.hid (show y = wa13 x (j + 1) from by
                                  rcases HY.out with ⟨he, hy⟩ | ⟨ha, hy⟩
                                  · rw [HWY.out (HHL.out.2 he)]; exact hy
                                  · rw [HWN.out (fun e => by obtain ⟨i, hi, hc⟩ := HHL.out.1 e; exact ha i hi hc)]; exact hy)
                                obtain ⟨-, -, t2, -⟩ := HJ.out.rb.at5 HS2.out
                                clear hhl hh HY
                                go_wp2_with fail
                                go_roundw
                                case rel => exact ⟨j + 1, by go_num, by rw [HF.out], HJ3.out, HJ⟩
                                case measure => simp [intOf]; have := HJ3.out; omega
                          · obtain rfl : j = 3 := by omega
                            rw [HX3.out]
                            rw [show ((3 : Nat) : Int) = 3 from rfl]
                            have hbx : (x != x) = false := by simp
                            obtain ⟨y0, y1, y2, y3, y4, y5, y6, y7, y8, y9, y10⟩ := HJ.out.qb.k
                            have yl := HJ.out.qb.lt
                            clear hlt hj3
                            go_wp2_with fail
                            clear y0 y1 y2 y3 y4 y5 y6 y7 y8 y9 y10 yl
                            refine (HOW.out _ HJ.out.ar).mono ?_
                            rintro e x1 ⟨rfl, hb⟩
                            have HJ := Lib.hid (HJ.out.below hb)
                            clear hb HOW
                            go_wp2
                            go_roundw
                            case rel => exact ⟨c + 1, by go_num, by have := HC2.out; omega, HJ⟩
                            case measure => simp [intOf]; have := HC2.out; omega
                      · have hcn' : ¬ (c : Int) ≤ (TA.sl.length : Int) := by rw [HSL.out]; omega
                        obtain ⟨y0, -⟩ := HJ.out.qb.k
                        have yl := HJ.out.qb.lt
                        clear hc hcn
                        go_wp2_with fail
                        go_roundw
                        case rel => exact ⟨r + 1, TA, Z, Q2, by go_num, HR60.out, Lib.hid ⟨HTV.out, HJ.out⟩⟩
                        case measure => simp [intOf]; have := HR60.out; omega
/-! The row's step, as the guide's shell has it. -/
namespace lockerOrder
open Go.ChangeShapes Go.WideShapes Go.ChangeAt
open Go.ChangeMaps (open_string shut_string)
theorem own : ownKnob Try.prog.godebug = none := by kernel_rfl
theorem laidOut : laidOutB Try.prog = true := by kernel_rfl

set_option maxRecDepth 100000 in
theorem lifted (os : Os) (started : os.Started) (H : Type) (enc : TypeId × Value → H) :
    ReturnsInHanded {} Try.checked os 5 .any (Rows.lockerOrderSpec.pre6 enc Try.prog Try.f5 Rows.lockerOrderRow.domain false) (Rows.lockerOrderSpec.post enc Try.prog Try.f5 false true false false) := by
  refine returnsInHanded_of_change (C := Try.checked) own started (by kernel_rfl) Try.func5
    (ChangeSpec.witness6 (enc := enc) (C := Try.checked) false ⟨#[], #[.slice none 0 0], []⟩ 8 (by kernel_rfl) (by kernel_rfl) (by kernel_rfl) (by kernel_rfl)) ?_
  intro W base args ds gs before hval0 hW hcnd _
  have hval : ∀ (j : Nat) t v, Try.f5.params[j]? = some t → args[j]? = some v → Value.okWide Try.prog W .any base t v := hval0
  have hW' := hW
  obtain ⟨p, q, hA0, hV, rfl, hfz, hnd⟩ := hW
  have hA : DataW.TrodAll enc Try.prog W 0 (fun _ => true) true Try.f5.params.toList args.toList ds p := hA0
  rw [Try.params5] at hA hval
  obtain ⟨v0, vs0, d0, ds0, p0, q0, hargs, rfl, rfl, h0, r0⟩ := trodAll_cons hA
  obtain ⟨rfl, rfl, rfl⟩ := trodAll_nil r0
  obtain rfl : args = #[v0] := by cases args; simp_all
  obtain ⟨rfl, rfl⟩ := trodVars_none hV
  obtain ⟨a0, len0, cap0, rfl⟩ := okWide_slice Try.underlying22 (hval 0 22 v0 rfl rfl)
  have k0 := h0
  have lt0 : ∀ x ∈ p0, x.block < W.heap.size := by obtain ⟨m, hm⟩ := k0; exact DataW.trod_lt m _ _ _ hm
  obtain ⟨z0, w0⟩ : ∃ zs, Ns W W.heap.size (.slice a0 len0 cap0) zs := by
    obtain ⟨fuel, hf⟩ := h0
    rcases open_ints Try.underlying22 Try.underlying3 (by kernel_rfl) hf with ⟨hcs, _⟩ | ⟨x, l, c, zs, hcs, _, hl, hm, hz, _, hcell, hwz⟩
    · simp [Value.cells] at hcs
      obtain ⟨rfl, rfl, rfl⟩ := hcs
      exact ⟨[], Ns.nil⟩
    · simp [Value.cells] at hcs
      obtain ⟨rfl, rfl, rfl⟩ := hcs
      exact Ns.of_cells hl hm (by simpa using hz) hcell hwz
  clear hA0 hval0
  refine (LockerOrder_walk W a0 len0 cap0 z0 w0).mono fun e W' ⟨he, bel⟩ => ?_
  subst he
  exact ⟨_, rfl, _, _, _, [], _, [], hW', trodAll_mk1 (shut_bool Try.underlying4 _), (trodAll_cons_mk (Below.trod laidOut (by kernel_rfl) (of_decide_eq_true (by kernel_rfl)) k0 bel lt0) trodAll_mk0), rfl, bel.frame _, fun h => by cases h⟩

theorem over : Rows.lockerOrderRow.holds Try.pinned (OpenSpec.ofChange Rows.lockerOrderSpec) :=
  OpenClaim.holds_of_wide 5 Try.f5 rfl rfl rfl rfl rfl rfl rfl ⟨rfl, rfl, rfl, rfl, rfl⟩ rfl rfl rfl rfl rfl (by kernel_rfl) Try.func5 (by kernel_rfl)
    (of_decide_eq_true (by kernel_rfl)) (by unfold Func.isWrapper; first | (rw [if_pos (by decide +kernel)]; kernel_rfl) | (rw [if_neg (by decide +kernel)]; exact ⟨rfl, rfl⟩))
    (fun os started H enc _ => lifted os started H enc)

/-- The statement. -/
theorem proved : Rows.LockerOrderSaid := over
#print axioms proved
end lockerOrder
end Go.Proofs.Ytommkhjgockpfaa
