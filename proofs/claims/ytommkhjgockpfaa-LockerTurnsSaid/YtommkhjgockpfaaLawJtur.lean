/- What is proved here: shardqueuelaw13.LockerTurns returns true for every input and leaves its arguments as they were. No condition. -/
import Derived.Test.YtommkhjgockpfaaJ44
import Derived.Test.YtommkhjgockpfaaJ45
import Derived.Test.YtommkhjgockpfaaJ22
import Derived.Test.YtommkhjgockpfaaJ39
import Derived.Deep.AppendLies
import Derived.ProofKit
import Derived.OpenShut
import Derived.ChangeOld
import Derived.Deep.DeepCutAuto
import Derived.Deep.RegionHeld3
namespace Go.Proofs.Ytommkhjgockpfaa
open Go.RowKit
set_option linter.unusedVariables false

set_option maxHeartbeats 8000000 in
set_option maxRecDepth 20000 in
theorem LockerTurns_walk (w : World) (a1 : Option Addr) (l1 c1 : Nat) (zs : List Int) (hz : Ns w w.heap.size (.slice a1 l1 c1) zs) :
    Calls Try.prog 6 #[.slice a1 l1 c1] w fun e w' => e = .returned (.bool true) ∧ Below w.heap.size w w' := by
  have HAW := Lib.hid (fun W => awake13_any W)
  have HNS := Lib.hid (new_src a1 l1 c1 zs w hz)
  obtain ⟨i0, hi0, hz0⟩ := Option.map_eq_some_iff.1 info_lk
  simp only [Prod.mk.injEq] at hz0
  have HI := Lib.hid hi0
  have HZ := Lib.hid hz0
  clear hz hi0 hz0
  go_enter Try.func6, Try.ntmps6
  go_wp2_with fail
  refine HNS.out.mono ?_
  rintro e w2 ⟨g, rfl, hs, hb⟩
  have HS := Lib.hid hs
  have HB := Lib.hid hb
  clear hs hb HNS
  go_wp2_with fail
  refine (setup_any w.heap.size g _ HS.out).mono ?_
  rintro e w3 ⟨s, rfl, hok, hs, hg⟩
  have HB := Lib.hid (HB.out.grown hg HB.out.size (fun k e => by injection e with e; have := HS.out.1; omega))
  have HS := Lib.hid hs
  obtain ⟨hE, n, n0, n6, hca⟩ := ca_nw hok
  have how := nw_ow hok
  have HN := Lib.hid (anew_any s w3)
  rw [hE] at HN
  obtain ⟨A0, hA0⟩ : ∃ A, A = nwA s := ⟨_, rfl⟩
  rw [← hA0] at HN hca how
  have HCA := Lib.hid (And.intro hca.fw (own_all hca how))
  have HNN := Lib.hid (show 0 < n ∧ n ≤ 6 ∧ A0.sl.length = n from ⟨n0, n6, hca.sl⟩)
  clear hg hs hok hE hca how hA0 n0 n6
  go_wp2_with fail
  refine HN.out.mono ?_
  rintro e w4 ⟨Y0, rfl, hn, hr, hb⟩
  have H1 := Lib.hid (Jb1.start HS.out hn hr hb HB.out)
  clear hn hr hb HN HS HB
  go_upto_region 3 with (fail)
  obtain ⟨p, hp⟩ : ∃ p, p = w4.heap.size := ⟨_, rfl⟩
  rw [← hp] at H1 ⊢
  clear hp
  generalize w4.alloc (.cells #[.slice Y0.A A0.sl.length Y0.c, .slice Y0.A2 A0.st.length Y0.c2, .int .i64 A0.ow, .int .i64 A0.cap, .slice Y0.A3 A0.dl.length Y0.c3, .int .i64 A0.dir.vn, .slice Y0.D.A A0.dir.l.length Y0.D.c, .slice Y0.D.A2 A0.dir.F.length Y0.D.c2, .int .i64 A0.ep, .int .i64 A0.ck, .int .i64 A0.ni] 46) = w5 at *
  go_wp2_with fail
  refine (range_any w.heap.size g _ H1.out.src 1 6 (by omega) (by omega) (by omega)).mono ?_
  rintro e w6 ⟨mi, rfl, m1, m2, hs, hg⟩
  have H1 := Lib.hid (H1.out.turn hs hg)
  obtain ⟨m, rfl⟩ : ∃ m : Nat, mi = (m : Int) := ⟨mi.toNat, by omega⟩
  have HM := Lib.hid (show 1 ≤ m ∧ m ≤ 6 by omega)
  clear hs hg m1 m2
  go_wp2_with fail
  go_loopw [7, 8] (fun sv iv wr => ∃ (A : Option Addr) (c : Nat) (Q : List Lc), iv = .int .i64 (Q.length : Int) ∧ sv = .slice A Q.length c ∧ Q.length ≤ m ∧ Hid ((∀ t ∈ Q, Ok0 n t.l) ∧ Jb1 w g p A0 Y0 A c Q wr)) (fun _ iv _ => m - (intOf iv).toNat)
  case atStart => exact ⟨none, 0, [], rfl, rfl, by simp, Lib.hid ⟨fun t ht => absurd ht (by simp), H1.out⟩⟩
  case round =>
    clear H1
    obtain ⟨A, c, Q, rfl, rfl, hQm, H⟩ := hrel
    by_cases hlt : Q.length < m
    · have hlt' : (Q.length : Int) < (m : Int) := by omega
      have hw1 : IntKind.i64.wrap ((Q.length : Int) + 1) = (Q.length : Int) + 1 := IntWalk.i64_in _ (by have := HM.out; omega)
      have HQL := Lib.hid (show Q.length ≤ 6 ∧ Q.length < m from by have := HM.out; omega)
      have HOK := Lib.hid H.out.1
      have HW := Lib.hid H.out.2
      clear hlt hQm H
      obtain ⟨y0, -⟩ := HW.out.qb.k
      have yl := HW.out.qb.lt
      rw [HNN.out.2.2] at y0
      go_wp2_with fail
      clear y0 yl
      refine (some13_any n w.heap.size g _ HW.out.src (by have := HNN.out; omega)).mono ?_
      rintro e x6 ⟨A1, c1', cs, rfl, hokc, hl1, hnw, hfl, hs, hg⟩
      have HW := Lib.hid (HW.out.turn hs hg)
      have HNC := Lib.hid (jnew_any A1 c1' cs x6 hfl)
      rw [(okc_new hokc hl1 HNN.out.2.1).1, (okc_new hokc hl1 HNN.out.2.1).2] at HNC
      have HT := Lib.hid (ok0_new hokc hl1)
      clear hokc hl1 hnw hfl hs hg
      go_wp2_with fail
      refine HNC.out.mono ?_
      rintro e x7 ⟨A2, c2, rfl, hnw, hfl, hb⟩
      have HWF := Lib.hid (show Fl (x7.alloc (.cells #[.slice A2 cs.length c2, .int .i64 0, .int .i64 0, .int .i64 0, .int .i64 0] 28)) (x7.alloc (.cells #[.slice A2 cs.length c2, .int .i64 0, .int .i64 0, .int .i64 0, .int .i64 0] 28)).heap.size (.slice A2 cs.length c2) cs ∧ (OffB p cs.length A2 ∧ OffB g cs.length A2) ∧ ∀ b, (Value.slice A Q.length c).ownBlock = some b → OffB b cs.length A2 from ⟨hfl.alloc2 _, ⟨offb_nw hnw HW.out.qb.lt, offb_nw hnw HW.out.src.2.1⟩, fun b e => offb_nw hnw (HW.out.own.lt b e).2⟩)
      have HW := Lib.hid ((HW.out.below hb).below ((Below.refl x7.heap.size x7).alloc (Nat.le_refl _) (.cells #[.slice A2 cs.length c2, .int .i64 0, .int .i64 0, .int .i64 0, .int .i64 0] 28)))
      have HX := Lib.hid (LB.start x7 ⟨cs, 0, 0, 0, 0⟩ A2 c2 28)
      clear hnw hfl hb HNC
      go_upto_region 11 with (fail)
      obtain ⟨x, hx⟩ : ∃ x, x = x7.heap.size := ⟨_, rfl⟩
      rw [← hx] at HX ⊢
      clear hx
      have HX := Lib.hid (show LB (x7.alloc (.cells #[.slice A2 cs.length c2, .int .i64 0, .int .i64 0, .int .i64 0, .int .i64 0] 28)) x ⟨cs, 0, 0, 0, 0⟩ A2 c2 from HX.out)
      generalize (x7.alloc (.cells #[.slice A2 cs.length c2, .int .i64 0, .int .i64 0, .int .i64 0, .int .i64 0] 28)) = x8 at *
      have HWF := Lib.hid (show Fl (x8.alloc (.cells (Lc.mk ⟨cs, 0, 0, 0, 0⟩ A2 c2).v.toArray 28)) (x8.alloc (.cells (Lc.mk ⟨cs, 0, 0, 0, 0⟩ A2 c2).v.toArray 28)).heap.size (.slice A2 cs.length c2) cs ∧ (OffB p cs.length A2 ∧ OffB g cs.length A2) ∧ ∀ b, (Value.slice A Q.length c).ownBlock = some b → OffB b cs.length A2 from ⟨HWF.out.1.alloc2 _, HWF.out.2⟩)
      have HW := Lib.hid (HW.out.below ((Below.refl x8.heap.size x8).alloc (Nat.le_refl _) (.cells (Lc.mk ⟨cs, 0, 0, 0, 0⟩ A2 c2).v.toArray 28)))
      obtain ⟨u0, u1, u2, u3, u4⟩ := HX.out.k
      have ul := HX.out.lt
      go_wp2_with (at_builtin; refine wpList_append_lies _ rfl _ _ _ rfl (p + 1) 28 i0 _ 5 56 Try.underlying52 HI.out HZ.out.1 HZ.out.2.1 HZ.out.2.2 rfl (by omega) (.slice A Q.length c) Q.length (kcs Q) (by rfl) HW.out.own ⟨x8.heap.size, 0, none⟩ 1 1 (Lc.mk ⟨cs, 0, 0, 0, 0⟩ A2 c2).v (by rfl) (by rfl) (World.news_of_block (cs := (Lc.mk ⟨cs, 0, 0, 0, 0⟩ A2 c2).v.toArray) (t := 28) (fr := (0, 0)) (heap_alloc_new x8 _)) (Lc.v_one _) (by omega) (by have := HQL.out; unfold maxLen; omega) (by have := HQL.out; omega) (Nat.succ_le_of_lt HW.out.qb.lt) _ rfl ?_; intro g1 cp1 w8 hown1 hgrow1 hat1 hlt1; have HP8 := Lib.hid (HW.out.app (T := ⟨⟨cs, 0, 0, 0, 0⟩, A2, c2⟩) HWF.out.1 HWF.out.2.1 HWF.out.2.2 hown1 hgrow1 hat1); clear hown1 hgrow1 hat1 hlt1)
      clear u0 u1 u2 u3 u4 ul
      exact ⟨⟨_, _, Q ++ [⟨⟨cs, 0, 0, 0, 0⟩, A2, c2⟩], by simp, by simp, by have := HQL.out; simp; omega, Lib.hid ⟨fun t ht => by
        rcases List.mem_append.1 ht with h1 | h1
        · exact HOK.out t h1
        · obtain rfl : t = ⟨⟨cs, 0, 0, 0, 0⟩, A2, c2⟩ := by simpa using h1
          exact HT.out, HP8.out⟩⟩, by simp [intOf]; have := HQL.out; omega⟩
    · have hqm : Q.length = m := by omega
      obtain ⟨b, cap, he, hj2⟩ := H.out.2.end_ (by have := HM.out; omega)
      have HQ0 := Lib.hid H.out.1
      have HJ := Lib.hid hj2
      have HQM := Lib.hid hqm
      injection he with he1 he2 he3
      subst he1 he3
      have hlt' : ¬ (Q.length : Int) < (m : Int) := by omega
      rw [hqm] at hlt' ⊢
      clear hj2 H hlt hQm hqm he2
      have HOU := Lib.hid (out_start (hQ := HQ0.out) HQM.out HM.out.1 HM.out.2 HNN.out.2.2 HCA.out.1 HCA.out.2)
      clear HQ0 HQM HI HZ HCA
      go_wp2_with fail
      go_loopw [11, 12] (fun lv rv wr => ∃ (r lf : Nat) (a : Ar) (Y : Ax) (Q : List Lc), rv = .int .i64 (r : Int) ∧ lv = .int .i64 (lf : Int) ∧ r ≤ 400 ∧ Hid (Out13 n m r lf a Q ∧ Jt2 w g p b a Y Q wr)) (fun _ rv _ => 400 - (intOf rv).toNat)
      case atStart => exact ⟨0, m, A0, Y0, Q, rfl, rfl, by omega, Lib.hid ⟨HOU.out, HJ.out⟩⟩
      case round =>
        clear HOU HJ hlt'
        obtain ⟨r, lf, a, Y, Q, rfl, rfl, hr4, H⟩ := hrel
        have HO := Lib.hid H.out.1
        have HJ := Lib.hid H.out.2
        clear H
        by_cases hlf : 0 < lf
        · have hr400 : (r : Int) < 400 := by have := HO.out.lt hlf; omega
          have hlf' : (0 : Int) < (lf : Int) := by omega
          have hlf2 : 0 < lf := hlf
          have hwr : IntKind.i64.wrap ((r : Int) + 1) = (r : Int) + 1 := IntWalk.i64_in _ (by omega)
          have HR := Lib.hid (show r < 400 by omega)
          have HIN := Lib.hid (in_start HO.out hlf)
          clear hlf hr4 HO
          go_wp2_with fail
          go_loopw [11, 13] (fun lv kv wr => ∃ (k lf : Nat) (a : Ar) (Y : Ax) (Q : List Lc), kv = .int .i64 (k : Int) ∧ lv = .int .i64 (lf : Int) ∧ k ≤ m ∧ Hid (In13 n m r k lf a Q ∧ Jt2 w g p b a Y Q wr)) (fun _ kv _ => m - (intOf kv).toNat)
          case atStart => exact ⟨0, 0, a, Y, Q, rfl, rfl, Nat.zero_le _, Lib.hid ⟨HIN.out, HJ.out⟩⟩
          case round =>
            clear HIN HJ hr400 hlf' hlf2
            obtain ⟨k, lf, a, Y, Q, rfl, rfl, hkm, H⟩ := hrel
            have HIN := Lib.hid H.out.1
            have HJ := Lib.hid H.out.2
            clear H
            by_cases hlt : k < m
            · have hlt' : (k : Int) < (m : Int) := by omega
              have hk0 : (0 : Int) ≤ (k : Int) := by omega
              have hwk : IntKind.i64.wrap ((k : Int) + 1) = (k : Int) + 1 := IntWalk.i64_in _ (by have := HM.out; omega)
              have hwl : IntKind.i64.wrap ((lf : Int) + 1) = (lf : Int) + 1 := IntWalk.i64_in _ (by have := HM.out; have := HIN.out.lk; omega)
              have hkq : k < Q.length := by rw [HIN.out.tv.ql]; exact hlt
              obtain ⟨t, ht⟩ : ∃ t, Q[k]? = some t := ⟨_, List.getElem?_eq_getElem hkq⟩
              have HT := Lib.hid ht
              have HKM := Lib.hid (And.intro hlt hkq)
              have HR5 := Lib.hid (HJ.out.rb.at5 ht)
              clear ht hkq hlt hkm
              obtain ⟨-, t1, -⟩ := HR5.out
              by_cases h5 : t.l.ph = 5
              · have hb5 : (t.l.ph == 5) = true := by simp [h5]
                have HN2 := Lib.hid (in_skip HIN.out HT.out h5)
                clear h5 HIN
                go_wp2
                go_roundw
                case rel => exact ⟨k + 1, lf, a, Y, Q, by go_num, rfl, HKM.out.1, Lib.hid ⟨HN2.out, HJ.out⟩⟩
                case measure => simp [intOf]; have := HKM.out; omega
              · have hb5 : (t.l.ph == 5) = false := by simp [h5]
                have H5 := Lib.hid h5
                clear h5
                go_upto_if 79 with (fail)
                clear t1 hb5
                have HJ2B := Lib.hid HJ.out.rb.lt
                go_cut [] (fun wx => ∃ (Q' : List Lc) (t' : Lc), Hid (In13 n m r k lf a Q' ∧ Jt2 w g p b a Y Q' wx ∧ Q'[k]? = some t' ∧ t'.l.ph ≠ 3 ∧ t'.l.ph ≠ 5))
                case first =>
                  obtain ⟨t0, t1, t2, t3, t4⟩ := HR5.out
                  by_cases h3 : t.l.ph = 3
                  · have hb3 : (t.l.ph == 3) = true := by simp [h3]
                    have HFR := Lib.hid (jfree_any t.l t.A t.c wr (HJ.out.lx t (List.mem_of_getElem? HT.out)).fl (by have := (HIN.out.tv.iv.ok _ _ (map_at HT.out)).l3; omega))
                    rw [show frE t.l = 0 from if_pos h3] at HFR
                    have HP4 := Lib.hid (show (frL t.l).ph = 4 from by rw [show frL t.l = ⟨t.l.cs, 4, t.l.hv, t.l.tr, t.l.wt⟩ from if_pos h3])
                    have HNI := Lib.hid (fun (A : Option Addr) (c : Nat) => in_free (A := A) (c := c) HIN.out HT.out h3)
                    obtain ⟨M, hM⟩ : ∃ M, M = frL t.l := ⟨_, rfl⟩
                    rw [← hM] at HFR HP4 HNI
                    clear h3 hM HIN
                    obtain ⟨hk1, hk2⟩ := And.intro hk0 hlt'
                    go_wp2_with fail
                    clear t0 t1 t2 t3 t4
                    refine HFR.out.mono ?_
                    rintro e x1 ⟨A2, c2, rfl, hn, hl, hb⟩
                    have HLX := Lib.hid (show Lx (x1.alloc (.cells #[.slice A2 M.cs.length c2, .int .i64 M.ph, .int .i64 M.hv, .int .i64 M.tr, .int .i64 M.wt] 28)) p b g ⟨M, A2, c2⟩ from ⟨hl.alloc2 _, offb_nw hn HJ.out.qb.lt, offb_nw hn HJ.out.rb.lt, offb_nw hn HJ.out.src.2.1⟩)
                    have HJ := Lib.hid ((HJ.out.below hb).below ((Below.refl x1.heap.size x1).alloc (Nat.le_refl _) (.cells #[.slice A2 M.cs.length c2, .int .i64 M.ph, .int .i64 M.hv, .int .i64 M.tr, .int .i64 M.wt] 28)))
                    have HX := Lib.hid (LB.start x1 M A2 c2 28)
                    have HXB := Lib.hid (show b < x1.heap.size from Nat.lt_of_lt_of_le (HJ2B.out) hb.size)
                    clear hn hl hb HFR
                    go_upto_region 28 with (fail)
                    obtain ⟨x, hx⟩ : ∃ x, x = x1.heap.size := ⟨_, rfl⟩
                    rw [← hx] at HX HXB ⊢
                    clear hx
                    generalize (x1.alloc (.cells #[.slice A2 M.cs.length c2, .int .i64 M.ph, .int .i64 M.hv, .int .i64 M.tr, .int .i64 M.wt] 28)) = x2 at *
                    have HJ5 := Lib.hid (HJ.out.putK HKM.out.2 HLX.out)
                    obtain ⟨u0, u1, u2, u3, u4⟩ := HX.out.k
                    have ul := HX.out.lt
                    obtain ⟨t0, t1, t2, t3, t4⟩ := HJ.out.rb.at5 HT.out
                    have rl := HJ.out.rb.lt
                    have f0 := HJ.out.rb.f (k * 5)
                    have f1 := HJ.out.rb.f (k * 5 + 1)
                    have f2 := HJ.out.rb.f (k * 5 + 2)
                    have f3 := HJ.out.rb.f (k * 5 + 3)
                    have f4 := HJ.out.rb.f (k * 5 + 4)
                    have nxb : ¬ x = b := by have := HXB.out; omega
                    have nbx : ¬ b = x := fun e => nxb e.symm
                    go_wp2_with fail
                    go_meet
                    exact ⟨Q.set k ⟨M, A2, c2⟩, ⟨M, A2, c2⟩, Lib.hid ⟨HNI.out A2 c2, HJ5.out, by rw [List.getElem?_set_self HKM.out.2], by show M.ph ≠ 3; rw [HP4.out]; decide, by show M.ph ≠ 5; rw [HP4.out]; decide⟩⟩
                  · have hb3 : (t.l.ph == 3) = false := by simp [h3]
                    have HRE := Lib.hid (show ∃ (Q' : List Lc) (t' : Lc), Hid (In13 n m r k lf a Q' ∧ Jt2 w g p b a Y Q' wr ∧ Q'[k]? = some t' ∧ t'.l.ph ≠ 3 ∧ t'.l.ph ≠ 5) from ⟨Q, t, Lib.hid ⟨HIN.out, HJ.out, HT.out, h3, H5.out⟩⟩)
                    clear h3 HIN HJ
                    go_wp2_with fail
                    go_meet
                    exact HRE.out
                case rest =>
                  clear HIN HJ HT H5 HJ2B HKM HR5
                  clear t
                  clear Q
                  obtain ⟨Q, t, H⟩ := hcut
                  have HIN := Lib.hid H.out.1
                  have HJ := Lib.hid H.out.2.1
                  have HT := Lib.hid H.out.2.2.1
                  have HP35 := Lib.hid H.out.2.2.2
                  have HKQ := Lib.hid (show k < Q.length ∧ k < m from ⟨(List.getElem?_eq_some_iff.1 HT.out).1, by have := HIN.out.tv.ql; have := (List.getElem?_eq_some_iff.1 HT.out).1; omega⟩)
                  clear H
                  generalize wc = wr at *
                  obtain ⟨TA, hTA⟩ : ∃ x, x = stA13 a t.l ((k : Int) + 1) := ⟨_, rfl⟩
                  obtain ⟨M, hM⟩ : ∃ x, x = stL13 a t.l ((k : Int) + 1) := ⟨_, rfl⟩
                  have hst := fun A c => in_step (A := A) (c := c) HIN.out HNN.out.2.1 HM.out.2 HT.out HP35.out
                  have HTC := Lib.hid (fun W (h : Below wr.heap.size wr W) => jstep_any a Y t.l t.A t.c ((k : Int) + 1) W (HJ.out.ar.up h) ((HJ.out.lx t (List.mem_of_getElem? HT.out)).fl.up h) HIN.out.tv.fw (HIN.out.tv.sm (by have := HM.out; have := HKQ.out; have := HR.out; omega) HT.out))
                  rw [(hst none 0).1, ← hTA, ← hM] at HTC
                  rw [← hTA, ← hM] at hst
                  have HNI := Lib.hid (fun A c => (hst A c).2)
                  have HSK := Lib.hid (show ∀ W, Below wr.heap.size wr W → K11 p a Y W ∧ R5 W b (k * 5) t from fun W h => ⟨(HJ.out.qb.up h).k, (HJ.out.rb.up h).at5 HT.out⟩)
                  have HB0 := Lib.hid (Below.refl wr.heap.size wr)
                  have HT2 := Lib.hid HT.out
                  have HT := Lib.hid HTC.out
                  clear hst hTA hM HTC HIN
                  go_wp2
                  go_cut [16, 17, 18] (fun s16 s17 s18 wx => ∃ (u v : Nat) (Z : Ax) (A' : Option Addr) (c' : Nat), s16 = .pointer (some ⟨u, 0, none⟩) ∧ s17 = .pointer (some ⟨v, 0, none⟩) ∧ s18 = .int .i64 0 ∧ Hid (Jt3 w g p b u v a Y Q TA Z ⟨M, A', c'⟩ wx))
                  case first =>
                    go_region_held3 (fun W => K11 p a Y W ∧ R5 W b (k * 5) t)
                      ((refine HSK.out _ ?_; repeat' (first | with_reducible exact HB0.out | with_reducible exact HB4.out | with_reducible refine bal ?_ _ | with_reducible refine bdr ?_ | with_reducible refine bst ?_ ?_ _ | exact Nat.le_refl _ | (simp; done) | (simp; omega))))
                      (first | (go_at_call 20; (with_reducible refine (HT.out _ ?hbel).mono ?_); (case hbel => (repeat' (first | with_reducible exact HB0.out | with_reducible refine bal ?_ _ | with_reducible refine bdr ?_))); rintro e w4 ⟨Z, A', c', rfl, hn, hm, hr, hf, hb⟩; have HP := Lib.hid (jt3_4 HJ.out hn hm hr hf hb).2.2; have HXU := Lib.hid (jt3_4 HJ.out hn hm hr hf hb).1; have HXV := Lib.hid (jt3_4 HJ.out hn hm hr hf hb).2.1; have HB4 := Lib.hid ((bdr (bal (bal HB0.out (.cells #[.slice none 0 0, .slice none 0 0, .int .i64 0, .int .i64 0, .slice none 0 0, .int .i64 0, .slice none 0 0, .slice none 0 0, .int .i64 0, .int .i64 0, .int .i64 0] 46)) (.cells #[.slice none 0 0, .int .i64 0, .int .i64 0, .int .i64 0, .int .i64 0] 28))).trans (hb.mono (by simp <;> omega))); obtain ⟨z0, z1, z2, z3, z4, z5, z6, z7, z8, z9, z10⟩ := HXU.out.k; have zl := HXU.out.lt; obtain ⟨f0, f1, f2, f3, f4, f5, f6, f7, f8, f9, f10⟩ := HXU.out.free; obtain ⟨v0, v1, v2, v3, v4⟩ := HXV.out.k; have vl := HXV.out.lt; obtain ⟨e0, e1, e2, e3, e4⟩ := HXV.out.free; have huv : ¬ wr.heap.size = wr.heap.size + 1 := (by omega); have hvu : ¬ wr.heap.size + 1 = wr.heap.size := (by omega); clear hn hm hr hf hb) | (go_at_call 20; (with_reducible refine (HT.out _ ?hbel).mono ?_); (case hbel => (repeat' (first | with_reducible exact HB0.out | with_reducible refine bal ?_ _ | with_reducible refine bdr ?_))); rintro e w4 ⟨Z, A', c', rfl, hn, hm, hr, hf, hb⟩; have HP := Lib.hid (jt3_5 HJ.out hn hm hr hf hb).2.2; have HXU := Lib.hid (jt3_5 HJ.out hn hm hr hf hb).1; have HXV := Lib.hid (jt3_5 HJ.out hn hm hr hf hb).2.1; have HB4 := Lib.hid ((bdr (bal (bal HB0.out (.cells #[.slice none 0 0, .int .i64 0, .int .i64 0, .int .i64 0, .int .i64 0] 28)) (.cells #[.slice none 0 0, .slice none 0 0, .int .i64 0, .int .i64 0, .slice none 0 0, .int .i64 0, .slice none 0 0, .slice none 0 0, .int .i64 0, .int .i64 0, .int .i64 0] 46))).trans (hb.mono (by simp <;> omega))); obtain ⟨z0, z1, z2, z3, z4, z5, z6, z7, z8, z9, z10⟩ := HXU.out.k; have zl := HXU.out.lt; obtain ⟨f0, f1, f2, f3, f4, f5, f6, f7, f8, f9, f10⟩ := HXU.out.free; obtain ⟨v0, v1, v2, v3, v4⟩ := HXV.out.k; have vl := HXV.out.lt; obtain ⟨e0, e1, e2, e3, e4⟩ := HXV.out.free; have huv : ¬ wr.heap.size = wr.heap.size + 1 := (by omega); have hvu : ¬ wr.heap.size + 1 = wr.heap.size := (by omega); clear hn hm hr hf hb) | (go_at_call 20; (with_reducible refine (HT.out _ ?hbel).mono ?_); (case hbel => (repeat' (first | with_reducible exact HB0.out | with_reducible refine bal ?_ _ | with_reducible refine bdr ?_))); rintro e w4 ⟨Z, A', c', rfl, hn, hm, hr, hf, hb⟩; have HP := Lib.hid (jt3_2 HJ.out hn hm hr hf hb).2; have HXU := Lib.hid (jt3_2 HJ.out hn hm hr hf hb).1; have HB4 := Lib.hid ((bdr (bal HB0.out (.cells #[.slice none 0 0, .slice none 0 0, .int .i64 0, .int .i64 0, .slice none 0 0, .int .i64 0, .slice none 0 0, .slice none 0 0, .int .i64 0, .int .i64 0, .int .i64 0] 46))).trans (hb.mono (by simp <;> omega))); obtain ⟨z0, z1, z2, z3, z4, z5, z6, z7, z8, z9, z10⟩ := HXU.out.k; have zl := HXU.out.lt; obtain ⟨f0, f1, f2, f3, f4, f5, f6, f7, f8, f9, f10⟩ := HXU.out.free; clear hn hm hr hf hb) | (go_at_call 20; (with_reducible refine (HT.out _ ?hbel).mono ?_); (case hbel => (repeat' (first | with_reducible exact HB0.out | with_reducible refine bal ?_ _ | with_reducible refine bdr ?_))); rintro e w4 ⟨Z, A', c', rfl, hn, hm, hr, hf, hb⟩; have HP := Lib.hid (jt3_3 HJ.out hn hm hr hf hb).2; have HXV := Lib.hid (jt3_3 HJ.out hn hm hr hf hb).1; have HB4 := Lib.hid ((bdr (bal HB0.out (.cells #[.slice none 0 0, .int .i64 0, .int .i64 0, .int .i64 0, .int .i64 0] 28))).trans (hb.mono (by simp <;> omega))); obtain ⟨v0, v1, v2, v3, v4⟩ := HXV.out.k; have vl := HXV.out.lt; obtain ⟨e0, e1, e2, e3, e4⟩ := HXV.out.free; clear hn hm hr hf hb) | (go_at_call 20; (with_reducible refine (HT.out _ ?hbel).mono ?_); (case hbel => (repeat' (first | with_reducible exact HB0.out | with_reducible refine bal ?_ _ | with_reducible refine bdr ?_))); rintro e w4 ⟨Z, A', c', rfl, hn, hm, hr, hf, hb⟩; have HP := Lib.hid (jt3_1 HJ.out (bdr HB0.out) hn hm hr hf hb).1; have HPQ := Lib.hid (jt3_1 HJ.out (bdr HB0.out) hn hm hr hf hb).2; have HB4 := Lib.hid ((bdr HB0.out).trans (hb.mono (by simp <;> omega))); clear hn hm hr hf hb))
                    all_goals
                      go_wp2_with fail
                      go_meet
                      first
                      | exact ⟨_, _, Z, A', c', rfl, rfl, rfl, HP⟩
                      | exact ⟨_, _, Z, A', c', rfl, rfl, rfl, HPQ⟩
                  case rest =>
                    obtain ⟨u, v, Z, A', c', rfl, rfl, rfl, H3⟩ := hcut
                    clear HT HSK HB0 HJ
                    generalize wc = wx at *
                    have HJ5 := Lib.hid (H3.out.put HKQ.out.1)
                    have HNI := Lib.hid (HNI.out A' c')
                    obtain ⟨z0, z1, z2, z3, z4, z5, z6, z7, z8, z9, z10⟩ := H3.out.ub.k
                    have zl := H3.out.ub.lt
                    obtain ⟨v0, v1, v2, v3, v4⟩ := H3.out.vb.k
                    have vl := H3.out.vb.lt
                    obtain ⟨y0, y1, y2, y3, y4, y5, y6, y7, y8, y9, y10⟩ := H3.out.j2.qb.k
                    have yl := H3.out.j2.qb.lt
                    obtain ⟨f0, f1, f2, f3, f4, f5, f6, f7, f8, f9, f10⟩ := H3.out.j2.qb.free
                    obtain ⟨t0, t1, t2, t3, t4⟩ := H3.out.j2.rb.at5 HT2.out
                    have rl := H3.out.j2.rb.lt
                    have d0 := H3.out.j2.rb.f (k * 5)
                    have d1 := H3.out.j2.rb.f (k * 5 + 1)
                    have d2 := H3.out.j2.rb.f (k * 5 + 2)
                    have d3 := H3.out.j2.rb.f (k * 5 + 3)
                    have d4 := H3.out.j2.rb.f (k * 5 + 4)
                    have nup : ¬ u = p := by have := H3.out.ne; have := H3.out.j2.ne; omega
                    have npu : ¬ p = u := fun e => nup e.symm
                    have nvp : ¬ v = p := by have := H3.out.ne; have := H3.out.j2.ne; omega
                    have npv : ¬ p = v := fun e => nvp e.symm
                    have nub : ¬ u = b := by have := H3.out.ne; omega
                    have nbu : ¬ b = u := fun e => nub e.symm
                    have nvb : ¬ v = b := by have := H3.out.ne; omega
                    have nbv : ¬ b = v := fun e => nvb e.symm
                    have npb : ¬ p = b := by have := H3.out.j2.ne; omega
                    have nbp : ¬ b = p := fun e => npb e.symm
                    clear H3
                    go_wp2
                    go_region
                    all_goals
                      go_wp2
                      go_roundw
                      case rel => exact ⟨k + 1, lf + 1, TA, Z, Q.set k ⟨M, A', c'⟩, by go_num, by go_num, HKQ.out.2, Lib.hid ⟨HNI.out, HJ5.out.drew⟩⟩
                      case measure => simp [intOf]; have := HKQ.out; omega
            · obtain rfl : k = m := by omega
              have HO2 := Lib.hid (in_end HIN.out HM.out.2)
              have hlt' : ¬ (k : Int) < (k : Int) := by omega
              clear hlt HIN
              go_wp2_with fail
              go_roundw
              case rel => exact ⟨r + 1, lf, a, Y, Q, by go_num, rfl, HR.out, Lib.hid ⟨HO2.out, HJ.out⟩⟩
              case measure => simp [intOf]; have := HR.out; omega
        · obtain rfl : lf = 0 := by omega
          rw [show ((0 : Nat) : Int) = 0 from rfl]
          have hr400 : (r : Int) < 400 := by have := HO.out.le; omega
          have HD := Lib.hid (fun c hc => done_own HO.out.tv.iv HO.out.done c hc)
          have HSL := Lib.hid HO.out.tv.sl
          clear hlf hr4 HO
          go_wp2_with fail
          go_loopw [19] (fun cv wr => ∃ c : Nat, cv = .int .i64 (c : Int) ∧ c ≤ n + 1 ∧ Hid (Jt2 w g p b a Y Q wr)) (fun cv _ => n + 1 - (intOf cv).toNat)
          case atStart => exact ⟨0, rfl, by omega, HJ⟩
          case round =>
            clear HJ hr400
            obtain ⟨c, rfl, hc, HJ⟩ := hrel
            have HCN := Lib.hid hc
            obtain ⟨y0, y1, y2, y3, y4, y5, y6, y7, y8, y9, y10⟩ := HJ.out.qb.k
            have yl := HJ.out.qb.lt
            by_cases hcn : c ≤ n
            · have hcn' : (c : Int) ≤ (a.sl.length : Int) := by rw [HSL.out]; omega
              have hwc : IntKind.i64.wrap ((c : Int) + 1) = (c : Int) + 1 := IntWalk.i64_in _ (by have := HNN.out; omega)
              have HOW := Lib.hid (rowner12_any a Y c wr HJ.out.ar (by rw [HSL.out]; exact hcn))
              rw [HD.out c hcn] at HOW
              have HC2 := Lib.hid hcn
              clear hc hcn
              go_wp2_with fail
              clear y0 y1 y2 y3 y4 y5 y6 y7 y8 y9 y10 yl
              refine HOW.out.mono ?_
              rintro e x1 ⟨rfl, hb⟩
              have HJ := Lib.hid (HJ.out.below hb)
              clear hb HOW
              go_wp2
              go_roundw
              case rel => exact ⟨c + 1, by go_num, by have := HC2.out; omega, HJ⟩
              case measure => simp [intOf]; have := HC2.out; omega
            · have hcn' : ¬ (c : Int) ≤ (a.sl.length : Int) := by rw [HSL.out]; omega
              clear hc hcn
              go_wp2_with fail
              clear y0 y1 y2 y3 y4 y5 y6 y7 y8 y9 y10 yl
              refine (HAW.out _).mono ?_
              rintro e x1 ⟨rfl, hb⟩
              have HFIN := Lib.hid (HJ.out.below hb).bel
              clear hb HJ
              go_wp2
              go_ret
              exact ⟨rfl, HFIN.out⟩
/-! The row's step, as the guide's shell has it. -/
namespace lockerTurns
open Go.ChangeShapes Go.WideShapes Go.ChangeAt
open Go.ChangeMaps (open_string shut_string)
theorem own : ownKnob Try.prog.godebug = none := by kernel_rfl
theorem laidOut : laidOutB Try.prog = true := by kernel_rfl

set_option maxRecDepth 100000 in
theorem lifted (os : Os) (started : os.Started) (H : Type) (enc : TypeId × Value → H) :
    ReturnsInHanded {} Try.checked os 6 .any (Rows.lockerTurnsSpec.pre6 enc Try.prog Try.f6 Rows.lockerTurnsRow.domain false) (Rows.lockerTurnsSpec.post enc Try.prog Try.f6 false true false false) := by
  refine returnsInHanded_of_change (C := Try.checked) own started (by kernel_rfl) Try.func6
    (ChangeSpec.witness6 (enc := enc) (C := Try.checked) false ⟨#[], #[.slice none 0 0], []⟩ 8 (by kernel_rfl) (by kernel_rfl) (by kernel_rfl) (by kernel_rfl)) ?_
  intro W base args ds gs before hval0 hW hcnd _
  have hval : ∀ (j : Nat) t v, Try.f6.params[j]? = some t → args[j]? = some v → Value.okWide Try.prog W .any base t v := hval0
  have hW' := hW
  obtain ⟨p, q, hA0, hV, rfl, hfz, hnd⟩ := hW
  have hA : DataW.TrodAll enc Try.prog W 0 (fun _ => true) true Try.f6.params.toList args.toList ds p := hA0
  rw [Try.params6] at hA hval
  obtain ⟨v0, vs0, d0, ds0, p0, q0, hargs, rfl, rfl, h0, r0⟩ := trodAll_cons hA
  obtain ⟨rfl, rfl, rfl⟩ := trodAll_nil r0
  obtain rfl : args = #[v0] := by cases args; simp_all
  obtain ⟨rfl, rfl⟩ := trodVars_none hV
  obtain ⟨a0, len0, cap0, rfl⟩ := okWide_slice Try.underlying22 (hval 0 22 v0 rfl rfl)
  have k0 := h0
  have lt0 : ∀ x ∈ p0, x.block < W.heap.size := by obtain ⟨m, hm⟩ := k0; exact DataW.trod_lt m _ _ _ hm
  obtain ⟨z0, w0⟩ : ∃ zs, Ns W W.heap.size (.slice a0 len0 cap0) zs := by
    obtain ⟨fuel, hf⟩ := h0
    rcases open_ints Try.underlying22 Try.underlying3 (by kernel_rfl) hf with ⟨hcs, _⟩ | ⟨x, l, c, zs, hcs, _, hl, hm, hz, _, hcell, hwz⟩
    · simp [Value.cells] at hcs
      obtain ⟨rfl, rfl, rfl⟩ := hcs
      exact ⟨[], Ns.nil⟩
    · simp [Value.cells] at hcs
      obtain ⟨rfl, rfl, rfl⟩ := hcs
      exact Ns.of_cells hl hm (by simpa using hz) hcell hwz
  clear hA0 hval0
  refine (LockerTurns_walk W a0 len0 cap0 z0 w0).mono fun e W' ⟨he, bel⟩ => ?_
  subst he
  exact ⟨_, rfl, _, _, _, [], _, [], hW', trodAll_mk1 (shut_bool Try.underlying4 _), (trodAll_cons_mk (Below.trod laidOut (by kernel_rfl) (of_decide_eq_true (by kernel_rfl)) k0 bel lt0) trodAll_mk0), rfl, bel.frame _, fun h => by cases h⟩

theorem over : Rows.lockerTurnsRow.holds Try.pinned (OpenSpec.ofChange Rows.lockerTurnsSpec) :=
  OpenClaim.holds_of_wide 6 Try.f6 rfl rfl rfl rfl rfl rfl rfl ⟨rfl, rfl, rfl, rfl, rfl⟩ rfl rfl rfl rfl rfl (by kernel_rfl) Try.func6 (by kernel_rfl)
    (of_decide_eq_true (by kernel_rfl)) (by unfold Func.isWrapper; first | (rw [if_pos (by decide +kernel)]; kernel_rfl) | (rw [if_neg (by decide +kernel)]; exact ⟨rfl, rfl⟩))
    (fun os started H enc _ => lifted os started H enc)

/-- The statement. -/
theorem proved : Rows.LockerTurnsSaid := over
#print axioms proved
end lockerTurns
end Go.Proofs.Ytommkhjgockpfaa
