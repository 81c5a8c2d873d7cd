/- What is proved here: ref13.Step by a contract; all but the steps of shardqueuelaw13.LockerScript, from what a step does. -/
import Derived.Test.YtijpflljopckiaaJ49
import Derived.Test.YtijpflljopckiaaJ50
import Derived.Test.YtijpflljopckiaaJ51
import Derived.Test.YtijpflljopckiaaJ52
import Derived.Deep.DeepCutAuto
import Derived.Deep.RegionHeld3
import Derived.Test.YtijpflljopckiaaJ47
import Derived.Test.YtijpflljopckiaaJ48
import Derived.Test.YtijpflljopckiaaJ23
import Derived.Test.YtijpflljopckiaaJ41
import Derived.Test.YtijpflljopckiaaJ40
import Derived.Test.YtijpflljopckiaaJ37
import Derived.Test.YtijpflljopckiaaJ35
import Derived.Deep.AppendLies
import Derived.ProofKit
import Derived.OpenShut
import Derived.ChangeOld
namespace Go.Proofs.Ytijpflljopckiaa
open Go.RowKit
set_option linter.unusedVariables false

theorem rstep13_any (a : Ar) (Y : Ax) (l : Lk) (A : Option Addr) (c : Nat) (t : Int) (w : World) (har : AR w w.heap.size a Y) (hf : Fl w w.heap.size (.slice A l.cs.length c) l.cs) (hw : a.sl.length ≤ 1000) (hs : l.sm) (hk0 : l.ph = 0 → 0 ≤ l.hv ∧ l.hv < l.cs.length) (hk1 : l.ph = 1 ∨ l.ph = 4 → 1 ≤ l.hv ∧ l.hv ≤ l.cs.length) : Calls Try.prog 25 #[av a Y, lv l A c, .int .i64 t] w (RS13 w a Y l.cs.length A (stA13 a l t) (stL13 a l t) (stE13 a l t)) := by
  by_cases h0 : l.ph = 0
  · exact rstep13_0 a Y l A c t w har hf hw hs hk0 hk1 h0
  · by_cases h1 : l.ph = 1
    · exact rstep13_1 a Y l A c t w har hf hw hs hk0 hk1 h1
    · by_cases h4 : l.ph = 4
      · exact rstep13_4 a Y l A c t w har hf hw hs hk0 hk1 h4
      · by_cases h2 : l.ph = 2
        · exact rstep13_2 a Y l A c t w har hf hw hs hk0 hk1 h2
        · exact rstep13_x a Y l A c t w har hf hw hs hk0 hk1 ⟨h0, h1, h4, h2⟩
end Go.Proofs.Ytijpflljopckiaa
namespace Go.Proofs.Ytijpflljopckiaa
open Go.RowKit
set_option linter.unusedVariables false

/-- The cells of two arenas' and two lockers' boxes. -/
abbrev C32 (u1 v1 u2 v2 : Nat) (a : Ar) (Y Z : Ax) (l : Lk) (A A' : Option Addr) (c c' : Nat) (W : World) : Prop := K11 u1 a Y W ∧ K11 u2 a Z W ∧ K5l W v1 l A c ∧ K5l W v2 l A' c'
theorem c32_set {u1 v1 u2 v2 : Nat} {S : List Nat} {a : Ar} {Y Z : Ax} {l : Lk} {A A' : Option Addr} {c c' : Nat} {W : World} {x : Addr} (hS : ∀ q ∈ S, q ≠ u1 ∧ q ≠ v1 ∧ q ≠ u2 ∧ q ≠ v2) (hx : x.block ∈ S) (h : C32 u1 v1 u2 v2 a Y Z l A A' c c' W) (v : Value) : C32 u1 v1 u2 v2 a Y Z l A A' c c' (W.setCell x v) := by
  obtain ⟨n1, n2, n3, n4⟩ := hS _ hx
  have g : ∀ (b o : Nat), x.block ≠ b → (W.setCell x v).cell? ⟨b, o, none⟩ = W.cell? ⟨b, o, none⟩ := fun b o hb => World.cell?_setCell_other W x ⟨b, o, none⟩ v (fun e => hb (by rw [e]))
  unfold C32 K11 K5l at h ⊢
  simp only [g u1 _ n1, g v1 _ n2, g u2 _ n3, g v2 _ n4]
  exact h
set_option maxHeartbeats 8000000 in
set_option maxRecDepth 20000 in
def lsP1 : { P : Prop // P → ∀ (w : World) (a1 : Option Addr) (l1 c1 : Nat) (zs : List Int) (hz : Ns w w.heap.size (.slice a1 l1 c1) zs), Calls Try.prog 5 #[.slice a1 l1 c1] w fun e w' => e = .returned (.bool true) ∧ Below w.heap.size w w' } := ⟨_, fun hP w a1 l1 c1 zs hz => by
  have HPP := Lib.hid hP
  clear hP
  have HAW := Lib.hid (fun W => awake13_any W)
  have HNS := Lib.hid (new_src a1 l1 c1 zs w hz)
  obtain ⟨i0, hi0, hz0⟩ := Option.map_eq_some_iff.1 info_lk
  simp only [Prod.mk.injEq] at hz0
  have HI := Lib.hid hi0
  have HZ := Lib.hid hz0
  clear hz hi0 hz0
  go_enter Try.func5, Try.ntmps5
  go_wp2_with fail
  refine HNS.out.mono ?_
  rintro e w2 ⟨g, rfl, hs, hb⟩
  have HS := Lib.hid hs
  have HB := Lib.hid hb
  clear hs hb HNS
  go_wp2_with fail
  refine (setup_any w.heap.size g _ HS.out).mono ?_
  rintro e w3 ⟨s, rfl, hok, hs, hg⟩
  have HB := Lib.hid (HB.out.grown hg HB.out.size (fun k e => by injection e with e; have := HS.out.1; omega))
  have HS := Lib.hid hs
  obtain ⟨hE, n, n0, n6, hca⟩ := ca_nw hok
  have how := nw_ow hok
  have HN := Lib.hid (anew_any s w3)
  rw [hE] at HN
  obtain ⟨A0, hA0⟩ : ∃ A, A = nwA s := ⟨_, rfl⟩
  rw [← hA0] at HN hca how
  have HCA := Lib.hid (And.intro hca.fw (own_all hca how))
  have HNN := Lib.hid (show 0 < n ∧ n ≤ 6 ∧ A0.sl.length = n from ⟨n0, n6, hca.sl⟩)
  clear hg hs hok hE hca how hA0 n0 n6
  go_wp2_with fail
  refine HN.out.mono ?_
  rintro e w4 ⟨Y0, rfl, hn, hr, hb⟩
  have H1 := Lib.hid (Jb1.start HS.out hn hr hb HB.out)
  clear hn hr hb HN HS HB
  go_upto_region 3 with (fail)
  obtain ⟨p, hp⟩ : ∃ p, p = w4.heap.size := ⟨_, rfl⟩
  rw [← hp] at H1 ⊢
  clear hp
  generalize w4.alloc (.cells #[.slice Y0.A A0.sl.length Y0.c, .slice Y0.A2 A0.st.length Y0.c2, .int .i64 A0.ow, .int .i64 A0.cap, .slice Y0.A3 A0.dl.length Y0.c3, .int .i64 A0.dir.vn, .slice Y0.D.A A0.dir.l.length Y0.D.c, .slice Y0.D.A2 A0.dir.F.length Y0.D.c2, .int .i64 A0.ep, .int .i64 A0.ck, .int .i64 A0.ni] 36) = w5 at *
  obtain ⟨y0, y1, y2, y3, y4, y5, y6, y7, y8, y9, y10⟩ := H1.out.qb.k
  have yl := H1.out.qb.lt
  have HD0 := Lib.hid (Jd1.of H1.out)
  clear H1
  go_upto_region 6 with (fail)
  clear y0 y1 y2 y3 y4 y5 y6 y7 y8 y9 y10 yl
  obtain ⟨pb, hpb⟩ : ∃ p, p = w5.heap.size := ⟨_, rfl⟩
  rw [← hpb] at HD0 ⊢
  clear hpb
  generalize w5.alloc (.cells #[.slice Y0.A A0.sl.length Y0.c, .slice Y0.A2 A0.st.length Y0.c2, .int .i64 A0.ow, .int .i64 A0.cap, .slice Y0.A3 A0.dl.length Y0.c3, .int .i64 A0.dir.vn, .slice Y0.D.A A0.dir.l.length Y0.D.c, .slice Y0.D.A2 A0.dir.F.length Y0.D.c2, .int .i64 A0.ep, .int .i64 A0.ck, .int .i64 A0.ni] 36) = w6 at *
  go_wp2_with fail
  go_loopw [7, 8, 9] (fun sv tv iv wr => ∃ (A A2 : Option Addr) (c c2 : Nat) (Q K : List Lc), iv = .int .i64 (Q.length : Int) ∧ sv = .slice A Q.length c ∧ tv = .slice A2 K.length c2 ∧ Q.length ≤ 3 ∧ Hid (((∀ t ∈ Q, Ok0 n t.l) ∧ K.map Lc.l = Q.map Lc.l) ∧ Jd1 w g p pb A0 Y0 Y0 A A2 c c2 Q K wr)) (fun _ _ iv _ => 3 - (intOf iv).toNat)
  case atStart => exact ⟨none, none, 0, 0, [], [], rfl, rfl, rfl, by simp, Lib.hid ⟨⟨fun t ht => absurd ht (by simp), rfl⟩, HD0.out⟩⟩
  case round =>
    clear HD0
    obtain ⟨A, A2, c, c2, Q, K, rfl, rfl, rfl, hQm, H⟩ := hrel
    have HOK := Lib.hid H.out.1
    have HKQ := Lib.hid (show K.length = Q.length from by have := congrArg List.length H.out.1.2; simpa using this)
    have HD := Lib.hid H.out.2
    clear H
    by_cases hlt : Q.length < 3
    · have hlt' : (Q.length : Int) < 3 := by omega
      have hw1 : IntKind.i64.wrap ((Q.length : Int) + 1) = (Q.length : Int) + 1 := IntWalk.i64_in _ (by omega)
      have HQL := Lib.hid (show Q.length < 3 ∧ K.length < 3 ∧ K.length = Q.length from by have := HKQ.out; omega)
      clear hlt hQm
      obtain ⟨y0, -⟩ := HD.out.qa.k
      have yl := HD.out.qa.lt
      rw [HNN.out.2.2] at y0
      go_wp2_with fail
      clear y0 yl
      refine (some13_any n w.heap.size g _ HD.out.src (by have := HNN.out; omega)).mono ?_
      rintro e x6 ⟨A1, c1', cs, rfl, hokc, hl1, hnw, hfl, hs, hg⟩
      have HD0 := Lib.hid (HD.out.turn hs hg)
      have HL1 := Lib.hid hfl
      have HNC := Lib.hid (jnew_any A1 c1' cs x6 hfl)
      have HRC := Lib.hid (fun W (h : Fl W W.heap.size (.slice A1 cs.length c1') cs) => rnew13_any A1 c1' cs W h)
      rw [(okc_new hokc hl1 HNN.out.2.1).1, (okc_new hokc hl1 HNN.out.2.1).2] at HNC HRC
      have HT := Lib.hid (ok0_new hokc hl1)
      clear hokc hl1 hnw hfl hs hg HD
      go_wp2_with fail
      refine HNC.out.mono ?_
      rintro e x7 ⟨A4, c4, rfl, hnw, hfl, hb⟩
      have hal := (Below.refl x7.heap.size x7).alloc (Nat.le_refl _) (.cells #[.slice A4 cs.length c4, .int .i64 0, .int .i64 0, .int .i64 0, .int .i64 0] 60)
      have HD := Lib.hid ((HD0.out.below hb).below hal)
      have HL1 := Lib.hid ((HL1.out.up hb).up hal)
      have HLT := Lib.hid (Lz.of HD0.out (hfl.alloc2 (.cells #[.slice A4 cs.length c4, .int .i64 0, .int .i64 0, .int .i64 0, .int .i64 0] 60)) hnw (Nat.le_refl _))
      have HX := Lib.hid (show LB (x7.alloc (.cells #[.slice A4 cs.length c4, .int .i64 0, .int .i64 0, .int .i64 0, .int .i64 0] 60)) x7.heap.size ⟨cs, 0, 0, 0, 0⟩ A4 c4 from LB.start x7 ⟨cs, 0, 0, 0, 0⟩ A4 c4 60)
      have HXO := Lib.hid (show x6.heap.size ≤ x7.heap.size from hb.size)
      have HOB0 := Lib.hid (show (∀ b, (Value.slice A Q.length c).ownBlock = some b → b < x6.heap.size) ∧ (∀ b, (Value.slice A2 K.length c2).ownBlock = some b → b < x6.heap.size) from ⟨fun b e => (HD0.out.o1.lt b e).2, fun b e => (HD0.out.o2.lt b e).2⟩)
      clear hnw hfl hb hal HNC HD0
      go_upto_region 12 with (fail)
      obtain ⟨x, hx⟩ : ∃ x, x = x7.heap.size := ⟨_, rfl⟩
      rw [← hx] at HX HXO ⊢
      clear hx
      generalize (x7.alloc (.cells #[.slice A4 cs.length c4, .int .i64 0, .int .i64 0, .int .i64 0, .int .i64 0] 60)) = x8 at *
      go_wp2_with fail
      refine (HRC.out _ HL1.out).mono ?_
      rintro e x9 ⟨A5, c5, rfl, hnw, hfl, hb⟩
      have hal := (Below.refl x9.heap.size x9).alloc (Nat.le_refl _) (.cells #[.slice A5 cs.length c5, .int .i64 0, .int .i64 0, .int .i64 0, .int .i64 0] 60)
      have HLS := Lib.hid (Lz.of HD.out (hfl.alloc2 (.cells #[.slice A5 cs.length c5, .int .i64 0, .int .i64 0, .int .i64 0, .int .i64 0] 60)) hnw (Nat.le_refl _))
      have HY := Lib.hid (show LB (x9.alloc (.cells #[.slice A5 cs.length c5, .int .i64 0, .int .i64 0, .int .i64 0, .int .i64 0] 60)) x9.heap.size ⟨cs, 0, 0, 0, 0⟩ A5 c5 from LB.start x9 ⟨cs, 0, 0, 0, 0⟩ A5 c5 60)
      have HXY := Lib.hid (show x < x9.heap.size from Nat.lt_of_lt_of_le HX.out.lt hb.size)
      have HX := Lib.hid ((HX.out.up hb).up hal)
      have HD := Lib.hid ((HD.out.below hb).below hal)
      have HLT := Lib.hid ((HLT.out.below hb).below hal)
      clear hnw hfl hb hal HRC HL1
      go_upto_region 13 with (fail)
      obtain ⟨y, hy⟩ : ∃ x, x = x9.heap.size := ⟨_, rfl⟩
      rw [← hy] at HY HXY ⊢
      clear hy
      generalize (x9.alloc (.cells #[.slice A5 cs.length c5, .int .i64 0, .int .i64 0, .int .i64 0, .int .i64 0] 60)) = x10 at *
      obtain ⟨u0, u1, u2, u3, u4⟩ := HX.out.k
      have ul := HX.out.lt
      obtain ⟨v0, v1, v2, v3, v4⟩ := HY.out.k
      have vl := HY.out.lt
      go_wp2_with fail
      clear u0 u1 u2 u3 u4 ul v0 v1 v2 v3 v4 vl
      refine (rsame13_yes ⟨cs, 0, 0, 0, 0⟩ A4 A5 c4 c5 _ HLT.out.ly.fl HLS.out.ly.fl).mono ?_
      rintro e wr ⟨rfl, hb⟩
      have HR := Lib.hid (show Jr15 w g p pb x y A0 Y0 Y0 A A2 c c2 Q K (Lc.mk ⟨cs, 0, 0, 0, 0⟩ A4 c4) (Lc.mk ⟨cs, 0, 0, 0, 0⟩ A5 c5) wr from ⟨HD.out.below hb, HLT.out.below hb, HLS.out.below hb, HX.out.up hb, HY.out.up hb, fun b e => by have := HOB0.out.1 b e; have := HXO.out; have := HXY.out; omega, fun b e => by have := HOB0.out.2 b e; have := HXO.out; have := HXY.out; omega⟩)
      have HOB := Lib.hid (show (∀ b, (Value.slice A Q.length c).ownBlock = some b → b < wr.heap.size) ∧ (∀ b, (Value.slice A2 K.length c2).ownBlock = some b → b < wr.heap.size) from ⟨fun b e => (HR.out.j.o1.lt b e).2, fun b e => (HR.out.j.o2.lt b e).2⟩)
      clear hb HD HLT HLS HX HY HOB0 HXO HXY
      have HRT := Lib.hid (HR.out.below (bdr (bal (Below.refl wr.heap.size wr) (.cells #[.slice A4 cs.length c4, .int .i64 0, .int .i64 0, .int .i64 0, .int .i64 0] 60))))
      have HRS := Lib.hid (HR.out.below (bdr (bal (Below.refl wr.heap.size wr) (.cells #[.slice A5 cs.length c5, .int .i64 0, .int .i64 0, .int .i64 0, .int .i64 0] 60))))
      have HRTS := Lib.hid (HR.out.below (bdr (bal (bal (Below.refl wr.heap.size wr) (.cells #[.slice A4 cs.length c4, .int .i64 0, .int .i64 0, .int .i64 0, .int .i64 0] 60)) (.cells #[.slice A5 cs.length c5, .int .i64 0, .int .i64 0, .int .i64 0, .int .i64 0] 60))))
      have HRST := Lib.hid (HR.out.below (bdr (bal (bal (Below.refl wr.heap.size wr) (.cells #[.slice A5 cs.length c5, .int .i64 0, .int .i64 0, .int .i64 0, .int .i64 0] 60)) (.cells #[.slice A4 cs.length c4, .int .i64 0, .int .i64 0, .int .i64 0, .int .i64 0] 60))))
      have hsz1 : (wr.alloc (.cells #[.slice A4 cs.length c4, .int .i64 0, .int .i64 0, .int .i64 0, .int .i64 0] 60)).heap.size = wr.heap.size + 1 := by simp
      have hsz2 : (wr.alloc (.cells #[.slice A5 cs.length c5, .int .i64 0, .int .i64 0, .int .i64 0, .int .i64 0] 60)).heap.size = wr.heap.size + 1 := by simp
      have HNT := Lib.hid ((Ns13.new wr (Lc.mk ⟨cs, 0, 0, 0, 0⟩ A4 c4) 60).up ((Below.refl _ _).drew))
      have HNS := Lib.hid ((Ns13.new wr (Lc.mk ⟨cs, 0, 0, 0, 0⟩ A5 c5) 60).up ((Below.refl _ _).drew))
      have HNTS1 := Lib.hid (((Ns13.new wr (Lc.mk ⟨cs, 0, 0, 0, 0⟩ A4 c4) 60).up ((Below.refl _ _).alloc (Nat.le_refl _) (.cells #[.slice A5 cs.length c5, .int .i64 0, .int .i64 0, .int .i64 0, .int .i64 0] 60))).up ((Below.refl _ _).drew))
      have HNST1 := Lib.hid (((Ns13.new wr (Lc.mk ⟨cs, 0, 0, 0, 0⟩ A5 c5) 60).up ((Below.refl _ _).alloc (Nat.le_refl _) (.cells #[.slice A4 cs.length c4, .int .i64 0, .int .i64 0, .int .i64 0, .int .i64 0] 60))).up ((Below.refl _ _).drew))
      have HNTS2 := Lib.hid ((Ns13.new (wr.alloc (.cells #[.slice A4 cs.length c4, .int .i64 0, .int .i64 0, .int .i64 0, .int .i64 0] 60)) (Lc.mk ⟨cs, 0, 0, 0, 0⟩ A5 c5) 60).up ((Below.refl _ _).drew))
      have HNST2 := Lib.hid ((Ns13.new (wr.alloc (.cells #[.slice A5 cs.length c5, .int .i64 0, .int .i64 0, .int .i64 0, .int .i64 0] 60)) (Lc.mk ⟨cs, 0, 0, 0, 0⟩ A4 c4) 60).up ((Below.refl _ _).drew))
      rw [hsz1] at HNTS2
      rw [hsz2] at HNST2
      clear hsz1 hsz2
      obtain ⟨u0, u1, u2, u3, u4⟩ := HR.out.xb.k
      have ul := HR.out.xb.lt
      obtain ⟨v0, v1, v2, v3, v4⟩ := HR.out.yb.k
      have vl := HR.out.yb.lt
      go_upto_region 15 with (fail)
      go_region_law (first | (refine step_append_lies _ (by rfl) _ _ _ (by rfl) (pb + 1) 60 i0 _ 5 56 Try.underlying57 HI.out HZ.out.1 HZ.out.2.1 HZ.out.2.2 rfl (by omega) (.slice A2 K.length c2) K.length (kcs K) (by rfl) (HP.out.below ((Below.refl w8.heap.size w8).alloc (Nat.le_refl _) (.cells #[.slice A5 cs.length c5, .int .i64 0, .int .i64 0, .int .i64 0, .int .i64 0] 60))).j.o2 ⟨w8.heap.size, 0, none⟩ 1 1 (Lc.mk ⟨cs, 0, 0, 0, 0⟩ A5 c5).v (by rfl) (by rfl) (Ns13.new w8 (Lc.mk ⟨cs, 0, 0, 0, 0⟩ A5 c5) 60).news (Lc.v_one _) (by omega) (by have := HQL.out; unfold maxLen; omega) (by have := HQL.out; omega) (Nat.succ_le_of_lt (HP.out.below ((Below.refl w8.heap.size w8).alloc (Nat.le_refl _) (.cells #[.slice A5 cs.length c5, .int .i64 0, .int .i64 0, .int .i64 0, .int .i64 0] 60))).j.qb.lt) _ rfl ?_; intro g1 cp1 w9 hown1 hgrow1 hat1 hlt1; have HF := Lib.hid ((HP.out.below ((Below.refl w8.heap.size w8).alloc (Nat.le_refl _) (.cells #[.slice A5 cs.length c5, .int .i64 0, .int .i64 0, .int .i64 0, .int .i64 0] 60))).j.app2 (HP.out.below ((Below.refl w8.heap.size w8).alloc (Nat.le_refl _) (.cells #[.slice A5 cs.length c5, .int .i64 0, .int .i64 0, .int .i64 0, .int .i64 0] 60))).lr hown1 hgrow1 hat1); clear hown1 hgrow1 hat1 hlt1) | (refine step_append_lies _ (by rfl) _ _ _ (by rfl) (pb + 1) 60 i0 _ 5 56 Try.underlying57 HI.out HZ.out.1 HZ.out.2.1 HZ.out.2.2 rfl (by omega) (.slice A2 K.length c2) K.length (kcs K) (by rfl) HP.out.j.o2 ⟨wr.heap.size + 1, 0, none⟩ 1 1 (Lc.mk ⟨cs, 0, 0, 0, 0⟩ A5 c5).v (by rfl) (by rfl) HNO.out.news (Lc.v_one _) (by omega) (by have := HQL.out; unfold maxLen; omega) (by have := HQL.out; omega) (Nat.succ_le_of_lt HP.out.j.qb.lt) _ rfl ?_; intro g1 cp1 w9 hown1 hgrow1 hat1 hlt1; have HF := Lib.hid (HP.out.j.app2 HP.out.lr hown1 hgrow1 hat1); clear hown1 hgrow1 hat1 hlt1) | (refine step_append_lies _ (by rfl) _ _ _ (by rfl) (pb + 1) 60 i0 _ 5 56 Try.underlying57 HI.out HZ.out.1 HZ.out.2.1 HZ.out.2.2 rfl (by omega) (.slice A2 K.length c2) K.length (kcs K) (by rfl) HP.out.j.o2 ⟨wr.heap.size, 0, none⟩ 1 1 (Lc.mk ⟨cs, 0, 0, 0, 0⟩ A5 c5).v (by rfl) (by rfl) HNO.out.news (Lc.v_one _) (by omega) (by have := HQL.out; unfold maxLen; omega) (by have := HQL.out; omega) (Nat.succ_le_of_lt HP.out.j.qb.lt) _ rfl ?_; intro g1 cp1 w9 hown1 hgrow1 hat1 hlt1; have HF := Lib.hid (HP.out.j.app2 HP.out.lr hown1 hgrow1 hat1); clear hown1 hgrow1 hat1 hlt1) | (refine step_append_lies _ (by rfl) _ _ _ (by rfl) (pb + 1) 60 i0 _ 5 56 Try.underlying57 HI.out HZ.out.1 HZ.out.2.1 HZ.out.2.2 rfl (by omega) (.slice A Q.length c) Q.length (kcs Q) (by rfl) HRT.out.j.o1 ⟨wr.heap.size, 0, none⟩ 1 1 (Lc.mk ⟨cs, 0, 0, 0, 0⟩ A4 c4).v (by rfl) (by rfl) HNT.out.news (Lc.v_one _) (by omega) (by have := HQL.out; unfold maxLen; omega) (by have := HQL.out; omega) (Nat.succ_le_of_lt HRT.out.j.qb.lt) _ rfl ?_; intro g1 cp1 w8 hown1 hgrow1 hat1 hlt1; have HP := Lib.hid (HRT.out.p hown1 hgrow1 hat1); obtain ⟨u0, u1, u2, u3, u4⟩ := HP.out.xb.k; have ul := HP.out.xb.lt; obtain ⟨v0, v1, v2, v3, v4⟩ := HP.out.yb.k; have vl := HP.out.yb.lt; clear hown1 hgrow1 hat1 hlt1) | (refine step_append_lies _ (by rfl) _ _ _ (by rfl) (pb + 1) 60 i0 _ 5 56 Try.underlying57 HI.out HZ.out.1 HZ.out.2.1 HZ.out.2.2 rfl (by omega) (.slice A Q.length c) Q.length (kcs Q) (by rfl) HRTS.out.j.o1 ⟨wr.heap.size, 0, none⟩ 1 1 (Lc.mk ⟨cs, 0, 0, 0, 0⟩ A4 c4).v (by rfl) (by rfl) HNTS1.out.news (Lc.v_one _) (by omega) (by have := HQL.out; unfold maxLen; omega) (by have := HQL.out; omega) (Nat.succ_le_of_lt HRTS.out.j.qb.lt) _ rfl ?_; intro g1 cp1 w8 hown1 hgrow1 hat1 hlt1; have HP := Lib.hid (HRTS.out.p hown1 hgrow1 hat1); obtain ⟨u0, u1, u2, u3, u4⟩ := HP.out.xb.k; have ul := HP.out.xb.lt; obtain ⟨v0, v1, v2, v3, v4⟩ := HP.out.yb.k; have vl := HP.out.yb.lt; have HNO := Lib.hid (HNTS2.out.grown hgrow1 (fun e => by have := HOB.out.1 _ e; omega)); clear hown1 hgrow1 hat1 hlt1) | (refine step_append_lies _ (by rfl) _ _ _ (by rfl) (pb + 1) 60 i0 _ 5 56 Try.underlying57 HI.out HZ.out.1 HZ.out.2.1 HZ.out.2.2 rfl (by omega) (.slice A Q.length c) Q.length (kcs Q) (by rfl) HRST.out.j.o1 ⟨wr.heap.size + 1, 0, none⟩ 1 1 (Lc.mk ⟨cs, 0, 0, 0, 0⟩ A4 c4).v (by rfl) (by rfl) HNST2.out.news (Lc.v_one _) (by omega) (by have := HQL.out; unfold maxLen; omega) (by have := HQL.out; omega) (Nat.succ_le_of_lt HRST.out.j.qb.lt) _ rfl ?_; intro g1 cp1 w8 hown1 hgrow1 hat1 hlt1; have HP := Lib.hid (HRST.out.p hown1 hgrow1 hat1); obtain ⟨u0, u1, u2, u3, u4⟩ := HP.out.xb.k; have ul := HP.out.xb.lt; obtain ⟨v0, v1, v2, v3, v4⟩ := HP.out.yb.k; have vl := HP.out.yb.lt; have HNO := Lib.hid (HNST1.out.grown hgrow1 (fun e => by have := HOB.out.1 _ e; omega)); clear hown1 hgrow1 hat1 hlt1))
      all_goals
        have HFF := Lib.hid HF.out
        clear HF HP HR HRT HRS HRTS HRST HNT HNS HNTS1 HNTS2 HNST1 HNST2 HOB
        go_wp2
        go_roundw
        case rel => exact ⟨_, _, _, _, Q ++ [(Lc.mk ⟨cs, 0, 0, 0, 0⟩ A4 c4)], K ++ [(Lc.mk ⟨cs, 0, 0, 0, 0⟩ A5 c5)], by simp, by simp, by simp, by have := HQL.out; simp; omega, Lib.hid ⟨⟨fun t ht => by
          rcases List.mem_append.1 ht with h1 | h1
          · exact HOK.out.1 t h1
          · obtain rfl : t = (Lc.mk ⟨cs, 0, 0, 0, 0⟩ A4 c4) := by simpa using h1
            exact HT.out, by simp [HOK.out.2]⟩, HFF.out⟩⟩
        case measure => simp [intOf]; have := HQL.out; omega
    · have hqm : Q.length = 3 := by omega
      have hkm : K.length = 3 := by have := HKQ.out; omega
      obtain ⟨b1, cap, b2, cap2, he, he', hj2⟩ := HD.out.end_ (by omega) (by omega)
      have HJ := Lib.hid hj2
      have HQM := Lib.hid hqm
      injection he with he1 he2 he3
      injection he' with he4 he5 he6
      subst he1 he3 he4 he6
      have hlt' : ¬ (Q.length : Int) < 3 := by omega
      rw [hqm] at hlt' ⊢
      rw [hkm]
      rw [show ((3 : Nat) : Int) = 3 from rfl] at hlt' ⊢
      have HOU := Lib.hid (out_start (hQ := HOK.out.1) HQM.out (by omega) (by omega) HNN.out.2.2 HCA.out.1 HCA.out.2).tv
      have HKM := Lib.hid HOK.out.2
      clear hj2 hlt hQm hqm hkm he2 he5 HQM HI HZ HCA HOK HKQ HD
      go_wp2_with fail
      go_loopw [15] (fun iv wr => ∃ (r : Nat) (a : Ar) (Y V : Ax) (Q K : List Lc), iv = .int .i64 (r : Int) ∧ r ≤ 60 ∧ Hid (Tv13 n 3 a Q (r : Int) ∧ K.map Lc.l = Q.map Lc.l ∧ Jd w g p pb b1 b2 a Y V Q K wr)) (fun iv _ => 60 - (intOf iv).toNat)
      case atStart => exact ⟨0, A0, Y0, Y0, Q, K, rfl, by omega, Lib.hid ⟨HOU.out.mono (by omega), HKM.out, HJ.out⟩⟩
      case round =>
        clear HOU HJ hlt' HKM
        clear Q K
        obtain ⟨r, a, Y, V, Q, K, rfl, hr60, H⟩ := hrel
        have HTV := Lib.hid H.out.1
        have HKM := Lib.hid H.out.2.1
        have HJ := Lib.hid H.out.2.2
        clear H
        go_upto_region 17 with (fail)
        go_cut [86] (fun s59 wx => ∃ bb : Bool, s59 = .bool bb ∧ (bb = true → r < 60) ∧ Hid (Jd w g p pb b1 b2 a Y V Q K wx))
        case first =>
          by_cases h60 : r < 60
          · have h60' : (r : Int) < 60 := by omega
            by_cases h6 : r < 6
            · have h6' : (r : Int) < 6 := by omega
              go_wp2_with fail
              go_meet
              exact ⟨true, rfl, fun _ => h60, HJ⟩
            · have h6' : ¬ (r : Int) < 6 := by omega
              go_wp2_with fail
              refine (more_any w.heap.size g _ HJ.out.src).mono ?_
              rintro e w5 ⟨bb, rfl, hs, hg⟩
              have HJ := Lib.hid (HJ.out.turn hs hg)
              clear hs hg
              go_wp2_with fail
              go_meet
              exact ⟨bb, rfl, fun _ => h60, HJ⟩
          · have h60' : ¬ (r : Int) < 60 := by omega
            go_wp2_with fail
            go_meet
            exact ⟨false, rfl, (fun h => by cases h), HJ⟩
        case rest =>
          clear HJ
          obtain ⟨bb, rfl, hb60, HJ⟩ := hcut
          cases bb with
          | false =>
            clear hb60
            go_wp2_with fail
            refine (HAW.out _).mono ?_
            rintro e x1 ⟨rfl, hb⟩
            have HFIN := Lib.hid (HJ.out.below hb).bel
            clear hb HJ
            go_wp2
            go_ret
            exact ⟨rfl, HFIN.out⟩
          | true =>
            have HR60 := Lib.hid (hb60 rfl)
            have hwr : IntKind.i64.wrap ((r : Int) + 1) = (r : Int) + 1 := IntWalk.i64_in _ (by have := HR60.out; omega)
            clear hb60 hr60
            go_wp2_with fail
            refine (n_any w.heap.size g _ HJ.out.src 3 (by omega) (by omega)).mono ?_
            rintro e x1 ⟨ki, rfl, k1, k2, hs, hg⟩
            replace HJ := Lib.hid (HJ.out.turn hs hg)
            obtain ⟨k, rfl⟩ : ∃ k : Nat, ki = (k : Int) := ⟨ki.toNat, by omega⟩
            have hlt' : (k : Int) < 3 := by omega
            have hk0 : (0 : Int) ≤ (k : Int) := by omega
            have hwk : IntKind.i64.wrap ((k : Int) + 1) = (k : Int) + 1 := IntWalk.i64_in _ (by omega)
            have hkq : k < Q.length := by rw [HTV.out.ql]; omega
            have hkk : k < K.length := by have := congrArg List.length HKM.out; simp at this; omega
            obtain ⟨t, ht⟩ : ∃ t, Q[k]? = some t := ⟨_, List.getElem?_eq_getElem hkq⟩
            obtain ⟨s, hs'⟩ : ∃ s, K[k]? = some s := ⟨_, List.getElem?_eq_getElem hkk⟩
            have hsl : s.l = t.l := by
              have e1 : (K.map Lc.l)[k]? = some s.l := map_at hs'
              rw [HKM.out, map_at ht] at e1
              exact (Option.some.inj e1).symm
            have HT := Lib.hid (And.intro ht hs')
            have HSL := Lib.hid hsl
            have HKQ := Lib.hid (show k < Q.length ∧ k < K.length ∧ k < 3 from ⟨hkq, hkk, by omega⟩)
            clear ht hs' hkq hkk hs hg k1 k2 hsl
            go_wp2_with fail
            refine (n_any w.heap.size g _ HJ.out.src 3 (by omega) (by omega)).mono ?_
            rintro e x2 ⟨mi, rfl, -, -, hs, hg⟩
            replace HJ := Lib.hid (HJ.out.turn hs hg)
            clear hs hg
            have HL1 := Lib.hid (HJ.out.l1 t (List.mem_of_getElem? HT.out.1))
            have HL2 := Lib.hid (HJ.out.l2 s (List.mem_of_getElem? HT.out.2))
            obtain ⟨t0, t1, t2, t3, t4⟩ := HJ.out.r1.at5 HT.out.1
            have rl := HJ.out.r1.lt
            obtain ⟨s0, s1, s2, s3, s4⟩ := HJ.out.r2.at5 HT.out.2
            rw [HSL.out] at s0 s1 s2 s3 s4
            by_cases hm0 : mi = 0
            · subst hm0
              have HFR := Lib.hid (jfree_any t.l t.A t.c x2 HL1.out.fl (by have := (HTV.out.iv.ok _ _ (map_at HT.out.1)).l3; omega))
              have HFS := Lib.hid (fun W (h : Fl W W.heap.size (.slice s.A t.l.cs.length s.c) t.l.cs) => rfree13_any t.l s.A s.c W h)
              have HNI := Lib.hid (fun (h3 : t.l.ph = 3) (A : Option Addr) (c : Nat) => HTV.out.free (A := A) (c := c) HT.out.1 h3)
              have HFE := Lib.hid (show (t.l.ph = 3 ∧ frE t.l = 0) ∨ (t.l.ph ≠ 3 ∧ frE t.l = 7) from by
                by_cases h3 : t.l.ph = 3
                · exact .inl ⟨h3, if_pos h3⟩
                · exact .inr ⟨h3, if_neg h3⟩)
              obtain ⟨M, hM⟩ : ∃ M, M = frL t.l := ⟨_, rfl⟩
              obtain ⟨E, hE⟩ : ∃ E, E = frE t.l := ⟨_, rfl⟩
              rw [← hM] at HFR HFS HNI
              rw [← hE] at HFR HFS HFE
              clear hM hE
              go_wp2_with fail
              clear t0 t1 t2 t3 t4 s0 s1 s2 s3 s4 rl
              refine HFR.out.mono ?_
              rintro e x3 ⟨A4, c4, rfl, hn, hl, hb⟩
              have hal := (Below.refl x3.heap.size x3).alloc (Nat.le_refl _) (.cells #[.slice A4 M.cs.length c4, .int .i64 M.ph, .int .i64 M.hv, .int .i64 M.tr, .int .i64 M.wt] 60)
              have HLT := Lib.hid (show Ly (x3.alloc (.cells #[.slice A4 M.cs.length c4, .int .i64 M.ph, .int .i64 M.hv, .int .i64 M.tr, .int .i64 M.wt] 60)) [g, p, pb, b1, b2] ⟨M, A4, c4⟩ from ⟨hl.alloc2 _, fun q hq => offb_nw hn (by simp only [List.mem_cons, List.not_mem_nil, or_false] at hq; rcases hq with rfl | rfl | rfl | rfl | rfl; exact HJ.out.src.2.1; exact HJ.out.qa.lt; exact HJ.out.qb.lt; exact HJ.out.r1.lt; exact HJ.out.r2.lt)⟩)
              have HX := Lib.hid (LB.start x3 M A4 c4 60)
              have HXO := Lib.hid (show ∀ q, q < x2.heap.size → q < x3.heap.size from fun q hq => Nat.lt_of_lt_of_le hq hb.size)
              have HOW := Lib.hid (show p < x2.heap.size ∧ pb < x2.heap.size ∧ b1 < x2.heap.size ∧ b2 < x2.heap.size from ⟨HJ.out.qa.lt, HJ.out.qb.lt, HJ.out.r1.lt, HJ.out.r2.lt⟩)
              replace HJ := Lib.hid ((HJ.out.below hb).below hal)
              have HL2 := Lib.hid ((HL2.out.up hb).up hal)
              clear hn hl hb hal HFR HL1
              go_upto_region 22 with (fail)
              obtain ⟨x, hx⟩ : ∃ x, x = x3.heap.size := ⟨_, rfl⟩
              rw [← hx] at HX HXO ⊢
              clear hx
              generalize (x3.alloc (.cells #[.slice A4 M.cs.length c4, .int .i64 M.ph, .int .i64 M.hv, .int .i64 M.tr, .int .i64 M.wt] 60)) = x4 at *
              obtain ⟨s0, s1, s2, s3, s4⟩ := HJ.out.r2.at5 HT.out.2
              rw [HSL.out] at s0 s1 s2 s3 s4
              go_wp2_with fail
              clear s0 s1 s2 s3 s4
              refine (HFS.out _ (by have := HL2.out.fl; rw [HSL.out] at this; exact this)).mono ?_
              rintro e x5 ⟨A5, c5, rfl, hof, hl, hb⟩
              have hal := (Below.refl x5.heap.size x5).alloc (Nat.le_refl _) (.cells #[.slice A5 M.cs.length c5, .int .i64 M.ph, .int .i64 M.hv, .int .i64 M.tr, .int .i64 M.wt] 60)
              have HLS := Lib.hid (show Ly (x5.alloc (.cells #[.slice A5 M.cs.length c5, .int .i64 M.ph, .int .i64 M.hv, .int .i64 M.tr, .int .i64 M.wt] 60)) [g, p, pb, b1, b2] ⟨M, A5, c5⟩ from ⟨hl.alloc2 _, fun q hq => hof q (by have := HL2.out.o q hq; rw [HSL.out] at this; exact this)⟩)
              have HY := Lib.hid (LB.start x5 M A5 c5 60)
              have HYO := Lib.hid (show x < x5.heap.size ∧ ∀ q, q < x2.heap.size → q < x5.heap.size from ⟨Nat.lt_of_lt_of_le HX.out.lt hb.size, fun q hq => Nat.lt_of_lt_of_le (Nat.lt_trans (HXO.out q hq) HX.out.lt) hb.size⟩)
              replace HJ := Lib.hid ((HJ.out.below hb).below hal)
              replace HX := Lib.hid ((HX.out.up hb).up hal)
              replace HLT := Lib.hid ((HLT.out.up hb).up hal)
              clear hof hl hb hal HFS HL2
              go_upto_region 23 with (fail)
              obtain ⟨y, hy⟩ : ∃ x, x = x5.heap.size := ⟨_, rfl⟩
              rw [← hy] at HY HYO ⊢
              clear hy
              generalize (x5.alloc (.cells #[.slice A5 M.cs.length c5, .int .i64 M.ph, .int .i64 M.hv, .int .i64 M.tr, .int .i64 M.wt] 60)) = x6 at *
              obtain ⟨u0, u1, u2, u3, u4⟩ := HX.out.k
              have ul := HX.out.lt
              obtain ⟨v0, v1, v2, v3, v4⟩ := HY.out.k
              have vl := HY.out.lt
              go_wp2_with fail
              clear u0 u1 u2 u3 u4 ul v0 v1 v2 v3 v4 vl
              refine (rsame13_yes M A4 A5 c4 c5 _ HLT.out.fl HLS.out.fl).mono ?_
              rintro e x7 ⟨rfl, hb⟩
              replace HJ := Lib.hid (HJ.out.below hb)
              replace HX := Lib.hid (HX.out.up hb)
              replace HY := Lib.hid (HY.out.up hb)
              replace HLT := Lib.hid (HLT.out.up hb)
              replace HLS := Lib.hid (HLS.out.up hb)
              clear hb
              rcases HFE.out with ⟨h3, rfl⟩ | ⟨h3, rfl⟩
              · have HTV2 := Lib.hid (HNI.out h3 A4 c4)
                have HJ5 := Lib.hid (HJ.out.putK HKQ.out.1 HKQ.out.2.1 HLT.out HLS.out)
                have HKM2 := Lib.hid (show (K.set k ⟨M, A5, c5⟩).map Lc.l = (Q.set k ⟨M, A4, c4⟩).map Lc.l from by rw [List.map_set, List.map_set, HKM.out])
                obtain ⟨u0, u1, u2, u3, u4⟩ := HX.out.k
                have ul := HX.out.lt
                obtain ⟨v0, v1, v2, v3, v4⟩ := HY.out.k
                have vl := HY.out.lt
                obtain ⟨t0, t1, t2, t3, t4⟩ := HJ.out.r1.at5 HT.out.1
                obtain ⟨s0, s1, s2, s3, s4⟩ := HJ.out.r2.at5 HT.out.2
                have rl1 := HJ.out.r1.lt
                have rl2 := HJ.out.r2.lt
                have d0 := HJ.out.r1.f (k * 5)
                have d1 := HJ.out.r1.f (k * 5 + 1)
                have d2 := HJ.out.r1.f (k * 5 + 2)
                have d3 := HJ.out.r1.f (k * 5 + 3)
                have d4 := HJ.out.r1.f (k * 5 + 4)
                have e0 := HJ.out.r2.f (k * 5)
                have e1 := HJ.out.r2.f (k * 5 + 1)
                have e2 := HJ.out.r2.f (k * 5 + 2)
                have e3 := HJ.out.r2.f (k * 5 + 3)
                have e4 := HJ.out.r2.f (k * 5 + 4)
                have nb12 : ¬ b1 = b2 := HJ.out.ne.2.2.2.2.2
                have nb21 : ¬ b2 = b1 := fun e => nb12 e.symm
                have nxb1 : ¬ x = b1 := by have := HXO.out b1 HOW.out.2.2.1; omega
                have nb1x : ¬ b1 = x := fun e => nxb1 e.symm
                have nxb2 : ¬ x = b2 := by have := HXO.out b2 HOW.out.2.2.2; omega
                have nb2x : ¬ b2 = x := fun e => nxb2 e.symm
                have nyb1 : ¬ y = b1 := by have := HYO.out.2 b1 HOW.out.2.2.1; omega
                have nb1y : ¬ b1 = y := fun e => nyb1 e.symm
                have nyb2 : ¬ y = b2 := by have := HYO.out.2 b2 HOW.out.2.2.2; omega
                have nb2y : ¬ b2 = y := fun e => nyb2 e.symm
                clear HTV HJ HX HY HLT HLS HFE HNI HXO HYO HOW h3
                go_wp2
                go_region
                all_goals
                  have HJ := Lib.hid (HJ5.out.below (Below.refl _ _).drew)
                  clear HJ5
                  go_wp2
                  go_roundw
                  case rel => exact ⟨r + 1, a, Y, V, Q.set k ⟨M, A4, c4⟩, K.set k ⟨M, A5, c5⟩, by go_num, HR60.out, Lib.hid ⟨HTV2.out.mono (by omega), HKM2.out, HJ.out⟩⟩
                  case measure => simp [intOf]; have := HR60.out; omega
              · clear HFE h3 HX HY HLT HLS HNI
                go_wp2
                go_roundw
                case rel => exact ⟨r + 1, a, Y, V, Q, K, by go_num, HR60.out, Lib.hid ⟨HTV.out.mono (by omega), HKM.out, HJ.out⟩⟩
                case measure => simp [intOf]; have := HR60.out; omega
            · have hb0 : (mi == 0) = false := beq_eq_false_iff_ne.2 hm0
              rename_i y1 y2 y3 y4 y5 y6 y7 y8 y9 y10 y11 y12 y13 y14 y15 y16 y17 y18 y19 y20 y21 y22 y23 y24 y25 y26 y27 y28 y29 y30 y31 y32 y33 y34 y35 y36 y37 y38 y39 y40 y41 y42 y43 y44 y45 y46 y47 y48 y49 y50 y51 y52 y53 y54 y55 y56 y57 y58 y59 y60 y61 y62 y63 y64 y65 y66 y67 y68 y69 y70 y71 y72 y73 y74 y75 y76 y77 y78 y79 y80 y81 y82 y83 y84 y85 y86 y87 y88 y89 y90 y91 y92 y93 y94 y95 y96 y97 y98 y99 y100 y101 y102 y103 y104 y105 y106 y107 y108 y109 y110 y111 y112 y113 y114 y115 y116 y117 y118 y119 y120 y121
              clear HAW
              revert w a1 l1 c1 zs i0 y1 w2 g HS HB w3 y2 n A0 HNN w4 Y0 p w5 pb w6 y3 y4 y5 u10 u11 u12 u13 u14 u38 u39 u40 u41 u42 u43 u44 u45 u46 u47 u48 u49 u50 u51 u52 u53 u54 u55 u56 u57 u58 u59 u60 u61 u62 u63 u64 u65 u66 u67 u68 u69 u70 u71 u72 u73 u74 u75 u76 c c2 b1 b2 y6 y7 y8 y9 y10 wr u2 u16 u17 u18 u19 u20 u21 u22 u23 u24 u25 u26 y11 y12 y13 y14 y15 y16 y17 y18 y19 u86 y20 y21 y22 y23 y24 y25 y26 y27 y28 y29 y30 y31 y32 y33 y34 y35 y36 y37 y38 y39 y40 y41 y42 y43 y44 y45 y46 y47 y48 y49 y50 y51 y52 y53 y54 y55 y56 y57 y58 y59 y60 y61 y62 y63 y64 y65 y66 y67 y68 y69 y70 y71 y72 y73 y74 y75 y76 y77 y78 y79 y80 y81 y82 y83 y84 y85 y86 y87 y88 y89 y90 y91 y92 y93 y94 y95 y96 y97 y98 y99 y100 y101 y102 y103 y104 y105 y106 y107 y108 y109 y110 y111 y112 r a Y V Q K HTV HKM y113 wc u77 u78 u79 u80 u81 u82 u83 u84 u85 u87 u88 u89 u90 u91 u92 u93 u94 u95 u96 u97 u98 u99 u100 u101 u102 u103 u104 u105 u106 u107 u108 u109 u110 u111 u112 u113 u114 u115 u116 u117 u118 u119 u120 u121 u122 u123 u124 u125 u126 u127 u128 u129 u130 u131 u132 u133 u134 u135 u136 u137 u138 u139 u140 u141 u142 u143 u144 u145 u146 u147 u148 u149 u150 u151 u152 u153 u154 u155 u156 u157 u158 u159 u160 u161 u162 u163 u164 u165 u166 u167 u168 u169 u170 u171 u172 u173 u174 u175 u176 u177 u178 u179 HR60 hwr y114 y115 x1 k hlt' hk0 hwk t s HT HSL HKQ y116 y117 y118 y119 y120 y121 x2 mi HJ HL1 HL2 t0 t1 t2 t3 t4 rl s0 s1 s2 s3 s4 hm0 hb0
              exact HPP.out
⟩
end Go.Proofs.Ytijpflljopckiaa
