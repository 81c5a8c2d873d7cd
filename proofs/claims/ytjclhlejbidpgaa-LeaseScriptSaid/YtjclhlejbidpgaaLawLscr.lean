/- What is proved here: shardqueuelaw06.LeaseScript returns true for every input and leaves its argument as it was. No condition. -/
import Derived.Test.YtjclhlejbidpgaaJ21
import Derived.Test.YtjclhlejbidpgaaJ28
import Derived.Test.YtjclhlejbidpgaaJ27
import Derived.Deep.DeepCutAuto
import Derived.Deep.CutBlock
import Derived.ProofKit
import Derived.OpenShut
import Derived.ShutString
import Derived.ChangeOld
namespace Go.Proofs.Ytjclhlejbidpgaa
open Go.RowKit
set_option linter.unusedVariables false

/-- Thirty zeros. -/
abbrev z30 : Array Value := #[.int .i64 0, .int .i64 0, .int .i64 0, .int .i64 0, .int .i64 0, .int .i64 0, .int .i64 0, .int .i64 0, .int .i64 0, .int .i64 0, .int .i64 0, .int .i64 0, .int .i64 0, .int .i64 0, .int .i64 0, .int .i64 0, .int .i64 0, .int .i64 0, .int .i64 0, .int .i64 0, .int .i64 0, .int .i64 0, .int .i64 0, .int .i64 0, .int .i64 0, .int .i64 0, .int .i64 0, .int .i64 0, .int .i64 0, .int .i64 0]
theorem Hv.start (w : World) (t : TypeId) : Hv (w.alloc (.cells z30 t)) w.heap.size (fun _ => 0) :=
  ⟨by simp, fun j hj => by
    rw [World.cell?_alloc_new]
    show (z30)[j]? = some (.int .i64 0)
    rw [show z30 = Array.replicate 30 (.int .i64 0) from rfl, Array.getElem?_replicate, if_pos hj], fun o => by simp [go_sem]⟩

set_option maxHeartbeats 16000000 in
set_option maxRecDepth 20000 in
theorem LeaseScript_walk (w : World) (a0 : Option Addr) (l0 c0 : Nat) (zs : List Int) (hz : Ns w w.heap.size (.slice a0 l0 c0) zs) :
    Calls Try.prog 3 #[.slice a0 l0 c0] w fun e w' => e = .returned (.bool true) ∧ Below w.heap.size w w' := by
  have HN := Lib.hid (new_src a0 l0 c0 zs w hz)
  clear hz
  go_enter Try.func3, Try.ntmps3
  go_wp2_with fail
  refine HN.out.mono ?_
  rintro e w1 ⟨g, rfl, hs, hb⟩
  have HW1 := Lib.hid hb
  have HS1 := Lib.hid hs
  have HBG := Lib.hid (show w.heap.size ≤ g from hs.1)
  clear hb hs
  have HK0 := Lib.hid (show ScAt w g w1.heap.size (w1.heap.size + 1) (w1.heap.size + 2) none 0 [] none 0 [] (fun _ => 0) ((w1.alloc (.cells #[.slice none 0 0, .slice none 0 0] 28)).alloc (.cells z30 29)) from by
    have b1 := (Below.refl w1.heap.size w1).alloc (Nat.le_refl _) (.cells #[.slice none 0 0, .slice none 0 0] 28)
    have hvs := Hv.start (w1.alloc (.cells #[.slice none 0 0, .slice none 0 0] 28)) 29
    rw [show (w1.alloc (.cells #[.slice none 0 0, .slice none 0 0] 28)).heap.size = w1.heap.size + 1 by simp] at hvs
    have rs := RT.start w1 none 0 0 none 0 0 28
    exact ⟨(HS1.out.alloc _).alloc _, rs.below ((Below.refl _ _).alloc (Nat.le_refl _) _) rs.lt, El.nil, Dl.nil, hvs, ⟨nw_none, nw_none⟩, HW1.out.trans ((b1.alloc (by simp) _).mono HW1.out.size), HBG.out, HS1.out.2.1, Nat.lt_succ_self _, Nat.lt_succ_self _, by simp⟩)
  go_wp2
  obtain ⟨r, hr⟩ : ∃ r, r = w1.heap.size := ⟨_, rfl⟩
  obtain ⟨q, hq⟩ : ∃ q, q = w1.heap.size + 1 := ⟨_, rfl⟩
  rw [show w1.heap.size + 2 = q + 1 by omega, ← hq, ← hr] at HK0
  rw [← hq, ← hr]
  have HORD := Lib.hid (show g < r ∧ r < q from ⟨HK0.out.ord.2.1, HK0.out.ord.2.2.1⟩)
  clear hr hq HS1 HW1 HBG
  generalize (w1.alloc (.cells #[.slice none 0 0, .slice none 0 0] 28)).alloc (.cells z30 29) = w2 at *
  go_loopw [6] (fun iv wr => ∃ (i Bd : Nat) (A : Option Addr) (c : Nat) (l : List Le) (A2 : Option Addr) (c2 : Nat) (h : List Du) (F : Nat → Int), iv = .int .i64 i ∧ i ≤ 40 ∧ Hid (ScAt w g r q Bd A c l A2 c2 h F wr) ∧ Hid (SkOk l h F)) (fun iv _ => 40 - (intOf iv).toNat)
  case atStart => exact ⟨0, q + 1, none, 0, [], none, 0, [], fun _ => 0, rfl, by omega, HK0, Lib.hid SkOk.nil⟩
  case round =>
    clear HK0
    obtain ⟨i, Bd, A, c, l, A2, c2, h, F, rfl, i40, HK, SS⟩ := hrel
    have hi9 : (i : Int) ≤ 40 := by omega
    have hi0 : (0 : Int) ≤ (i : Int) := by omega
    go_upto_region 5 with (fail)
    go_cut [26] (fun s26 wx => ∃ b : Bool, s26 = .bool b ∧ (b = true → (i : Int) < 40) ∧ Hid (ScAt w g r q Bd A c l A2 c2 h F wx))
    case first =>
      by_cases h40 : (i : Int) < 40
      · by_cases h4 : (i : Int) < 4
        · go_wp2_with fail
          go_meet
          exact ⟨true, rfl, fun _ => h40, HK⟩
        · go_wp2_with fail
          refine (more_any w.heap.size g _ HK.out.src).mono ?_
          rintro e w5 ⟨bm, rfl, hs, hg⟩
          have HQ := Lib.hid (HK.out.grownG hs hg)
          have H40 := Lib.hid h40
          clear hs hg
          go_wp2_with fail
          go_meet
          exact ⟨bm, rfl, fun _ => H40.out, HQ⟩
      · go_wp2_with fail
        go_meet
        exact ⟨false, rfl, fun h => by simp at h, HK⟩
    case rest =>
      obtain ⟨bm, rfl, h40, HQ⟩ := hcut
      clear HK
      cases bm with
      | false =>
        go_wp2_with fail
        refine (awake6_any _).mono ?_
        rintro e w5 ⟨rfl, hb⟩
        have HB5 := Lib.hid (HQ.out.bel.trans (hb.mono HQ.out.bel.size))
        clear hb
        go_wp2
        go_ret
        exact ⟨rfl, HB5.out⟩
      | true =>
        have H40 := Lib.hid (h40 rfl)
        clear h40
        go_wp2_with fail
        refine (range_any w.heap.size g _ HQ.out.src 1 20 (by omega) (by omega) (by omega)).mono ?_
        rintro e w5 ⟨x, rfl, x1, x20, hs, hg⟩
        obtain ⟨x, rfl⟩ := Int.eq_ofNat_of_zero_le (by omega : 0 ≤ x)
        have K5 := Lib.hid (HQ.out.grownG hs hg)
        clear hs hg HQ
        go_wp2_with fail
        refine (n_any w.heap.size g _ K5.out.src 30 (by omega) (by omega)).mono ?_
        rintro e w6 ⟨y, rfl, y1, y2, hs, hg⟩
        have K6 := Lib.hid (K5.out.grownG hs hg).now
        clear hs hg K5
        have K7 := Lib.hid (K6.out.below ((Below.refl w6.heap.size w6).alloc (Nat.le_refl _) (.cells #[.slice none 0 0, .slice none 0 0] 28)))
        have RY7 := Lib.hid (RT.start w6 none 0 0 none 0 0 28)
        have HQB := Lib.hid K6.out.ord.2.2.2.1
        go_wp2_with fail
        obtain ⟨b, hbb⟩ : ∃ b, b = w6.heap.size := ⟨_, rfl⟩
        rw [← hbb] at K7 RY7 HQB ⊢
        have HYG := Lib.hid (show b ≠ g by have := HORD.out; have := HQB.out; omega)
        have HYB := Lib.hid (Nat.le_refl b)
        have hbq : ¬ b = q := by have := HQB.out; omega
        have hqb : ¬ q = b := fun e => hbq e.symm
        clear hbb K6
        generalize w6.alloc (.cells #[.slice none 0 0, .slice none 0 0] 28) = w7 at *
        refine (n_any w.heap.size g _ K7.out.src 4 (by omega) (by omega)).mono ?_
        rintro e w8 ⟨j, rfl, j0, j1, hs, hg⟩
        have K8 := Lib.hid (K7.out.grownG hs hg)
        have RY8 := Lib.hid (RY7.out.grownG hg HYG.out)
        clear hs hg K7 RY7
        go_upto_block 2 with (fail)
        go_cut [10] (fun s10 wx => ∃ E : Int, s10 = .int .i64 E ∧ ((E = 0 ∧ ∃ (A5 : Option Addr) (c5 : Nat) (l5 : List Le) (A6 : Option Addr) (c6 : Nat) (h5 : List Du) (F' : Nat → Int), Hid (ScY w g r q b b A c l A2 c2 h F' A5 c5 l5 A6 c6 h5 wx) ∧ Hid (SkOk l5 h5 F')) ∨ (¬ E = 0 ∧ ∃ F' : Nat → Int, Hid (ScAt w g r q b A c l A2 c2 h F' wx) ∧ Hid (SkOk l h F'))))
        case first =>
          rcases (by omega : j = 0 ∨ j = 1 ∨ j = 2 ∨ j = 3) with rfl | rfl | rfl | rfl
          · go_wp2_with fail
            refine (message_any w.heap.size g _ K8.out.src x 0 9).mono ?_
            rintro e w9 ⟨M, rfl, mid, -, -, -, -, -, -, hs, hg⟩
            have K9 := Lib.hid (K8.out.grownG hs hg)
            have RY9 := Lib.hid (RY8.out.grownG hg HYG.out)
            have HMID := Lib.hid mid
            clear hs hg mid
            go_upto_region 20 with (fail)
            obtain ⟨N, hN⟩ : ∃ N : Msg, N = ⟨M.id, M.rt, M.ep, M.ct, max M.gn 1, M.st, M.bd⟩ := ⟨_, rfl⟩
            have HNI := Lib.hid (show N.id = (x : Int) by rw [hN]; exact HMID.out)
            have HZ0 := Lib.hid (RMs.start w9 N 35)
            have B9 := Lib.hid ((Below.refl w9.heap.size w9).alloc (Nat.le_refl _) (.cells #[.int .i64 N.id, .int .i64 N.rt, .int .i64 N.ep, .int .i64 N.ct, .int .i64 N.gn, .int .i64 N.st, .string N.bd] 35))
            have K10 := Lib.hid (K9.out.below B9.out)
            have RY10 := Lib.hid (RY9.out.below B9.out RY9.out.lt)
            rw [show M.id = N.id by rw [hN], show M.rt = N.rt by rw [hN], show M.ep = N.ep by rw [hN], show M.ct = N.ct by rw [hN], show max M.gn 1 = N.gn by rw [hN], show M.st = N.st by rw [hN], show M.bd = N.bd by rw [hN]]
            obtain ⟨z, hz⟩ : ∃ z, z = w9.heap.size := ⟨_, rfl⟩
            rw [← hz] at HZ0 ⊢
            clear hz hN K9 RY9 B9 HMID
            generalize w9.alloc (.cells #[.int .i64 N.id, .int .i64 N.rt, .int .i64 N.ep, .int .i64 N.ct, .int .i64 N.gn, .int .i64 N.st, .string N.bd] 35) = w10 at *
            obtain ⟨z0, z1, z2, z3, z4, z5, z6, -, -, -, -, -, -, -, zl⟩ := HZ0.out
            obtain ⟨t0, t1, tf0, tf1, tl⟩ := K10.out.rt
            have HG := Lib.hid (lgrant_any A l.length c l A2 h.length c2 h ⟨N, 1 + y⟩ w10 K10.out.now.el K10.out.now.dl)
            have HYL := Lib.hid RY10.out.lt
            go_wp2_with fail
            refine HG.out.mono ?_
            rintro e w11 ⟨A5, c5, A6, c6, rfl, n5, n6, h5, h6, hb⟩
            have K11 := Lib.hid (K10.out.below hb)
            have RY11 := Lib.hid (RY10.out.below hb RY10.out.lt)
            have HL := Lib.hid (And.intro (And.intro n5 n6) (And.intro h5 h6))
            clear n5 n6 h5 h6 hb z0 z1 z2 z3 z4 z5 z6 zl t0 t1 tf0 tf1 tl HG HZ0
            obtain ⟨y0', y1', yf0, yf1, yl⟩ := RY11.out
            have hv0 := K11.out.hv.at_ x (by omega)
            have hvf := K11.out.hv.fr x
            have hql := K11.out.hv.lt
            by_cases e0 : grE l h ⟨N, 1 + y⟩ = 0
            · have SO := Lib.hid (SS.out.grant (x := x) (by omega : 1 ≤ 1 + y) HNI.out e0)
              rw [e0]
              generalize grL l h ⟨N, 1 + y⟩ = l5 at *
              generalize grH l h ⟨N, 1 + y⟩ = h5 at *
              have HYY := Lib.hid (sc_ok K11.out RY11.out HYB.out HYL.out HL.out.1.1 HL.out.1.2 HL.out.2.1 HL.out.2.2 (j := x) (by omega) (1 + y))
              clear e0
              go_wp2
              go_meet
              exact ⟨0, rfl, .inl ⟨rfl, A5, c5, l5, A6, c6, h5, _, HYY, SO⟩⟩
            · obtain ⟨g1, g2⟩ := grE_ne e0
              rw [g1, g2]
              rw [show ([] : List Le).length = 0 from rfl, show ([] : List Du).length = 0 from rfl]
              have HYY := Lib.hid (K11.out.far HYB.out (.slice A5 0 c5) (.slice A6 0 c6))
              clear g1 g2 HL
              generalize grE l h ⟨N, 1 + y⟩ = E at *
              go_wp2
              go_meet
              exact ⟨E, rfl, .inr ⟨e0, F, HYY, SS⟩⟩
          · go_wp2_with fail
            refine (message_any w.heap.size g _ K8.out.src x 0 9).mono ?_
            rintro e w9 ⟨M, rfl, mid, -, -, -, -, -, -, hs, hg⟩
            have K9 := Lib.hid (K8.out.grownG hs hg)
            have RY9 := Lib.hid (RY8.out.grownG hg HYG.out)
            have HMID := Lib.hid mid
            clear hs hg mid
            go_upto_region 20 with (fail)
            obtain ⟨N, hN⟩ : ∃ N : Msg, N = ⟨M.id, M.rt, M.ep, M.ct, max M.gn 1, M.st, M.bd⟩ := ⟨_, rfl⟩
            have HNI := Lib.hid (show N.id = (x : Int) by rw [hN]; exact HMID.out)
            have HZ0 := Lib.hid (RMs.start w9 N 35)
            have B9 := Lib.hid ((Below.refl w9.heap.size w9).alloc (Nat.le_refl _) (.cells #[.int .i64 N.id, .int .i64 N.rt, .int .i64 N.ep, .int .i64 N.ct, .int .i64 N.gn, .int .i64 N.st, .string N.bd] 35))
            have K10 := Lib.hid (K9.out.below B9.out)
            have RY10 := Lib.hid (RY9.out.below B9.out RY9.out.lt)
            rw [show M.id = N.id by rw [hN], show M.rt = N.rt by rw [hN], show M.ep = N.ep by rw [hN], show M.ct = N.ct by rw [hN], show max M.gn 1 = N.gn by rw [hN], show M.st = N.st by rw [hN], show M.bd = N.bd by rw [hN]]
            obtain ⟨z, hz⟩ : ∃ z, z = w9.heap.size := ⟨_, rfl⟩
            rw [← hz] at HZ0 ⊢
            clear hz hN K9 RY9 B9 HMID
            generalize w9.alloc (.cells #[.int .i64 N.id, .int .i64 N.rt, .int .i64 N.ep, .int .i64 N.ct, .int .i64 N.gn, .int .i64 N.st, .string N.bd] 35) = w10 at *
            obtain ⟨z0, z1, z2, z3, z4, z5, z6, -, -, -, -, -, -, -, zl⟩ := HZ0.out
            obtain ⟨t0, t1, tf0, tf1, tl⟩ := K10.out.rt
            have HG := Lib.hid (lgrant_any A l.length c l A2 h.length c2 h ⟨N, 1 + y⟩ w10 K10.out.now.el K10.out.now.dl)
            have HYL := Lib.hid RY10.out.lt
            go_wp2_with fail
            refine HG.out.mono ?_
            rintro e w11 ⟨A5, c5, A6, c6, rfl, n5, n6, h5, h6, hb⟩
            have K11 := Lib.hid (K10.out.below hb)
            have RY11 := Lib.hid (RY10.out.below hb RY10.out.lt)
            have HL := Lib.hid (And.intro (And.intro n5 n6) (And.intro h5 h6))
            clear n5 n6 h5 h6 hb z0 z1 z2 z3 z4 z5 z6 zl t0 t1 tf0 tf1 tl HG HZ0
            obtain ⟨y0', y1', yf0, yf1, yl⟩ := RY11.out
            have hv0 := K11.out.hv.at_ x (by omega)
            have hvf := K11.out.hv.fr x
            have hql := K11.out.hv.lt
            by_cases e0 : grE l h ⟨N, 1 + y⟩ = 0
            · have SO := Lib.hid (SS.out.grant (x := x) (by omega : 1 ≤ 1 + y) HNI.out e0)
              rw [e0]
              generalize grL l h ⟨N, 1 + y⟩ = l5 at *
              generalize grH l h ⟨N, 1 + y⟩ = h5 at *
              have HYY := Lib.hid (sc_ok K11.out RY11.out HYB.out HYL.out HL.out.1.1 HL.out.1.2 HL.out.2.1 HL.out.2.2 (j := x) (by omega) (1 + y))
              clear e0
              go_wp2
              go_meet
              exact ⟨0, rfl, .inl ⟨rfl, A5, c5, l5, A6, c6, h5, _, HYY, SO⟩⟩
            · obtain ⟨g1, g2⟩ := grE_ne e0
              rw [g1, g2]
              rw [show ([] : List Le).length = 0 from rfl, show ([] : List Du).length = 0 from rfl]
              have HYY := Lib.hid (K11.out.far HYB.out (.slice A5 0 c5) (.slice A6 0 c6))
              clear g1 g2 HL
              generalize grE l h ⟨N, 1 + y⟩ = E at *
              go_wp2
              go_meet
              exact ⟨E, rfl, .inr ⟨e0, F, HYY, SS⟩⟩
          · obtain ⟨t0, t1, tf0, tf1, tl⟩ := K8.out.rt
            have HG := Lib.hid (lrelease_any A l.length c l A2 h.length c2 h x w8 K8.out.now.el K8.out.now.dl)
            have HYL := Lib.hid RY8.out.lt
            go_wp2_with fail
            refine HG.out.mono ?_
            rintro e w11 ⟨A5, c5, A6, c6, rfl, n5, n6, h5, h6, hb⟩
            have K11 := Lib.hid (K8.out.below hb)
            have RY11 := Lib.hid (RY8.out.below hb RY8.out.lt)
            have HL := Lib.hid (And.intro (And.intro n5 n6) (And.intro h5 h6))
            clear n5 n6 h5 h6 hb t0 t1 tf0 tf1 tl HG
            obtain ⟨y0', y1', yf0, yf1, yl⟩ := RY11.out
            have hv0 := K11.out.hv.at_ x (by omega)
            have hvf := K11.out.hv.fr x
            have hql := K11.out.hv.lt
            obtain ⟨f, hf⟩ : ∃ f, f = F x := ⟨_, rfl⟩
            rw [← hf] at hv0
            have HFF := Lib.hid hf
            have HIF := Lib.hid (show rlE l h x = 0 ↔ 0 < f by rw [hf]; exact SS.out.rl (by omega))
            clear hf
            by_cases e0 : rlE l h x = 0
            · have SO := Lib.hid (SS.out.release e0)
              have hf0 : 0 < f := HIF.out.1 e0
              have hdf : decide (0 < f) = true := decide_eq_true hf0
              rw [e0]
              clear HIF
              generalize rlL l h x = l5 at *
              generalize rlH l h x = h5 at *
              have HYY := Lib.hid (sc_ok K11.out RY11.out HYB.out HYL.out HL.out.1.1 HL.out.1.2 HL.out.2.1 HL.out.2.2 (j := x) (by omega) 0)
              clear e0
              go_wp2
              go_meet
              exact ⟨0, rfl, .inl ⟨rfl, A5, c5, l5, A6, c6, h5, _, HYY, SO⟩⟩
            · obtain ⟨g2, g1, -⟩ := rlE_ne e0
              have hf0 : ¬ 0 < f := fun e => e0 (HIF.out.2 e)
              have hdf : decide (0 < f) = false := decide_eq_false hf0
              rw [g1, g2]
              rw [show ([] : List Le).length = 0 from rfl, show ([] : List Du).length = 0 from rfl]
              have HYY := Lib.hid ((K11.out.far HYB.out (.slice A5 0 c5) (.slice A6 0 c6)).put (j := x) (by omega) 0)
              have SO := Lib.hid (SS.out.same (x := x) (by omega) (by rw [← HFF.out]; exact hf0))
              clear g1 g2 HL HIF
              generalize rlE l h x = E at *
              go_wp2
              go_meet
              exact ⟨E, rfl, .inr ⟨e0, _, HYY, SO⟩⟩
          · obtain ⟨t0, t1, tf0, tf1, tl⟩ := K8.out.rt
            have HG := Lib.hid (lextend_any A l.length c l A2 h.length c2 h x (1 + y) w8 K8.out.now.el K8.out.now.dl)
            have HYL := Lib.hid RY8.out.lt
            go_wp2_with fail
            refine HG.out.mono ?_
            rintro e w11 ⟨A5, c5, A6, c6, rfl, n5, n6, h5, h6, hb⟩
            have K11 := Lib.hid (K8.out.below hb)
            have RY11 := Lib.hid (RY8.out.below hb RY8.out.lt)
            have HL := Lib.hid (And.intro (And.intro n5 n6) (And.intro h5 h6))
            clear n5 n6 h5 h6 hb t0 t1 tf0 tf1 tl HG
            obtain ⟨y0', y1', yf0, yf1, yl⟩ := RY11.out
            have hv0 := K11.out.hv.at_ x (by omega)
            have hvf := K11.out.hv.fr x
            have hql := K11.out.hv.lt
            obtain ⟨f, hf⟩ : ∃ f, f = F x := ⟨_, rfl⟩
            rw [← hf] at hv0
            have HFF := Lib.hid hf
            have HIF := Lib.hid (show exE l h x (1 + y) = 0 ↔ 0 < f by rw [hf]; exact SS.out.ex (by omega) ⟨by omega, by omega⟩)
            clear hf
            by_cases e0 : exE l h x (1 + y) = 0
            · have SO := Lib.hid (SS.out.extend (by omega : 1 ≤ 1 + y) e0)
              have hf0 : 0 < f := HIF.out.1 e0
              have hdf : decide (0 < f) = true := decide_eq_true hf0
              rw [e0]
              clear HIF
              generalize exL l h x (1 + y) = l5 at *
              generalize exH l h x (1 + y) = h5 at *
              have HYY := Lib.hid (sc_ok K11.out RY11.out HYB.out HYL.out HL.out.1.1 HL.out.1.2 HL.out.2.1 HL.out.2.2 (j := x) (by omega) (1 + y))
              clear e0
              go_wp2
              go_meet
              exact ⟨0, rfl, .inl ⟨rfl, A5, c5, l5, A6, c6, h5, _, HYY, SO⟩⟩
            · obtain ⟨g1, g2⟩ := exE_ne e0
              have hf0 : ¬ 0 < f := fun e => e0 (HIF.out.2 e)
              have hdf : decide (0 < f) = false := decide_eq_false hf0
              rw [g1, g2]
              rw [show ([] : List Le).length = 0 from rfl, show ([] : List Du).length = 0 from rfl]
              have HYY := Lib.hid (K11.out.far HYB.out (.slice A5 0 c5) (.slice A6 0 c6))
              have SO := Lib.hid (SS.out)
              clear g1 g2 HL HIF
              generalize exE l h x (1 + y) = E at *
              go_wp2
              go_meet
              exact ⟨E, rfl, .inr ⟨e0, _, HYY, SO⟩⟩
        case rest =>
          obtain ⟨E, rfl, hE⟩ := hcut
          clear SS K8 RY8
          rcases hE with ⟨rfl, A5, c5, l5, A6, c6, h5, F', KY, SS⟩ | ⟨hE, F', KK, SS⟩
          · have K9 := Lib.hid KY.out.take
            obtain ⟨y0', y1', yf0, yf1, yl⟩ := KY.out.ry
            obtain ⟨t0, t1, tf0, tf1, tl⟩ := KY.out.sc.rt
            have hbr : ¬ b = r := by have := HORD.out; have := KY.out.ne; omega
            have hrb : ¬ r = b := fun e => hbr e.symm
            go_upto_region 30 with (fail)
            clear y0' y1' yf0 yf1 yl t0 t1 tf0 tf1 tl
            have KK : Hid (ScAt w g r q wc.heap.size A5 c5 l5 A6 c6 h5 F' (set2 wc r (.slice A5 l5.length c5) (.slice A6 h5.length c6))) := K9
            clear K9 KY
            show Code.wp _ _ _ _ (set2 wc r (.slice A5 l5.length c5) (.slice A6 h5.length c6))
            generalize set2 wc r (.slice A5 l5.length c5) (.slice A6 h5.length c6) = wd at *
            have HV := Lib.hid (lvalid_any A5 l5.length c5 l5 A6 h5.length c6 h5 wd KK.out.now.el KK.out.now.dl)
            rw [(tbV_iff l5 h5).2 SS.out.ok] at HV
            obtain ⟨t0, t1, tf0, tf1, tl⟩ := KK.out.rt
            go_wp2_with fail
            refine HV.out.mono ?_
            rintro e w12 ⟨rfl, hb⟩
            have K12 := Lib.hid (KK.out.below hb)
            clear HV hb t0 t1 tf0 tf1 tl
            have HD := Lib.hid (dvalid_any A6 h5.length c6 h5 w12 K12.out.now.dl)
            rw [SS.out.ok.va] at HD
            obtain ⟨t0, t1, tf0, tf1, tl⟩ := K12.out.rt
            go_wp2_with fail
            refine HD.out.mono ?_
            rintro e w13 ⟨rfl, hb⟩
            have K13 := Lib.hid (K12.out.below hb)
            clear HD hb t0 t1 tf0 tf1 tl
            go_wp2
            go_loopw [12] (fun kv wr => ∃ k : Nat, kv = .int .i64 k ∧ 1 ≤ k ∧ k ≤ 21 ∧ Hid (ScAt w g r q wc.heap.size A5 c5 l5 A6 c6 h5 F' wr)) (fun kv _ => 21 - (intOf kv).toNat)
            case atStart => exact ⟨1, rfl, by omega, by omega, K13⟩
            case round =>
              clear K12 K13
              obtain ⟨k, rfl, k1, k21, K⟩ := hrel
              have hk1 : (1 : Int) ≤ (k : Int) := by omega
              have hk21 : (k : Int) ≤ 21 := by omega
              obtain ⟨t0, t1, tf0, tf1, tl⟩ := K.out.rt
              by_cases hk : k ≤ 20
              · have hk' : (k : Int) ≤ 20 := by omega
                have HF := Lib.hid (lfind_any A5 l5.length c5 l5 A6 h5.length c6 h5 k _ K.out.now.el K.out.now.dl)
                have HFI := Lib.hid (SS.out.find (x := k) (by omega))
                go_wp2_with fail
                refine HF.out.mono ?_
                rintro e w14 ⟨rfl, hb⟩
                have K14 := Lib.hid (K.out.below (hb.trans (((Below.refl w14.heap.size w14).alloc (Nat.le_refl _) (.cells #[.int .i64 (fnX l5 h5 k).m.id, .int .i64 (fnX l5 h5 k).m.rt, .int .i64 (fnX l5 h5 k).m.ep, .int .i64 (fnX l5 h5 k).m.ct, .int .i64 (fnX l5 h5 k).m.gn, .int .i64 (fnX l5 h5 k).m.st, .string (fnX l5 h5 k).m.bd, .int .i64 (fnX l5 h5 k).dl] 45)).mono hb.size)))
                have RX := Lib.hid (RL.start w14 (fnX l5 h5 k) 45)
                clear t0 t1 tf0 tf1 tl hb HF
                generalize fnX l5 h5 k = X at *
                generalize fnO l5 h5 k = O at *
                go_upto_region 36 with (fail)
                obtain ⟨z, hz⟩ : ∃ z, z = w14.heap.size := ⟨_, rfl⟩
                rw [← hz] at RX ⊢
                clear hz
                generalize w14.alloc (.cells #[.int .i64 X.m.id, .int .i64 X.m.rt, .int .i64 X.m.ep, .int .i64 X.m.ct, .int .i64 X.m.gn, .int .i64 X.m.st, .string X.m.bd, .int .i64 X.dl] 45) = w15 at *
                have hv0 := K14.out.hv.at_ k (by omega)
                have hql := K14.out.hv.lt
                obtain ⟨f, hf⟩ : ∃ f, f = F' k := ⟨_, rfl⟩
                rw [← hf] at hv0 HFI
                have HFF := Lib.hid hf
                clear hf
                rcases HFI.out with ⟨rfl, f0, f1, f2⟩ | ⟨rfl, f0⟩
                · obtain ⟨x0, _, _, _, _, _, _, x7, _, _, _, _, _, _, _, _, xl⟩ := RX.out
                  rw [f2] at x0
                  rw [f1] at x7
                  clear f1 f2 HFI
                  have hdf : decide (0 < f) = true := decide_eq_true f0
                  go_quiet (fail)
                  go_wp2
                  go_roundw
                  case rel => exact ⟨k + 1, by go_num, by omega, by omega, Lib.hid (K14.out.drewN _)⟩
                  case measure => simp [intOf]; omega
                · have hdf : decide (0 < f) = false := decide_eq_false (by omega)
                  clear HFI
                  go_quiet (fail)
                  go_wp2
                  go_roundw
                  case rel => exact ⟨k + 1, by go_num, by omega, by omega, Lib.hid (K14.out.drewN _)⟩
                  case measure => simp [intOf]; omega
              · obtain rfl : k = 21 := by omega
                clear t0 t1 tf0 tf1 tl
                have h40 := H40.out
                go_wp2
                go_roundw
                case rel => exact ⟨i + 1, _, A5, c5, l5, A6, c6, h5, F', by go_num, by omega, K, SS⟩
                case measure => simp [intOf]; omega
          · have HV := Lib.hid (lvalid_any A l.length c l A2 h.length c2 h wc KK.out.now.el KK.out.now.dl)
            rw [(tbV_iff l h).2 SS.out.ok] at HV
            obtain ⟨t0, t1, tf0, tf1, tl⟩ := KK.out.rt
            go_wp2_with fail
            refine HV.out.mono ?_
            rintro e w12 ⟨rfl, hb⟩
            have K12 := Lib.hid (KK.out.below hb)
            clear HV hb t0 t1 tf0 tf1 tl
            have HD := Lib.hid (dvalid_any A2 h.length c2 h w12 K12.out.now.dl)
            rw [SS.out.ok.va] at HD
            obtain ⟨t0, t1, tf0, tf1, tl⟩ := K12.out.rt
            go_wp2_with fail
            refine HD.out.mono ?_
            rintro e w13 ⟨rfl, hb⟩
            have K13 := Lib.hid (K12.out.below hb)
            clear HD hb t0 t1 tf0 tf1 tl
            go_wp2
            go_loopw [12] (fun kv wr => ∃ k : Nat, kv = .int .i64 k ∧ 1 ≤ k ∧ k ≤ 21 ∧ Hid (ScAt w g r q b A c l A2 c2 h F' wr)) (fun kv _ => 21 - (intOf kv).toNat)
            case atStart => exact ⟨1, rfl, by omega, by omega, K13⟩
            case round =>
              clear K12 K13
              obtain ⟨k, rfl, k1, k21, K⟩ := hrel
              have hk1 : (1 : Int) ≤ (k : Int) := by omega
              have hk21 : (k : Int) ≤ 21 := by omega
              obtain ⟨t0, t1, tf0, tf1, tl⟩ := K.out.rt
              by_cases hk : k ≤ 20
              · have hk' : (k : Int) ≤ 20 := by omega
                have HF := Lib.hid (lfind_any A l.length c l A2 h.length c2 h k _ K.out.now.el K.out.now.dl)
                have HFI := Lib.hid (SS.out.find (x := k) (by omega))
                go_wp2_with fail
                refine HF.out.mono ?_
                rintro e w14 ⟨rfl, hb⟩
                have K14 := Lib.hid (K.out.below (hb.trans (((Below.refl w14.heap.size w14).alloc (Nat.le_refl _) (.cells #[.int .i64 (fnX l h k).m.id, .int .i64 (fnX l h k).m.rt, .int .i64 (fnX l h k).m.ep, .int .i64 (fnX l h k).m.ct, .int .i64 (fnX l h k).m.gn, .int .i64 (fnX l h k).m.st, .string (fnX l h k).m.bd, .int .i64 (fnX l h k).dl] 45)).mono hb.size)))
                have RX := Lib.hid (RL.start w14 (fnX l h k) 45)
                clear t0 t1 tf0 tf1 tl hb HF
                generalize fnX l h k = X at *
                generalize fnO l h k = O at *
                go_upto_region 36 with (fail)
                obtain ⟨z, hz⟩ : ∃ z, z = w14.heap.size := ⟨_, rfl⟩
                rw [← hz] at RX ⊢
                clear hz
                generalize w14.alloc (.cells #[.int .i64 X.m.id, .int .i64 X.m.rt, .int .i64 X.m.ep, .int .i64 X.m.ct, .int .i64 X.m.gn, .int .i64 X.m.st, .string X.m.bd, .int .i64 X.dl] 45) = w15 at *
                have hv0 := K14.out.hv.at_ k (by omega)
                have hql := K14.out.hv.lt
                obtain ⟨f, hf⟩ : ∃ f, f = F' k := ⟨_, rfl⟩
                rw [← hf] at hv0 HFI
                have HFF := Lib.hid hf
                clear hf
                rcases HFI.out with ⟨rfl, f0, f1, f2⟩ | ⟨rfl, f0⟩
                · obtain ⟨x0, _, _, _, _, _, _, x7, _, _, _, _, _, _, _, _, xl⟩ := RX.out
                  rw [f2] at x0
                  rw [f1] at x7
                  clear f1 f2 HFI
                  have hdf : decide (0 < f) = true := decide_eq_true f0
                  go_quiet (fail)
                  go_wp2
                  go_roundw
                  case rel => exact ⟨k + 1, by go_num, by omega, by omega, Lib.hid (K14.out.drewN _)⟩
                  case measure => simp [intOf]; omega
                · have hdf : decide (0 < f) = false := decide_eq_false (by omega)
                  clear HFI
                  go_quiet (fail)
                  go_wp2
                  go_roundw
                  case rel => exact ⟨k + 1, by go_num, by omega, by omega, Lib.hid (K14.out.drewN _)⟩
                  case measure => simp [intOf]; omega
              · obtain rfl : k = 21 := by omega
                clear t0 t1 tf0 tf1 tl
                have h40 := H40.out
                go_wp2
                go_roundw
                case rel => exact ⟨i + 1, b, A, c, l, A2, c2, h, F', by go_num, by omega, K, SS⟩
                case measure => simp [intOf]; omega
/-! The row's step, as the guide's shell has it. -/
namespace leaseScript
open Go.ChangeShapes Go.WideShapes Go.ChangeAt
open Go.ChangeMaps (open_string shut_string)
theorem own : ownKnob Try.prog.godebug = none := by kernel_rfl
theorem laidOut : laidOutB Try.prog = true := by kernel_rfl

set_option maxRecDepth 100000 in
theorem lifted (os : Os) (started : os.Started) (H : Type) (enc : TypeId × Value → H) :
    ReturnsInHanded {} Try.checked os 3 .any (Rows.leaseScriptSpec.pre6 enc Try.prog Try.f3 Rows.leaseScriptRow.domain false) (Rows.leaseScriptSpec.post enc Try.prog Try.f3 false true false false) := by
  refine returnsInHanded_of_change (C := Try.checked) own started (by kernel_rfl) Try.func3
    (ChangeSpec.witness6 (enc := enc) (C := Try.checked) false ⟨#[], #[.slice none 0 0], []⟩ 8 (by kernel_rfl) (by kernel_rfl) (by kernel_rfl) (by kernel_rfl)) ?_
  intro W base args ds gs before hval0 hW hcnd _
  have hval : ∀ (j : Nat) t v, Try.f3.params[j]? = some t → args[j]? = some v → Value.okWide Try.prog W .any base t v := hval0
  have hW' := hW
  obtain ⟨p, q, hA0, hV, rfl, hfz, hnd⟩ := hW
  have hA : DataW.TrodAll enc Try.prog W 0 (fun _ => true) true Try.f3.params.toList args.toList ds p := hA0
  rw [Try.params3] at hA hval
  obtain ⟨v0, vs0, d0, ds0, p0, q0, hargs, rfl, rfl, h0, r0⟩ := trodAll_cons hA
  obtain ⟨rfl, rfl, rfl⟩ := trodAll_nil r0
  obtain rfl : args = #[v0] := by cases args; simp_all
  obtain ⟨rfl, rfl⟩ := trodVars_none hV
  obtain ⟨a0, len0, cap0, rfl⟩ := okWide_slice Try.underlying22 (hval 0 22 v0 rfl rfl)
  have k0 := h0
  have lt0 : ∀ x ∈ p0, x.block < W.heap.size := by obtain ⟨m, hm⟩ := k0; exact DataW.trod_lt m _ _ _ hm
  obtain ⟨z0, w0⟩ : ∃ zs, Ns W W.heap.size (.slice a0 len0 cap0) zs := by
    obtain ⟨fuel, hf⟩ := h0
    rcases open_ints Try.underlying22 Try.underlying3 (by kernel_rfl) hf with ⟨hcs, _⟩ | ⟨x, l, c, zs, hcs, _, hl, hm, hz, _, hcell, hwz⟩
    · simp [Value.cells] at hcs
      obtain ⟨rfl, rfl, rfl⟩ := hcs
      exact ⟨[], Ns.nil⟩
    · simp [Value.cells] at hcs
      obtain ⟨rfl, rfl, rfl⟩ := hcs
      exact Ns.of_cells hl hm (by simpa using hz) hcell hwz
  clear hA0 hval0
  refine (LeaseScript_walk W a0 len0 cap0 z0 w0).mono fun e W' ⟨he, bel⟩ => ?_
  subst he
  exact ⟨_, rfl, _, _, _, [], _, [], hW', trodAll_mk1 (shut_bool Try.underlying4 _), (trodAll_cons_mk (Below.trod laidOut (by kernel_rfl) (of_decide_eq_true (by kernel_rfl)) k0 bel lt0) trodAll_mk0), rfl, bel.frame _, fun h => by cases h⟩

theorem over : Rows.leaseScriptRow.holds Try.pinned (OpenSpec.ofChange Rows.leaseScriptSpec) :=
  OpenClaim.holds_of_wide 3 Try.f3 rfl rfl rfl rfl rfl rfl rfl ⟨rfl, rfl, rfl, rfl, rfl⟩ rfl rfl rfl rfl rfl (by kernel_rfl) Try.func3 (by kernel_rfl)
    (of_decide_eq_true (by kernel_rfl)) (by unfold Func.isWrapper; first | (rw [if_pos (by decide +kernel)]; kernel_rfl) | (rw [if_neg (by decide +kernel)]; exact ⟨rfl, rfl⟩))
    (fun os started H enc _ => lifted os started H enc)

/-- The statement. -/
theorem proved : Rows.LeaseScriptSaid := over
#print axioms proved
end leaseScript
end Go.Proofs.Ytjclhlejbidpgaa
