/- What is proved here: shardqueuelaw04.RingRemoves returns true for every input and leaves its arguments as they were. No condition. -/
import Derived.Test.YtiklkagkmcapnaaJ14
import Derived.Test.YtiklkagkmcapnaaJ15
import Derived.Test.YtiklkagkmcapnaaJ21
import Derived.Test.YtiklkagkmcapnaaJ08
import Derived.Test.YtiklkagkmcapnaaJ12
import Derived.Test.YtiklkagkmcapnaaJ20
import Derived.Test.YtiklkagkmcapnaaJ22
import Derived.ProofKit
import Derived.OpenShut
import Derived.ShutString
import Derived.ChangeOld
namespace Go.Proofs.Ytiklkagkmcapnaa
open Go.RowKit
set_option linter.unusedVariables false

attribute [local go_sem ↓] Go.wp_at_zero Go.wp_at_succ
set_option maxHeartbeats 16000000 in
set_option maxRecDepth 20000 in
theorem RingRemoves_walk (w : World) (a0 : Option Addr) (l0 c0 : Nat) (zs : List Int) (hz : Ns w w.heap.size (.slice a0 l0 c0) zs) :
    Calls Try.prog 7 #[.slice a0 l0 c0] w fun e w' => e = .returned (.bool true) ∧ Below w.heap.size w w' := by
  have HN := Lib.hid (new_src a0 l0 c0 zs w hz)
  obtain ⟨B, hB⟩ : ∃ B, B = w.heap.size := ⟨_, rfl⟩
  have HB := Lib.hid hB
  clear hz hB
  go_enter Try.func7, Try.ntmps7
  go_wp2_with fail
  refine HN.out.mono ?_
  rintro e w1 ⟨g, rfl, hs, hb⟩
  have HW1 := Lib.hid hb
  have HS1 := Lib.hid hs
  clear hb hs
  go_wp2_with fail
  refine (ring_any w.heap.size g _ HS1.out 8 1 0 65535 (by omega) (by omega) (by omega) (by omega) (by omega) (by omega) (by omega)).mono ?_
  rintro e w2 ⟨A, c, k, hd, L, rfl, hnw, hl, k1, k2, hh, hL, hL8, hgd, hids, hs, hg⟩
  have HGD := Lib.hid hgd
  have HID := Lib.hid hids
  have HL2 := Lib.hid hl
  have HW2 := Lib.hid (below_only HW1.out hg HS1.out.1 (Nat.le_refl _))
  have HR2 := Lib.hid (RB.fresh w2 A k c hd L.length 24)
  have hL12 : (L.length : Int) ≤ 8 := hL8
  have HLI := Lib.hid (fun w1 (h : Ls w1 w1.heap.size (.slice A k c) (fil k hd L)) => (show Calls Try.prog 25 #[.agg #[.slice A k c, .int .i64 hd, .int .i64 L.length]] w1 (LsP L w1) by
    have := glist_any A k c (fil k hd L) hd L.length w1 h
    rw [lsF_fil k1 k2 hh hL hgd] at this
    exact this))
  clear hnw hl hgd hids hs hg
  go_wp2_with fail
  refine (HLI.out _ ((HL2.out.alloc (Nat.le_refl _) _).more (by simp))).mono ?_
  rintro e w3 ⟨v, rfl, _, hl, hb⟩
  obtain ⟨p, hp⟩ : ∃ p, p = w2.heap.size := ⟨_, rfl⟩
  obtain ⟨AL, cL, rfl, _, _⟩ := hl.form
  have HP := Lib.hid hp
  have HRV := Lib.hid (RvAt.mk (w := w) (p := p) (hp ▸ HR2.out.below hb (by simp <;> omega)) ((HL2.out.alloc (Nat.le_refl _) _).more (by simp) |>.up hb) hl (btr (bal HW2.out (.cells #[.slice A k c, .int .i64 hd, .int .i64 L.length] 24)) hb) (hp ▸ HW2.out.size))
  rw [← hp]
  clear hl hb hp HR2
  go_wp2
  go_loopw [6] (fun i wr => ∃ j : Nat, j ≤ L.length ∧ i = .int .i64 j ∧ RvAt w p A k c hd L AL cL wr) (fun i _ => L.length - (intOf i).toNat)
  case atStart => exact ⟨0, Nat.zero_le _, rfl, HRV.out⟩
  case round =>
    obtain ⟨j, hj, rfl, hrv⟩ := hrel
    have HR := Lib.hid hrv
    clear hrv
    by_cases hlt : j < L.length
    · obtain ⟨hE, hC, hM⟩ := rm_fil k1 k2 hh hL HGD.out hlt
      have hLE : (L.eraseIdx j).length = L.length - 1 := by rw [List.length_eraseIdx, if_pos hlt]
      have HREM := Lib.hid (fun W (h : Below wr.heap.size wr W) => (show Calls Try.prog 28 #[.agg #[.slice A k c, .int .i64 hd, .int .i64 L.length], .int .i64 L[j].id] W (RMQ wr W (fil k hd (L.eraseIdx j)) hd ((L.length : Int) - 1) L[j] 0) by
        have := remove_any A k c (fil k hd L) hd L.length L[j].id W (HR.out.ls.up h)
        rw [hE, hC, hM, show ifE 0 (hd : Int) = hd from rfl, show ifE 0 ((L.length : Int) - 1) = (L.length : Int) - 1 from rfl] at this
        exact this.mono fun e w' g => RMQ.of h g))
      obtain ⟨b, o, rfl, hbb, hc7⟩ := HR.out.la.at_ hlt
      have HC7 := Lib.hid hc7
      have HBB := Lib.hid hbb
      have HFL := Lib.hid (fil_len k hd (L.eraseIdx j))
      generalize L[j] = X at *
      have HSK := Lib.hid (show ∀ W, Below wr.heap.size wr W → W.cell? ⟨p, 0, none⟩ = some (.slice A k c) ∧ W.cell? ⟨p, 1, none⟩ = some (.int .i64 hd) ∧ W.cell? ⟨p, 2, none⟩ = some (.int .i64 L.length) ∧ W.cell? ⟨b, o + j * 7, none⟩ = some (.int .i64 X.id) from fun W h => by
        have hr := HR.out.rb.below h HR.out.rb.lt
        exact ⟨hr.c0, hr.c1, hr.c2, (C7.below HC7.out h HBB.out).1⟩)
      have HB0 := Lib.hid (Below.refl wr.heap.size wr)
      have hj0 : (0 : Int) ≤ (j : Int) := by omega
      have hjl : (j : Int) < (L.length : Int) := by omega
      clear hc7 hbb hE hC hM
      go_wp2
      go_cut [7, 8, 9] (fun s7 s8 s9 wx => ∃ x m A4 c4, s7 = .pointer (some ⟨x, 0, none⟩) ∧ s8 = .pointer (some ⟨m, 0, none⟩) ∧ s9 = .int .i64 0 ∧ ReN wr A4 k c4 hd ((L.length : Int) - 1) X (fil k hd (L.eraseIdx j)) wx x m)
      case first =>
        go_region_held3 (fun W => W.cell? ⟨p, 0, none⟩ = some (.slice A k c) ∧ W.cell? ⟨p, 1, none⟩ = some (.int .i64 hd) ∧ W.cell? ⟨p, 2, none⟩ = some (.int .i64 L.length) ∧ W.cell? ⟨b, o + j * 7, none⟩ = some (.int .i64 X.id))
          ((refine HSK.out _ ?_; repeat' (first | with_reducible exact HB0.out | with_reducible exact HB4.out | with_reducible refine bal ?_ _ | with_reducible refine bdr ?_ | with_reducible refine bst ?_ ?_ _ | exact Nat.le_refl _ | (simp; done) | (simp; omega))))
          (first
          | (go_at_call 28; (with_reducible refine (HREM.out _ ?hbel).mono ?_); (case hbel => (repeat' (first | with_reducible exact HB0.out | with_reducible refine bal ?_ _ | with_reducible refine bdr ?_))); rintro e w4 ⟨A4, c4, rfl, hnw, hl, hb, hb0⟩; rw [HFL.out] at hl ⊢; have HB4 := Lib.hid hb0; have HNW := Lib.hid hnw; have HL4 := Lib.hid hl; have hq4 := hb0.size; have HX7 := Lib.hid (((RB.zero1 wr 24).alloc (.cells #[.int .i64 0, .int .i64 0, .int .i64 0, .int .i64 0, .int .i64 0, .int .i64 0, .string ⟨#[]⟩] 26)).below hb (by simp <;> omega)); have HX8 := Lib.hid ((MAt.zero2 wr (.cells #[.slice none 0 0, .int .i64 0, .int .i64 0] 24) 26).below hb (by simp <;> omega)); obtain ⟨t0, t1, t2, t3, t4, t5, hrl⟩ := HX7.out.facts; obtain ⟨v0, v1, v2, v3, v4, v5, v6⟩ := HX8.out.facts.1; have hsl := HX8.out.1; obtain ⟨f0, f1, f2, f3, f4, f5, f6⟩ := HX8.out.fr; clear hnw hl hb hb0)
          | (go_at_call 28; (with_reducible refine (HREM.out _ ?hbel).mono ?_); (case hbel => (repeat' (first | with_reducible exact HB0.out | with_reducible refine bal ?_ _ | with_reducible refine bdr ?_))); rintro e w4 ⟨A4, c4, rfl, hnw, hl, hb, hb0⟩; rw [HFL.out] at hl ⊢; have HB4 := Lib.hid hb0; have HNW := Lib.hid hnw; have HL4 := Lib.hid hl; have hq4 := hb0.size; have HX8 := Lib.hid (((MAt.zero1 wr 26).alloc (.cells #[.slice none 0 0, .int .i64 0, .int .i64 0] 24)).below hb (by simp <;> omega)); have HX7 := Lib.hid ((RB.zero2 wr (.cells #[.int .i64 0, .int .i64 0, .int .i64 0, .int .i64 0, .int .i64 0, .int .i64 0, .string ⟨#[]⟩] 26) 24).below hb (by simp <;> omega)); obtain ⟨t0, t1, t2, t3, t4, t5, hrl⟩ := HX7.out.facts; obtain ⟨v0, v1, v2, v3, v4, v5, v6⟩ := HX8.out.facts.1; have hsl := HX8.out.1; obtain ⟨f0, f1, f2, f3, f4, f5, f6⟩ := HX8.out.fr; clear hnw hl hb hb0)
          | (go_at_call 28; (with_reducible refine (HREM.out _ ?hbel).mono ?_); (case hbel => (repeat' (first | with_reducible exact HB0.out | with_reducible refine bal ?_ _ | with_reducible refine bdr ?_))); rintro e w4 ⟨A4, c4, rfl, hnw, hl, hb, hb0⟩; rw [HFL.out] at hl ⊢; have HB4 := Lib.hid hb0; have HNW := Lib.hid hnw; have HL4 := Lib.hid hl; have hq4 := hb0.size; have HX7 := Lib.hid ((RB.zero1 wr 24).below hb (by simp <;> omega)); obtain ⟨t0, t1, t2, t3, t4, t5, hrl⟩ := HX7.out.facts; clear hnw hl hb hb0)
          | (go_at_call 28; (with_reducible refine (HREM.out _ ?hbel).mono ?_); (case hbel => (repeat' (first | with_reducible exact HB0.out | with_reducible refine bal ?_ _ | with_reducible refine bdr ?_))); rintro e w4 ⟨A4, c4, rfl, hnw, hl, hb, hb0⟩; rw [HFL.out] at hl ⊢; have HB4 := Lib.hid hb0; have HNW := Lib.hid hnw; have HL4 := Lib.hid hl; have hq4 := hb0.size; have HX8 := Lib.hid ((MAt.zero1 wr 26).below hb (by simp <;> omega)); obtain ⟨v0, v1, v2, v3, v4, v5, v6⟩ := HX8.out.facts.1; have hsl := HX8.out.1; obtain ⟨f0, f1, f2, f3, f4, f5, f6⟩ := HX8.out.fr; clear hnw hl hb hb0)
          | (go_at_call 28; (with_reducible refine (HREM.out _ ?hbel).mono ?_); (case hbel => (repeat' (first | with_reducible exact HB0.out | with_reducible refine bal ?_ _ | with_reducible refine bdr ?_))); rintro e w4 ⟨A4, c4, rfl, hnw, hl, hb, hb0⟩; rw [HFL.out] at hl ⊢; have HB4 := Lib.hid hb0; have HNW := Lib.hid hnw; have HL4 := Lib.hid hl; have hq4 := hb0.size; have HX0 := Lib.hid (show Below wr.drew.heap.size wr.drew w4 from hb); clear hnw hl hb hb0))
        all_goals
          go_wp2_with fail
          go_meet
          refine ⟨_, _, A4, c4, rfl, rfl, rfl, ?_⟩
          first
          | with_reducible exact re1 HB4.out HL4.out _ _
          | with_reducible exact re2 HB4.out HL4.out _ _
          | with_reducible exact re3 HB4.out HL4.out HNW.out (by simp) (Nat.le_refl _) HX7.out _
          | with_reducible exact re5 HB4.out HL4.out HNW.out (by simp) (Nat.le_refl _) HX8.out _
          | with_reducible exact re4 HB4.out HL4.out HNW.out (by simp <;> omega) (Nat.le_refl _) HX7.out (by simp) (by omega) HX8.out (by omega)
          | with_reducible exact re4 HB4.out HL4.out HNW.out (by simp) (by omega) HX7.out (by simp <;> omega) (Nat.le_refl _) HX8.out (by omega)
      case rest =>
        obtain ⟨x, m, A4, c4, rfl, rfl, rfl, hbel, hrb, hma, hls⟩ := hcut
        have HBX := Lib.hid hbel
        have HXB := Lib.hid hrb
        have HMA := Lib.hid hma
        have HLX := Lib.hid hls
        clear hbel hrb hma hls HB0 HSK HREM
        have HB0 := Lib.hid (Below.refl wc.heap.size wc)
        have HBW0 := Lib.hid (show b < wc.heap.size from Nat.lt_of_lt_of_le HBB.out HBX.out.size)
        have HC8 := Lib.hid (C7.below HC7.out HBX.out HBB.out)
        have HSK := Lib.hid (show ∀ W, Below wc.heap.size wc W → W.cell? ⟨x, 0, none⟩ = some (.slice A4 k c4) ∧ W.cell? ⟨x, 1, none⟩ = some (.int .i64 hd) ∧ W.cell? ⟨x, 2, none⟩ = some (.int .i64 ((L.length : Int) - 1)) ∧ W.cell? ⟨m, 0, none⟩ = some (.int .i64 X.id) ∧ W.cell? ⟨m, 1, none⟩ = some (.int .i64 X.rt) ∧ W.cell? ⟨m, 2, none⟩ = some (.int .i64 X.ep) ∧ W.cell? ⟨m, 3, none⟩ = some (.int .i64 X.ct) ∧ W.cell? ⟨m, 4, none⟩ = some (.int .i64 X.gn) ∧ W.cell? ⟨m, 5, none⟩ = some (.int .i64 X.st) ∧ W.cell? ⟨m, 6, none⟩ = some (.string X.bd) ∧ W.cell? ⟨b, o + j * 7, none⟩ = some (.int .i64 X.id) ∧ W.cell? ⟨b, o + j * 7 + 1, none⟩ = some (.int .i64 X.rt) ∧ W.cell? ⟨b, o + j * 7 + 2, none⟩ = some (.int .i64 X.ep) ∧ W.cell? ⟨b, o + j * 7 + 3, none⟩ = some (.int .i64 X.ct) ∧ W.cell? ⟨b, o + j * 7 + 4, none⟩ = some (.int .i64 X.gn) ∧ W.cell? ⟨b, o + j * 7 + 5, none⟩ = some (.int .i64 X.st) ∧ W.cell? ⟨b, o + j * 7 + 6, none⟩ = some (.string X.bd) from fun W h => by
          have hr := HXB.out.below h HXB.out.lt
          have hm := (HMA.out.below h HMA.out.1).facts.1
          have hc := C7.below HC8.out h HBW0.out
          exact ⟨hr.c0, hr.c1, hr.c2, hm.1, hm.2.1, hm.2.2.1, hm.2.2.2.1, hm.2.2.2.2.1, hm.2.2.2.2.2.1, hm.2.2.2.2.2.2, hc⟩)
        have HLE := Lib.hid hLE
        have HLQ := Lib.hid (fun W (h : Below wc.heap.size wc W) => (show Calls Try.prog 25 #[.agg #[.slice A4 k c4, .int .i64 hd, .int .i64 ((L.length : Int) - 1)]] W (LsQ wc (L.eraseIdx j) W) by
          have := glist_any A4 k c4 (fil k hd (L.eraseIdx j)) hd ((L.length : Int) - 1) W (HLX.out.up h)
          rw [show (L.length : Int) - 1 = ((L.eraseIdx j).length : Int) by rw [hLE]; omega, lsF_fil k1 k2 hh (by omega) (gd_erase HGD.out j)] at this
          rw [show (L.length : Int) - 1 = ((L.eraseIdx j).length : Int) by rw [hLE]; omega]
          exact this.mono fun e w' g => LsQ.of h g))
        have HWQ := Lib.hid (fun W (h : Below wc.heap.size wc W) => (show Calls Try.prog 29 #[.slice (some ⟨b, o, none⟩) L.length cL, .int .i64 j] W (LsQ wc (L.eraseIdx j) W) by
          have := rwithout_any (some ⟨b, o, none⟩) L.length cL L j W ((HR.out.la.up HBX.out).up h) hlt (by omega)
          exact this.mono fun e w' g => LsQ.of h g))
        have hneq := neqm X
        clear hLE
        go_wp2
        go_region_held3 (fun W => W.cell? ⟨x, 0, none⟩ = some (.slice A4 k c4) ∧ W.cell? ⟨x, 1, none⟩ = some (.int .i64 hd) ∧ W.cell? ⟨x, 2, none⟩ = some (.int .i64 ((L.length : Int) - 1)) ∧ W.cell? ⟨m, 0, none⟩ = some (.int .i64 X.id) ∧ W.cell? ⟨m, 1, none⟩ = some (.int .i64 X.rt) ∧ W.cell? ⟨m, 2, none⟩ = some (.int .i64 X.ep) ∧ W.cell? ⟨m, 3, none⟩ = some (.int .i64 X.ct) ∧ W.cell? ⟨m, 4, none⟩ = some (.int .i64 X.gn) ∧ W.cell? ⟨m, 5, none⟩ = some (.int .i64 X.st) ∧ W.cell? ⟨m, 6, none⟩ = some (.string X.bd) ∧ W.cell? ⟨b, o + j * 7, none⟩ = some (.int .i64 X.id) ∧ W.cell? ⟨b, o + j * 7 + 1, none⟩ = some (.int .i64 X.rt) ∧ W.cell? ⟨b, o + j * 7 + 2, none⟩ = some (.int .i64 X.ep) ∧ W.cell? ⟨b, o + j * 7 + 3, none⟩ = some (.int .i64 X.ct) ∧ W.cell? ⟨b, o + j * 7 + 4, none⟩ = some (.int .i64 X.gn) ∧ W.cell? ⟨b, o + j * 7 + 5, none⟩ = some (.int .i64 X.st) ∧ W.cell? ⟨b, o + j * 7 + 6, none⟩ = some (.string X.bd))
          ((refine HSK.out _ ?_; (repeat' (first | with_reducible exact HB0.out | with_reducible exact HBS.out | with_reducible exact HBL.out | with_reducible exact HBW.out | with_reducible refine bdr ?_))))
          (first
          | (go_at_call 25; (with_reducible refine (HLQ.out _ ?hbel).mono ?_); (case hbel => (repeat' (first | with_reducible exact HB0.out | with_reducible exact HBS.out | with_reducible exact HBL.out | with_reducible exact HBW.out | with_reducible refine bdr ?_))); rintro e wl ⟨Al, cl, rfl, hnw, hl, hb, hb0⟩; have HBL := Lib.hid hb0; have HLA := Lib.hid hl; (try have HWA2 := Lib.hid (HWA.out.up hb)); clear hnw hl hb hb0)
          | (go_at_call 29; (with_reducible refine (HWQ.out _ ?hbel).mono ?_); (case hbel => (repeat' (first | with_reducible exact HB0.out | with_reducible exact HBS.out | with_reducible exact HBL.out | with_reducible exact HBW.out | with_reducible refine bdr ?_))); rintro e ww ⟨Aw, cw, rfl, hnw, hl, hb, hb0⟩; have HBW := Lib.hid hb0; have HWA := Lib.hid hl; (try have HLA2 := Lib.hid (HLA.out.up hb)); clear hnw hl hb hb0)
          | (go_at_call 24; (first | (with_reducible refine (rsame_yes _ _ _ _ _ _ _ _ _ _ HLA2.out HWA.out).mono ?_) | (with_reducible refine (rsame_yes _ _ _ _ _ _ _ _ _ _ HLA.out HWA2.out).mono ?_)); rintro e ws ⟨rfl, hb⟩; (first | (have HBS := Lib.hid (btr HBW.out hb)) | (have HBS := Lib.hid (btr HBL.out hb))); clear hb))
        all_goals
          have HRF := Lib.hid (HR.out.below (btr HBX.out HBS.out))
          go_wp2
          go_roundw
          case rel => exact ⟨j + 1, by omega, by go_num, HRF.out⟩
          case measure => simp [intOf]; omega
    · obtain rfl : j = L.length := by omega
      have HREM := Lib.hid (fun W (h : Ls W W.heap.size (.slice A k c) (fil k hd L)) => (show Calls Try.prog 28 #[.agg #[.slice A k c, .int .i64 hd, .int .i64 L.length], .int .i64 999] W (RMP W (rmC (fil k hd L) hd L.length 999) 0 0 (rmM (fil k hd L) hd L.length 999) 4) by
        have := remove_any A k c (fil k hd L) hd L.length 999 W h
        rw [rm_none k1 k2 hh hL HGD.out (fun M hM => by have := HID.out M hM; omega), show ifE 4 (hd : Int) = 0 from rfl, show ifE 4 ((L.length : Int) - 1) = 0 from rfl] at this
        exact this))
      generalize rmC (fil k hd L) hd L.length 999 = ds at *
      generalize rmM (fil k hd L) hd L.length 999 = Y at *
      obtain ⟨r0, r1, r2, r3, r4, r5, hpl⟩ := HR.out.rb.facts
      go_wp2_with fail
      refine (HREM.out _ HR.out.ls).mono ?_
      rintro e w4 ⟨A4, c4, rfl, hnw, hl, hb⟩
      have HB4 := Lib.hid (HR.out.bel.trans (hb.mono HR.out.bel.size))
      have HZ4 := Lib.hid HB4.out.size
      clear hnw hl hb r0 r1 r2 r3 r4 r5 hpl
      go_wp2_with fail
      refine (awake4_any _).mono ?_
      rintro e w5 ⟨rfl, hb⟩
      have HB5 := Lib.hid (btr (bal (bal HB4.out _) _) hb)
      clear hb
      go_wp2
      go_ret
      exact ⟨rfl, HB5.out⟩
/-! The row's step, as the guide's shell has it. -/
namespace ringRemoves
open Go.ChangeShapes Go.WideShapes Go.ChangeAt
open Go.ChangeMaps (open_string shut_string)
theorem own : ownKnob Try.prog.godebug = none := by kernel_rfl
theorem laidOut : laidOutB Try.prog = true := by kernel_rfl

set_option maxRecDepth 100000 in
theorem lifted (os : Os) (started : os.Started) (H : Type) (enc : TypeId × Value → H) :
    ReturnsInHanded {} Try.checked os 7 .any (Rows.ringRemovesSpec.pre6 enc Try.prog Try.f7 Rows.ringRemovesRow.domain false) (Rows.ringRemovesSpec.post enc Try.prog Try.f7 false true false false) := by
  refine returnsInHanded_of_change (C := Try.checked) own started (by kernel_rfl) Try.func7
    (ChangeSpec.witness6 (enc := enc) (C := Try.checked) false ⟨#[], #[.slice none 0 0], []⟩ 8 (by kernel_rfl) (by kernel_rfl) (by kernel_rfl) (by kernel_rfl)) ?_
  intro W base args ds gs before hval0 hW hcnd _
  have hval : ∀ (j : Nat) t v, Try.f7.params[j]? = some t → args[j]? = some v → Value.okWide Try.prog W .any base t v := hval0
  have hW' := hW
  obtain ⟨p, q, hA0, hV, rfl, hfz, hnd⟩ := hW
  have hA : DataW.TrodAll enc Try.prog W 0 (fun _ => true) true Try.f7.params.toList args.toList ds p := hA0
  rw [Try.params7] at hA hval
  obtain ⟨v0, vs0, d0, ds0, p0, q0, hargs, rfl, rfl, h0, r0⟩ := trodAll_cons hA
  obtain ⟨rfl, rfl, rfl⟩ := trodAll_nil r0
  obtain rfl : args = #[v0] := by cases args; simp_all
  obtain ⟨rfl, rfl⟩ := trodVars_none hV
  obtain ⟨a0, len0, cap0, rfl⟩ := okWide_slice Try.underlying34 (hval 0 34 v0 rfl rfl)
  have k0 := h0
  have lt0 : ∀ x ∈ p0, x.block < W.heap.size := by obtain ⟨m, hm⟩ := k0; exact DataW.trod_lt m _ _ _ hm
  obtain ⟨z0, w0⟩ : ∃ zs, Ns W W.heap.size (.slice a0 len0 cap0) zs := by
    obtain ⟨fuel, hf⟩ := h0
    rcases open_ints Try.underlying34 Try.underlying3 (by kernel_rfl) hf with ⟨hcs, _⟩ | ⟨x, l, c, zs, hcs, _, hl, hm, hz, _, hcell, hwz⟩
    · simp [Value.cells] at hcs
      obtain ⟨rfl, rfl, rfl⟩ := hcs
      exact ⟨[], Ns.nil⟩
    · simp [Value.cells] at hcs
      obtain ⟨rfl, rfl, rfl⟩ := hcs
      exact Ns.of_cells hl hm (by simpa using hz) hcell hwz
  clear hA0 hval0
  refine (RingRemoves_walk W a0 len0 cap0 z0 w0).mono fun e W' ⟨he, bel⟩ => ?_
  subst he
  exact ⟨_, rfl, _, _, _, [], _, [], hW', trodAll_mk1 (shut_bool Try.underlying4 _), (trodAll_cons_mk (Below.trod laidOut (by kernel_rfl) (of_decide_eq_true (by kernel_rfl)) k0 bel lt0) trodAll_mk0), rfl, bel.frame _, fun h => by cases h⟩

theorem over : Rows.ringRemovesRow.holds Try.pinned (OpenSpec.ofChange Rows.ringRemovesSpec) :=
  OpenClaim.holds_of_wide 7 Try.f7 rfl rfl rfl rfl rfl rfl rfl ⟨rfl, rfl, rfl, rfl, rfl⟩ rfl rfl rfl rfl rfl (by kernel_rfl) Try.func7 (by kernel_rfl)
    (of_decide_eq_true (by kernel_rfl)) (by unfold Func.isWrapper; first | (rw [if_pos (by decide +kernel)]; kernel_rfl) | (rw [if_neg (by decide +kernel)]; exact ⟨rfl, rfl⟩))
    (fun os started H enc _ => lifted os started H enc)

/-- The statement. -/
theorem proved : Rows.RingRemovesSaid := over
#print axioms proved
end ringRemoves
end Go.Proofs.Ytiklkagkmcapnaa
