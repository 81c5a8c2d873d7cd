/- What is proved here: shardqueueref06.Release by a contract; shardqueueref06.Extend by a contract; shardqueueref06.Find by a contract. -/
import Derived.Test.YtjclhlejbidpgaaGreatJ06
import Derived.Test.YtjclhlejbidpgaaGreatJ09
import Derived.Test.YtjclhlejbidpgaaGreatJ16
import Derived.Test.YtjclhlejbidpgaaGreatJ23
import Derived.Test.YtjclhlejbidpgaaGreatJ13
import Derived.Test.YtjclhlejbidpgaaGreatJ21
import Derived.Test.YtjclhlejbidpgaaGreatJ17
import Derived.Test.YtjclhlejbidpgaaGreatJ22
namespace Go.Proofs.YtjclhlejbidpgaaGreat
open Go.RowKit
set_option linter.unusedVariables false

theorem rlE_4 {l : List Le} {h : List Du} {id : Int} (h0 : tbV l h = 0) (hk : kFi Le.id l id < 0) : rlE l h id = 4 := by unfold rlE; rw [if_neg (by simpa using h0), if_pos hk]
theorem rlE_0 {l : List Le} {h : List Du} {id : Int} (h0 : tbV l h = 0) (hk : ¬ kFi Le.id l id < 0) : rlE l h id = 0 := by unfold rlE; rw [if_neg (by simpa using h0), if_neg hk]
theorem tme_end {w W : World} {r s d lo lo2 d2 : Nat} {D D2 : Option Addr} {l : List Le} {h : List Du} (hE : El W W.heap.size (.slice D l.length d) l) (hN : Nw lo D) (h1 : r < lo) (h2 : s < lo) (hK : Dl W W.heap.size (.slice D2 h.length d2) h) (hN2 : Nw lo2 D2) (h3 : r < lo2) (h4 : s < lo2) (M : Msg) (hb : Below w.heap.size w W) (hl : w.heap.size ≤ lo) (hl2 : w.heap.size ≤ lo2) (hr : w.heap.size ≤ r) (hs : w.heap.size ≤ s) :
    TME w l h M 0 (.returned (.tuple #[.agg #[.slice D l.length d, .slice D2 h.length d2], M.v, .int .i64 0])) (set7 (set2 W r (.slice D l.length d) (.slice D2 h.length d2)) s 0 M) :=
  ⟨D, d, D2, d2, rfl, nw_low hN hl, nw_low hN2 hl2, (El.offs hN h2 M.l 0 (hE.set2 hN h1)).more (by simp), (Dl.offs hN2 h4 M.l 0 (hK.set2 hN2 h3)).more (by simp), sets_below hs M.l 0 _ (set2_below hb hr)⟩
theorem tme_drew {w W : World} {l : List Le} {h : List Du} {M : Msg} {x : Int} {e : Ending} (k : TME w l h M x e W) : TME w l h M x e W.drew := by
  obtain ⟨A, c, A2, c2, he, h1, h2, h3, h4, h5⟩ := k
  exact ⟨A, c, A2, c2, he, h1, h2, h3, h4, h5.drew⟩
set_option maxHeartbeats 8000000 in
set_option maxRecDepth 20000 in
theorem rtrelease_any (A : Option Addr) (n c : Nat) (l : List Le) (A2 : Option Addr) (n2 c2 : Nat) (h : List Du) (id : Int) (w : World) (hv : El w w.heap.size (.slice A n c) l) (hd : Dl w w.heap.size (.slice A2 n2 c2) h) :
    Calls Tryz.prog 25 #[tv A n c A2 n2 c2, .int .i64 id] w (TME w (rlL l h id) (rlH l h id) (rlM l h id) (rlE l h id)) := by
  obtain ⟨rfl, hm1, hm2⟩ := hv.len
  obtain ⟨rfl, hm3, hm4⟩ := hd.len
  have H0 := Lib.hid (RlW.start hv hd 25 27)
  have HW := Lib.hid hv
  have HV := Lib.hid (fun p W (k : VaA w p A c l A2 c2 h W) => rtvalid_any A l.length c l A2 h.length c2 h W k.el k.dl)
  have HFI := Lib.hid (fun p W (k : VaA w p A c l A2 c2 h W) => rtfind_any A l.length c l A2 h.length c2 id W k.el)
  have HRM := Lib.hid (fun p W (k : VaA w p A c l A2 c2 h W) => rremove5_any A2 h.length c2 h id W k.dl)
  clear hv hd hm1 hm3 hm4
  by_cases h0 : tbV l h = 0
  · rw [h0] at HV
    by_cases hk0 : kFi Le.id l id < 0
    · have he : rlE l h id = 4 := rlE_4 h0 hk0
      obtain ⟨hH, hL, hM⟩ := rlE_ne (l := l) (h := h) (id := id) (by rw [he]; decide)
      rw [hH, hL, hM, he]
      generalize kFi Le.id l id = y at *
      clear he hH hL hM h0
      go_enter Tryz.func25, Tryz.ntmps25
      obtain ⟨t0, t1, tl⟩ := H0.out.va.tb
      go_wp2_with fail
      clear t0 t1 tl
      obtain ⟨p, hp⟩ : ∃ p, p = w.heap.size := ⟨_, rfl⟩
      obtain ⟨r, hr⟩ : ∃ r, r = w.heap.size + 1 := ⟨_, rfl⟩
      obtain ⟨s, hs⟩ : ∃ s, s = w.heap.size + 1 + 1 := ⟨_, rfl⟩
      rw [← hs, ← hr, ← hp] at H0 ⊢
      clear hp hr hs
      generalize (((w.alloc (.cells #[.slice A l.length c, .slice A2 h.length c2] 25)).alloc (.cells #[.slice none 0 0, .slice none 0 0] 25)).alloc (.cells #[.int .i64 0, .int .i64 0, .int .i64 0, .int .i64 0, .int .i64 0, .int .i64 0, .string ⟨#[]⟩] 27)) = w1 at *
      refine (HV.out _ _ H0.out.va).mono ?_
      rintro e w2 ⟨rfl, hb⟩
      have H1 := Lib.hid (H0.out.below hb)
      clear hb
      obtain ⟨t0, t1, tl⟩ := H1.out.va.tb
      go_wp2_with fail
      clear t0 t1 tl
      refine (HFI.out _ _ H1.out.va).mono ?_
      rintro e w3 ⟨rfl, hb⟩
      have H2 := Lib.hid (H1.out.below hb)
      clear hb
      obtain ⟨r0, r1, f0, f1, rl⟩ := H2.out.rt
      obtain ⟨s0, s1, s2, s3, s4, s5, s6, g0, g1, g2, g3, g4, g5, g6, sl⟩ := H2.out.rm
      have hrs : ¬ r = s := by have := H2.out.ne; omega
      have hsr : ¬ s = r := by have := H2.out.ne; omega
      have HB := Lib.hid (show Below w.heap.size w (set7 (set2 w3 r (.slice none 0 0) (.slice none 0 0)) s 0 zM) from sets_below (by have := H2.out.ne; omega) zM.l 0 _ (set2_below H2.out.va.bel (by have := H2.out.ne; omega)))
      go_wp2
      exact bodyPost_ret (v := .tuple #[.agg #[.slice none 0 0, .slice none 0 0], .agg #[.int .i64 0, .int .i64 0, .int .i64 0, .int .i64 0, .int .i64 0, .int .i64 0, .string ⟨#[]⟩], .int .i64 4]) (by simp only [results, Tryz.results25]; go_simp <;> rfl) rfl (tme_nil rfl rfl rfl rfl HB.out)
    · have he : rlE l h id = 0 := rlE_0 h0 hk0
      obtain ⟨t, k, hk, hka, _, hH, hL, hM⟩ := rlE_at he
      have hfi : kFi Le.id l id = (k : Int) := by have := (kAt_fi t.asc (x := id) (by omega)).1; omega
      rw [hfi] at HFI
      have hrm : hrmE h id = 0 := by rw [← rlE_tb t]; exact he
      rw [hrm] at HRM
      rw [he, hL, hM, hH]
      have hl12 : l.length ≤ 12 := t.len
      obtain ⟨X, hX⟩ : ∃ X, l[k] = X := ⟨_, rfl⟩
      rw [hX]
      have HXK := Lib.hid hX
      generalize rmR h id = K at *
      have hk' : (k : Int) < (l.length : Int) := by omega
      have hwr : IntKind.i64.wrap ((k : Int) + 1) = (k : Int) + 1 := IntWalk.i64_in _ (by omega)
      have hkc : l.length ≤ c := HW.out.len.2.1
      have hcut := run_eupto A l.length c .i64 k (by omega)
      obtain ⟨A', hA', hcut0⟩ := run_ecut A l.length c .i64 (k + 1) (by omega)
      have hcut2 : ∀ W, (Instr.slice 22 (.slice A l.length c) (some (.int .i64 ((k : Int) + 1))) none none).run Tryz.prog W = .ok (.slice A' (l.length - (k + 1)) (c - (k + 1))) W := fun W => by
        have := hcut0 W
        rwa [show ((k + 1 : Nat) : Int) = (k : Int) + 1 by omega] at this
      have h1 := HW.out.upto k (by omega)
      have h3 := HW.out.cut (k + 1) (by omega)
      rw [← hA'] at h3
      have HE1 := Lib.hid h1
      have HE3 := Lib.hid h3
      have HER := Lib.hid (eraseIdx_td l k)
      have HLN := Lib.hid (show (l.take k).length = k ∧ (l.drop (k + 1)).length = l.length - (k + 1) ∧ (l.eraseIdx k).length = k + (l.length - (k + 1)) by refine ⟨by simp; omega, by simp, by rw [← eraseIdx_td]; simp; omega⟩)
      obtain ⟨LE, hLE⟩ : ∃ LE, LE = l.eraseIdx k := ⟨_, rfl⟩
      rw [← hLE] at HER HLN ⊢
      have hkk : (k : Int) + 1 ≤ (l.length : Int) := by omega
      have hkc' : (k : Int) ≤ (c : Int) := by omega
      have hk1 : (0 : Int) ≤ (k : Int) + 1 := by omega
      have hk2 : ¬ ((k : Int) < 0) := by omega
      obtain ⟨i0, hi0, hz0⟩ := Option.map_eq_some_iff.1 info_lease
      simp only [Prod.mk.injEq] at hz0
      have HI := Lib.hid hi0
      have HZ := Lib.hid hz0
      clear he t hka hH hL hM hX hfi hrm h0 hk0 hcut0 hA' h1 h3 hLE hi0 hz0
      go_enter Tryz.func25, Tryz.ntmps25
      obtain ⟨t0, t1, tl⟩ := H0.out.va.tb
      go_wp2_with fail
      clear t0 t1 tl
      obtain ⟨p, hp⟩ : ∃ p, p = w.heap.size := ⟨_, rfl⟩
      obtain ⟨r, hr⟩ : ∃ r, r = w.heap.size + 1 := ⟨_, rfl⟩
      obtain ⟨s, hs⟩ : ∃ s, s = w.heap.size + 1 + 1 := ⟨_, rfl⟩
      rw [← hs, ← hr, ← hp] at H0 ⊢
      clear hp hr hs
      generalize (((w.alloc (.cells #[.slice A l.length c, .slice A2 h.length c2] 25)).alloc (.cells #[.slice none 0 0, .slice none 0 0] 25)).alloc (.cells #[.int .i64 0, .int .i64 0, .int .i64 0, .int .i64 0, .int .i64 0, .int .i64 0, .string ⟨#[]⟩] 27)) = w1 at *
      refine (HV.out _ _ H0.out.va).mono ?_
      rintro e w2 ⟨rfl, hb⟩
      have H1 := Lib.hid (H0.out.below hb)
      clear hb
      obtain ⟨t0, t1, tl⟩ := H1.out.va.tb
      go_wp2_with fail
      clear t0 t1 tl
      refine (HFI.out _ _ H1.out.va).mono ?_
      rintro e w3 ⟨rfl, hb⟩
      have H2 := Lib.hid (H1.out.below hb)
      clear hb

      obtain ⟨t0, t1, tl⟩ := H2.out.va.tb
      go_wp2_with fail
      clear t0 t1 tl
      refine (HRM.out _ _ H2.out.va).mono ?_
      rintro e w4 ⟨A3, c3, rfl, hnw, hl, hb⟩
      have H3 := Lib.hid (H2.out.below hb)
      have HK := Lib.hid hl
      have HNW := Lib.hid hnw
      have HB4 := Lib.hid H3.out.va.bel
      clear hb hnw hl
      have HT0 := Lib.hid (show w4.drew.cell? ⟨p, 0, none⟩ = some (.slice A l.length c) from H3.out.va.tb.1)
      have HD := Lib.hid (show Below w4.heap.size w4 w4.drew from (Below.refl _ _).drew)
      have HAF := Lib.hid (fun W (hb : Below w4.heap.size w4 W) => H3.out.below hb)
      have HP1 := Lib.hid (fun w5 v1 (ho : w5.ownsRow w4.drew.heap.size 39 8 v1 (0 + k) ([] ++ ecs (l.take k))) (hg : w4.drew.grownBy w5 (Value.slice none 0 0).ownBlock) => show w5.cell? ⟨p, 0, none⟩ = some (.slice A l.length c) ∧ Below w4.heap.size w4 w5 ∧ w5.ownsRow w4.heap.size 39 8 v1 k (ecs (l.take k)) from by
        have hb : Below w4.heap.size w4 w5 := HD.out.trans (below_nil hg rfl)
        rw [Nat.zero_add, List.nil_append] at ho
        exact ⟨(HAF.out _ hb).va.tb.1, hb, ho⟩)
      have HP2 := Lib.hid (fun w5 w6 v1 v2 (hb5 : Below w4.heap.size w4 w5) (ho1 : w5.ownsRow w4.heap.size 39 8 v1 k (ecs (l.take k))) (ho : w6.ownsRow w4.heap.size 39 8 v2 (k + (l.length - (k + 1))) (ecs (l.take k) ++ ecs (l.drop (k + 1)))) (hg : w5.grownBy w6 v1.ownBlock) => show w6.cell? ⟨p, 0, none⟩ = some (.slice A l.length c) ∧ Below w4.heap.size w4 w6 ∧ w6.ownsRow w4.heap.size 39 8 v2 LE.length (ecs LE) from by
        have hb : Below w4.heap.size w4 w6 := below_own hb5 ho1 hg
        rw [← ecs_app, HER.out, ← HLN.out.2.2] at ho
        exact ⟨(HAF.out _ hb).va.tb.1, hb, ho⟩)
      go_wp2_with fail
      go_region_held3 (fun W => W.cell? ⟨p, 0, none⟩ = some (.slice A l.length c))
        (first | with_reducible exact HT0.out | with_reducible exact HT1.out | with_reducible exact HT2.out)
        (first
        | (refine step_append_rd _ (by rfl) _ _ _ (by rfl) w4.heap.size 39 i0 _ 8 72 Tryz.underlying22 HI.out HZ.out.1 HZ.out.2.1 HZ.out.2.2 rfl (by omega) v1 k (ecs (l.take k)) (by rfl) HO1.out _ A' (l.length - (k + 1)) (c - (k + 1)) (ecs (l.drop (k + 1))) (by rfl) ((HE3.out.below (HB4.out.trans (HB5.out.mono HB4.out.size))).rd) (ecs_one _) (by unfold maxLen; omega) (by omega) HB5.out.size ?_; intro v2 w6 hown2 hg2 hat2; obtain ⟨k1, k2, k3⟩ := HP2.out _ _ _ _ HB5.out HO1.out hown2 hg2; have HT2 := Lib.hid k1; have HB6 := Lib.hid k2; have HO2 := Lib.hid k3; clear hown2 hg2 hat2 k1 k2 k3)
        | (refine step_append_rd _ (by rfl) _ _ _ (by rfl) w4.drew.heap.size 39 i0 _ 8 72 Tryz.underlying22 HI.out HZ.out.1 HZ.out.2.1 HZ.out.2.2 rfl (by omega) (.slice none 0 0) 0 [] (by rfl) (World.ownsRow_nil _ _ _ _) _ A k c (ecs (l.take k)) (by rfl) ((HE1.out.below (HB4.out.trans (HD.out.mono HB4.out.size))).rd) (ecs_one _) (by unfold maxLen; omega) (by omega) (Nat.le_refl _) ?_; intro v1 w5 hown1 hg1 hat1; obtain ⟨k1, k2, k3⟩ := HP1.out _ _ hown1 hg1; have HT1 := Lib.hid k1; have HB5 := Lib.hid k2; have HO1 := Lib.hid k3; clear hown1 hg1 hat1 k1 k2 k3))
      obtain ⟨A4, c4, rfl⟩ := own_form HO2.out
      obtain ⟨b, o, rfl, hbw⟩ := HW.out.some_ (by omega)
      have H6 := Lib.hid (HAF.out _ HB6.out)
      have HBR := Lib.hid (show p ≠ r ∧ b ≠ r ∧ p ≠ s ∧ b ≠ s ∧ r ≠ s by have := H6.out.ne; omega)
      have HS0 := Lib.hid (fun W (q : RlW w p r s (some ⟨b, o, none⟩) c l A2 c2 h W) => show W.cell? ⟨p, 0, none⟩ = some (.slice (some ⟨b, o, none⟩) l.length c) ∧ W.cell? ⟨b, o + k * 8, none⟩ = some (.int .i64 X.m.id) ∧ W.cell? ⟨b, o + k * 8 + 1, none⟩ = some (.int .i64 X.m.rt) ∧ W.cell? ⟨b, o + k * 8 + 2, none⟩ = some (.int .i64 X.m.ep) ∧ W.cell? ⟨b, o + k * 8 + 3, none⟩ = some (.int .i64 X.m.ct) ∧ W.cell? ⟨b, o + k * 8 + 4, none⟩ = some (.int .i64 X.m.gn) ∧ W.cell? ⟨b, o + k * 8 + 5, none⟩ = some (.int .i64 X.m.st) ∧ W.cell? ⟨b, o + k * 8 + 6, none⟩ = some (.string X.m.bd) from by
        obtain ⟨⟨c0, c1, c2', c3, c4, c5, c6, c7⟩, _⟩ := q.va.el.c8 hk
        rw [HXK.out] at c0 c1 c2' c3 c4 c5 c6 c7
        exact ⟨q.va.tb.1, c0, c1, c2', c3, c4, c5, c6⟩)
      have HSa := Lib.hid (fun W v v2 (q : W.cell? ⟨p, 0, none⟩ = some (.slice (some ⟨b, o, none⟩) l.length c) ∧ W.cell? ⟨b, o + k * 8, none⟩ = some (.int .i64 X.m.id) ∧ W.cell? ⟨b, o + k * 8 + 1, none⟩ = some (.int .i64 X.m.rt) ∧ W.cell? ⟨b, o + k * 8 + 2, none⟩ = some (.int .i64 X.m.ep) ∧ W.cell? ⟨b, o + k * 8 + 3, none⟩ = some (.int .i64 X.m.ct) ∧ W.cell? ⟨b, o + k * 8 + 4, none⟩ = some (.int .i64 X.m.gn) ∧ W.cell? ⟨b, o + k * 8 + 5, none⟩ = some (.int .i64 X.m.st) ∧ W.cell? ⟨b, o + k * 8 + 6, none⟩ = some (.string X.m.bd)) => show (set2 W r v v2).cell? ⟨p, 0, none⟩ = some (.slice (some ⟨b, o, none⟩) l.length c) ∧ (set2 W r v v2).cell? ⟨b, o + k * 8, none⟩ = some (.int .i64 X.m.id) ∧ (set2 W r v v2).cell? ⟨b, o + k * 8 + 1, none⟩ = some (.int .i64 X.m.rt) ∧ (set2 W r v v2).cell? ⟨b, o + k * 8 + 2, none⟩ = some (.int .i64 X.m.ep) ∧ (set2 W r v v2).cell? ⟨b, o + k * 8 + 3, none⟩ = some (.int .i64 X.m.ct) ∧ (set2 W r v v2).cell? ⟨b, o + k * 8 + 4, none⟩ = some (.int .i64 X.m.gn) ∧ (set2 W r v v2).cell? ⟨b, o + k * 8 + 5, none⟩ = some (.int .i64 X.m.st) ∧ (set2 W r v v2).cell? ⟨b, o + k * 8 + 6, none⟩ = some (.string X.m.bd) from ⟨(set2_far HBR.out.1).trans q.1, (set2_far HBR.out.2.1).trans q.2.1, (set2_far HBR.out.2.1).trans q.2.2.1, (set2_far HBR.out.2.1).trans q.2.2.2.1, (set2_far HBR.out.2.1).trans q.2.2.2.2.1, (set2_far HBR.out.2.1).trans q.2.2.2.2.2.1, (set2_far HBR.out.2.1).trans q.2.2.2.2.2.2.1, (set2_far HBR.out.2.1).trans q.2.2.2.2.2.2.2⟩)
      have HSb := Lib.hid (fun W (q : W.cell? ⟨p, 0, none⟩ = some (.slice (some ⟨b, o, none⟩) l.length c) ∧ W.cell? ⟨b, o + k * 8, none⟩ = some (.int .i64 X.m.id) ∧ W.cell? ⟨b, o + k * 8 + 1, none⟩ = some (.int .i64 X.m.rt) ∧ W.cell? ⟨b, o + k * 8 + 2, none⟩ = some (.int .i64 X.m.ep) ∧ W.cell? ⟨b, o + k * 8 + 3, none⟩ = some (.int .i64 X.m.ct) ∧ W.cell? ⟨b, o + k * 8 + 4, none⟩ = some (.int .i64 X.m.gn) ∧ W.cell? ⟨b, o + k * 8 + 5, none⟩ = some (.int .i64 X.m.st) ∧ W.cell? ⟨b, o + k * 8 + 6, none⟩ = some (.string X.m.bd)) => show (set7 W s 0 X.m).cell? ⟨p, 0, none⟩ = some (.slice (some ⟨b, o, none⟩) l.length c) ∧ (set7 W s 0 X.m).cell? ⟨b, o + k * 8, none⟩ = some (.int .i64 X.m.id) ∧ (set7 W s 0 X.m).cell? ⟨b, o + k * 8 + 1, none⟩ = some (.int .i64 X.m.rt) ∧ (set7 W s 0 X.m).cell? ⟨b, o + k * 8 + 2, none⟩ = some (.int .i64 X.m.ep) ∧ (set7 W s 0 X.m).cell? ⟨b, o + k * 8 + 3, none⟩ = some (.int .i64 X.m.ct) ∧ (set7 W s 0 X.m).cell? ⟨b, o + k * 8 + 4, none⟩ = some (.int .i64 X.m.gn) ∧ (set7 W s 0 X.m).cell? ⟨b, o + k * 8 + 5, none⟩ = some (.int .i64 X.m.st) ∧ (set7 W s 0 X.m).cell? ⟨b, o + k * 8 + 6, none⟩ = some (.string X.m.bd) from ⟨(sets_far (p := ⟨p, 0, none⟩) HBR.out.2.2.1 0 X.m.l).trans q.1, (sets_far (p := ⟨b, o + k * 8, none⟩) HBR.out.2.2.2.1 0 X.m.l).trans q.2.1, (sets_far (p := ⟨b, o + k * 8 + 1, none⟩) HBR.out.2.2.2.1 0 X.m.l).trans q.2.2.1, (sets_far (p := ⟨b, o + k * 8 + 2, none⟩) HBR.out.2.2.2.1 0 X.m.l).trans q.2.2.2.1, (sets_far (p := ⟨b, o + k * 8 + 3, none⟩) HBR.out.2.2.2.1 0 X.m.l).trans q.2.2.2.2.1, (sets_far (p := ⟨b, o + k * 8 + 4, none⟩) HBR.out.2.2.2.1 0 X.m.l).trans q.2.2.2.2.2.1, (sets_far (p := ⟨b, o + k * 8 + 5, none⟩) HBR.out.2.2.2.1 0 X.m.l).trans q.2.2.2.2.2.2.1, (sets_far (p := ⟨b, o + k * 8 + 6, none⟩) HBR.out.2.2.2.1 0 X.m.l).trans q.2.2.2.2.2.2.2⟩)
      have HSd := Lib.hid (fun (W : World) (q : W.cell? ⟨p, 0, none⟩ = some (.slice (some ⟨b, o, none⟩) l.length c) ∧ W.cell? ⟨b, o + k * 8, none⟩ = some (.int .i64 X.m.id) ∧ W.cell? ⟨b, o + k * 8 + 1, none⟩ = some (.int .i64 X.m.rt) ∧ W.cell? ⟨b, o + k * 8 + 2, none⟩ = some (.int .i64 X.m.ep) ∧ W.cell? ⟨b, o + k * 8 + 3, none⟩ = some (.int .i64 X.m.ct) ∧ W.cell? ⟨b, o + k * 8 + 4, none⟩ = some (.int .i64 X.m.gn) ∧ W.cell? ⟨b, o + k * 8 + 5, none⟩ = some (.int .i64 X.m.st) ∧ W.cell? ⟨b, o + k * 8 + 6, none⟩ = some (.string X.m.bd)) => show W.drew.cell? ⟨p, 0, none⟩ = some (.slice (some ⟨b, o, none⟩) l.length c) ∧ W.drew.cell? ⟨b, o + k * 8, none⟩ = some (.int .i64 X.m.id) ∧ W.drew.cell? ⟨b, o + k * 8 + 1, none⟩ = some (.int .i64 X.m.rt) ∧ W.drew.cell? ⟨b, o + k * 8 + 2, none⟩ = some (.int .i64 X.m.ep) ∧ W.drew.cell? ⟨b, o + k * 8 + 3, none⟩ = some (.int .i64 X.m.ct) ∧ W.drew.cell? ⟨b, o + k * 8 + 4, none⟩ = some (.int .i64 X.m.gn) ∧ W.drew.cell? ⟨b, o + k * 8 + 5, none⟩ = some (.int .i64 X.m.st) ∧ W.drew.cell? ⟨b, o + k * 8 + 6, none⟩ = some (.string X.m.bd) from q)
      have HU := Lib.hid (HS0.out w6 H6.out)
      have HU0 := Lib.hid (HSd.out w6 HU.out)
      have HV1 := Lib.hid (HSa.out w6 (.slice A4 LE.length c4) (.slice A3 K.length c3) HU.out)
      have HU1 := Lib.hid (HSd.out (set2 w6 r (.slice A4 LE.length c4) (.slice A3 K.length c3)) HV1.out)
      have HU2 := Lib.hid (HSd.out (set7 (set2 w6 r (.slice A4 LE.length c4) (.slice A3 K.length c3)) s 0 X.m) (HSb.out (set2 w6 r (.slice A4 LE.length c4) (.slice A3 K.length c3)) HV1.out))
      have HE6 := Lib.hid (El.of_own HO2.out)
      have HN6 := Lib.hid (nwv_of (nwv_own HO2.out (Nat.le_refl _)))
      have HK6 := Lib.hid (HK.out.up HB6.out)
      have HF0 := Lib.hid (tme_end (w := w) HE6.out HN6.out (show r < w4.heap.size from H3.out.rt.lt) (show s < w4.heap.size from H3.out.rm.lt) HK6.out HNW.out (show r < w3.heap.size from H2.out.rt.lt) (show s < w3.heap.size from H2.out.rm.lt) X.m H6.out.va.bel H3.out.va.bel.size H2.out.va.bel.size (by have := H6.out.ne; omega) (by have := H6.out.ne; omega))
      have HF := Lib.hid (tme_drew HF0.out)
      obtain ⟨r0, r1, f0, f1, rl⟩ := H6.out.rt
      obtain ⟨s0, s1, s2, s3, s4, s5, s6, g0, g1, g2, g3, g4, g5, g6, sl⟩ := H6.out.rm
      have hrs : ¬ r = s := HBR.out.2.2.2.2
      have hsr : ¬ s = r := fun e => HBR.out.2.2.2.2 e.symm
      go_wp2_with fail
      go_region_held3 (fun W => W.cell? ⟨p, 0, none⟩ = some (.slice (some ⟨b, o, none⟩) l.length c) ∧ W.cell? ⟨b, o + k * 8, none⟩ = some (.int .i64 X.m.id) ∧ W.cell? ⟨b, o + k * 8 + 1, none⟩ = some (.int .i64 X.m.rt) ∧ W.cell? ⟨b, o + k * 8 + 2, none⟩ = some (.int .i64 X.m.ep) ∧ W.cell? ⟨b, o + k * 8 + 3, none⟩ = some (.int .i64 X.m.ct) ∧ W.cell? ⟨b, o + k * 8 + 4, none⟩ = some (.int .i64 X.m.gn) ∧ W.cell? ⟨b, o + k * 8 + 5, none⟩ = some (.int .i64 X.m.st) ∧ W.cell? ⟨b, o + k * 8 + 6, none⟩ = some (.string X.m.bd))
        (first | with_reducible exact HU0.out | with_reducible exact HU1.out | with_reducible exact HU2.out)
        (first | (fail))
      go_wp2
      exact bodyPost_ret (v := .tuple #[.agg #[.slice A4 LE.length c4, .slice A3 K.length c3], X.m.v, .int .i64 0]) (by simp only [results, Tryz.results25]; go_simp <;> rfl) rfl HF.out
  · have he := rlE_bad (id := id) h0
    obtain ⟨hH, hL, hM⟩ := rlE_ne (l := l) (h := h) (id := id) (by rw [he]; exact h0)
    have hne : (tbV l h != 0) = true := bne_iff_ne.2 h0
    rw [hH, hL, hM, he]
    generalize tbV l h = x at *
    clear he hH hL hM h0
    go_enter Tryz.func25, Tryz.ntmps25
    obtain ⟨t0, t1, tl⟩ := H0.out.va.tb
    go_wp2_with fail
    clear t0 t1 tl
    obtain ⟨p, hp⟩ : ∃ p, p = w.heap.size := ⟨_, rfl⟩
    obtain ⟨r, hr⟩ : ∃ r, r = w.heap.size + 1 := ⟨_, rfl⟩
    obtain ⟨s, hs⟩ : ∃ s, s = w.heap.size + 1 + 1 := ⟨_, rfl⟩
    rw [← hs, ← hr, ← hp] at H0 ⊢
    clear hp hr hs
    generalize (((w.alloc (.cells #[.slice A l.length c, .slice A2 h.length c2] 25)).alloc (.cells #[.slice none 0 0, .slice none 0 0] 25)).alloc (.cells #[.int .i64 0, .int .i64 0, .int .i64 0, .int .i64 0, .int .i64 0, .int .i64 0, .string ⟨#[]⟩] 27)) = w1 at *
    refine (HV.out _ _ H0.out.va).mono ?_
    rintro e w2 ⟨rfl, hb⟩
    have H1 := Lib.hid (H0.out.below hb)
    clear hb
    obtain ⟨r0, r1, f0, f1, rl⟩ := H1.out.rt
    obtain ⟨s0, s1, s2, s3, s4, s5, s6, g0, g1, g2, g3, g4, g5, g6, sl⟩ := H1.out.rm
    have hrs : ¬ r = s := by have := H1.out.ne; omega
    have hsr : ¬ s = r := by have := H1.out.ne; omega
    have HB := Lib.hid (show Below w.heap.size w (set7 (set2 w2 r (.slice none 0 0) (.slice none 0 0)) s 0 zM) from sets_below (by have := H1.out.ne; omega) zM.l 0 _ (set2_below H1.out.va.bel (by have := H1.out.ne; omega)))
    go_wp2
    exact bodyPost_ret (v := .tuple #[.agg #[.slice none 0 0, .slice none 0 0], .agg #[.int .i64 0, .int .i64 0, .int .i64 0, .int .i64 0, .int .i64 0, .int .i64 0, .string ⟨#[]⟩], .int .i64 x]) (by simp only [results, Tryz.results25]; go_simp <;> rfl) rfl (tme_nil rfl rfl rfl rfl HB.out)
end Go.Proofs.YtjclhlejbidpgaaGreat
namespace Go.Proofs.YtjclhlejbidpgaaGreat
open Go.RowKit
set_option linter.unusedVariables false

theorem exE_tb {l : List Le} {h : List Du} {id dl : Int} (h0 : tbV l h ≠ 0) : exE l h id dl = tbV l h := if_pos h0
theorem exE_4 {l : List Le} {h : List Du} {id dl : Int} (h0 : tbV l h = 0) (hk : kFi Le.id l id < 0) : exE l h id dl = 4 := by unfold exE; rw [if_neg (by simpa using h0), if_pos hk]
theorem exE_1 {l : List Le} {h : List Du} {id dl : Int} (h0 : tbV l h = 0) (hk : ¬ kFi Le.id l id < 0) (hd : dl < 0 ∨ 1073741824 < dl) : exE l h id dl = 1 := by unfold exE; rw [if_neg (by simpa using h0), if_neg hk, if_pos hd]
theorem exE_0 {l : List Le} {h : List Du} {id dl : Int} (h0 : tbV l h = 0) (hk : ¬ kFi Le.id l id < 0) (hd : ¬ (dl < 0 ∨ 1073741824 < dl)) : exE l h id dl = 0 := by unfold exE; rw [if_neg (by simpa using h0), if_neg hk, if_neg hd]
set_option maxHeartbeats 8000000 in
set_option maxRecDepth 20000 in
theorem rtextend_any (A : Option Addr) (n c : Nat) (l : List Le) (A2 : Option Addr) (n2 c2 : Nat) (h : List Du) (id dl : Int) (w : World) (hv : El w w.heap.size (.slice A n c) l) (hd : Dl w w.heap.size (.slice A2 n2 c2) h) :
    Calls Tryz.prog 27 #[tv A n c A2 n2 c2, .int .i64 id, .int .i64 dl] w (TE w (exL l h id dl) (exH l h id dl) (exE l h id dl)) := by
  obtain ⟨rfl, hm1, hm2⟩ := hv.len
  obtain ⟨rfl, hm3, hm4⟩ := hd.len
  have H0 := Lib.hid (ExW.start hv hd 25)
  have HW := Lib.hid hv
  have HV := Lib.hid (fun p W (k : VaA w p A c l A2 c2 h W) => rtvalid_any A l.length c l A2 h.length c2 h W k.el k.dl)
  have HFI := Lib.hid (fun p W (k : VaA w p A c l A2 c2 h W) => rtfind_any A l.length c l A2 h.length c2 id W k.el)
  have HRM := Lib.hid (fun p W (k : VaA w p A c l A2 c2 h W) => rremove5_any A2 h.length c2 h id W k.dl)
  clear hv hd hm1 hm2 hm3 hm4
  by_cases h0 : tbV l h = 0
  · rw [h0] at HV
    by_cases hk0 : kFi Le.id l id < 0
    · have he := exE_4 (dl := dl) h0 hk0
      have HN := Lib.hid (exE_ne (l := l) (h := h) (id := id) (dl := dl) (by rw [he]; decide))
      rw [HN.out.1, HN.out.2, he]
      generalize kFi Le.id l id = y at *
      clear he h0
      go_enter Tryz.func27, Tryz.ntmps27
      obtain ⟨t0, t1, tl⟩ := H0.out.va.tb
      go_wp2_with fail
      clear t0 t1 tl
      obtain ⟨p, hp⟩ : ∃ p, p = w.heap.size := ⟨_, rfl⟩
      obtain ⟨r, hr⟩ : ∃ r, r = w.heap.size + 1 := ⟨_, rfl⟩
      rw [← hr, ← hp] at H0 ⊢
      clear hp hr
      generalize ((w.alloc (.cells #[.slice A l.length c, .slice A2 h.length c2] 25)).alloc (.cells #[.slice none 0 0, .slice none 0 0] 25)) = w1 at *
      refine (HV.out _ _ H0.out.va).mono ?_
      rintro e w2 ⟨rfl, hb⟩
      have H1 := Lib.hid (H0.out.below hb)
      clear hb
      obtain ⟨t0, t1, tl⟩ := H1.out.va.tb
      go_wp2_with fail
      clear t0 t1 tl
      refine (HFI.out _ _ H1.out.va).mono ?_
      rintro e w3 ⟨rfl, hb⟩
      have H2 := Lib.hid (H1.out.below hb)
      clear hb
      obtain ⟨r0, r1, f0, f1, rl⟩ := H2.out.rt
      have HB := Lib.hid (show Below w.heap.size w (set2 w3 r (.slice none 0 0) (.slice none 0 0)) from set2_below H2.out.va.bel (by have := H2.out.ne; omega))
      go_wp2
      exact bodyPost_ret (v := .tuple #[.agg #[.slice none 0 0, .slice none 0 0], .int .i64 4]) (by simp only [results, Tryz.results27]; go_simp <;> rfl) rfl (te_nil rfl rfl rfl HB.out)
    · by_cases hd : dl < 0 ∨ 1073741824 < dl
      · have he := exE_1 h0 hk0 hd
        have HN := Lib.hid (exE_ne (l := l) (h := h) (id := id) (dl := dl) (by rw [he]; decide))
        rw [HN.out.1, HN.out.2, he]
        generalize kFi Le.id l id = y at *
        clear he h0 HN
        by_cases hd1 : dl < 0
        · clear hd
          go_enter Tryz.func27, Tryz.ntmps27
          obtain ⟨t0, t1, tl⟩ := H0.out.va.tb
          go_wp2_with fail
          clear t0 t1 tl
          obtain ⟨p, hp⟩ : ∃ p, p = w.heap.size := ⟨_, rfl⟩
          obtain ⟨r, hr⟩ : ∃ r, r = w.heap.size + 1 := ⟨_, rfl⟩
          rw [← hr, ← hp] at H0 ⊢
          clear hp hr
          generalize ((w.alloc (.cells #[.slice A l.length c, .slice A2 h.length c2] 25)).alloc (.cells #[.slice none 0 0, .slice none 0 0] 25)) = w1 at *
          refine (HV.out _ _ H0.out.va).mono ?_
          rintro e w2 ⟨rfl, hb⟩
          have H1 := Lib.hid (H0.out.below hb)
          clear hb
          obtain ⟨t0, t1, tl⟩ := H1.out.va.tb
          go_wp2_with fail
          clear t0 t1 tl
          refine (HFI.out _ _ H1.out.va).mono ?_
          rintro e w3 ⟨rfl, hb⟩
          have H2 := Lib.hid (H1.out.below hb)
          clear hb
          obtain ⟨r0, r1, f0, f1, rl⟩ := H2.out.rt
          have HB := Lib.hid (show Below w.heap.size w (set2 w3 r (.slice none 0 0) (.slice none 0 0)) from set2_below H2.out.va.bel (by have := H2.out.ne; omega))
          go_wp2
          exact bodyPost_ret (v := .tuple #[.agg #[.slice none 0 0, .slice none 0 0], .int .i64 1]) (by simp only [results, Tryz.results27]; go_simp <;> rfl) rfl (te_nil rfl rfl rfl HB.out)
        · have hd2 : 1073741824 < dl := by omega
          clear hd
          go_enter Tryz.func27, Tryz.ntmps27
          obtain ⟨t0, t1, tl⟩ := H0.out.va.tb
          go_wp2_with fail
          clear t0 t1 tl
          obtain ⟨p, hp⟩ : ∃ p, p = w.heap.size := ⟨_, rfl⟩
          obtain ⟨r, hr⟩ : ∃ r, r = w.heap.size + 1 := ⟨_, rfl⟩
          rw [← hr, ← hp] at H0 ⊢
          clear hp hr
          generalize ((w.alloc (.cells #[.slice A l.length c, .slice A2 h.length c2] 25)).alloc (.cells #[.slice none 0 0, .slice none 0 0] 25)) = w1 at *
          refine (HV.out _ _ H0.out.va).mono ?_
          rintro e w2 ⟨rfl, hb⟩
          have H1 := Lib.hid (H0.out.below hb)
          clear hb
          obtain ⟨t0, t1, tl⟩ := H1.out.va.tb
          go_wp2_with fail
          clear t0 t1 tl
          refine (HFI.out _ _ H1.out.va).mono ?_
          rintro e w3 ⟨rfl, hb⟩
          have H2 := Lib.hid (H1.out.below hb)
          clear hb
          obtain ⟨r0, r1, f0, f1, rl⟩ := H2.out.rt
          have HB := Lib.hid (show Below w.heap.size w (set2 w3 r (.slice none 0 0) (.slice none 0 0)) from set2_below H2.out.va.bel (by have := H2.out.ne; omega))
          go_wp2
          exact bodyPost_ret (v := .tuple #[.agg #[.slice none 0 0, .slice none 0 0], .int .i64 1]) (by simp only [results, Tryz.results27]; go_simp <;> rfl) rfl (te_nil rfl rfl rfl HB.out)
      · have he := exE_0 h0 hk0 hd
        obtain ⟨t, k, hk, hka, -, hH, hL⟩ := exE_at he
        have hfi : kFi Le.id l id = (k : Int) := by have := (kAt_fi t.asc (x := id) (by omega)).1; omega
        rw [hfi] at HFI
        have hrl : rlE l h id = 0 := (exE_zero he).1
        have hpe : hpuE (rmR h id) ⟨dl, id⟩ = 0 := by rw [← exE_ok hrl]; exact he
        rw [rlE_tb t] at hrl
        rw [hrl] at HRM
        have HPU := Lib.hid (fun A3 c3 W (q : Dl W W.heap.size (.slice A3 (rmR h id).length c3) (rmR h id)) => rpush5_any A3 (rmR h id).length c3 (rmR h id) ⟨dl, id⟩ W q)
        rw [← hH, hpe] at HPU
        rw [he, hL, lg_get hk]
        have hl12 : l.length ≤ 12 := t.len
        have HLS := Lib.hid (show (l.set k ((lg l k).till dl)).length = l.length from List.length_set)
        generalize exH l h id dl = K at *
        generalize rmR h id = K0 at *
        have HTE := Lib.hid (fun (W : World) (q cap : Nat) (hr : ERow W q l.length (lg l)) (hc : l.length ≤ cap) (hm : cap ≤ maxLen) => till_el hr rfl hk dl hc hm)
        generalize l.set k ((lg l k).till dl) = LS at *
        have hk' : (k : Int) < (l.length : Int) := by omega
        have HK0 := Lib.hid (show 0 < l.length by omega)
        have hd1 : ¬ dl < 0 := by omega
        have hd2 : ¬ 1073741824 < dl := by omega
        have hk2 : ¬ ((k : Int) < 0) := by omega
        obtain ⟨i0, hi0, hz0⟩ := Option.map_eq_some_iff.1 info_lease
        simp only [Prod.mk.injEq] at hz0
        have HI := Lib.hid hi0
        have HZ := Lib.hid hz0
        have HL12 := Lib.hid hl12
        clear he t hka hH hL hfi hrl hpe h0 hk0 hd hi0 hz0
        go_enter Tryz.func27, Tryz.ntmps27
        obtain ⟨t0, t1, tl⟩ := H0.out.va.tb
        go_wp2_with fail
        clear t0 t1 tl
        obtain ⟨p, hp⟩ : ∃ p, p = w.heap.size := ⟨_, rfl⟩
        obtain ⟨r, hr⟩ : ∃ r, r = w.heap.size + 1 := ⟨_, rfl⟩
        rw [← hr, ← hp] at H0 ⊢
        clear hp hr
        generalize ((w.alloc (.cells #[.slice A l.length c, .slice A2 h.length c2] 25)).alloc (.cells #[.slice none 0 0, .slice none 0 0] 25)) = w1 at *
        refine (HV.out _ _ H0.out.va).mono ?_
        rintro e w2 ⟨rfl, hb⟩
        have H1 := Lib.hid (H0.out.below hb)
        clear hb
        obtain ⟨t0, t1, tl⟩ := H1.out.va.tb
        go_wp2_with fail
        clear t0 t1 tl
        refine (HFI.out _ _ H1.out.va).mono ?_
        rintro e w3 ⟨rfl, hb⟩
        have H2 := Lib.hid (H1.out.below hb)
        clear hb
        obtain ⟨t0, t1, tl⟩ := H2.out.va.tb
        go_wp2_with fail
        clear t0 t1 tl
        refine (HRM.out _ _ H2.out.va).mono ?_
        rintro e w4 ⟨A3, c3, rfl, hnw, hl, hb⟩
        have H3 := Lib.hid (H2.out.below hb)
        have HK := Lib.hid hl
        clear hb hnw hl
        go_wp2_with fail
        refine (HPU.out _ _ _ HK.out).mono ?_
        rintro e w5 ⟨A5, c5, rfl, hnw, hl, hb⟩
        have H4 := Lib.hid (H3.out.below hb)
        have HNW := Lib.hid (And.intro hnw (And.intro H3.out.rt.lt H3.out.va.bel.size))
        have HK := Lib.hid hl
        clear hb hnw hl
        have HRD := Lib.hid (HW.out.up H4.out.va.bel).rd
        obtain ⟨t0, t1, tl⟩ := H4.out.va.tb
        go_wp2_with (at_builtin; refine wpList_append_rd _ rfl _ _ 22 rfl w5.heap.size 39 i0 _ 8 72 Tryz.underlying22 HI.out HZ.out.1 HZ.out.2.1 HZ.out.2.2 rfl (by omega) (.slice none 0 0) 0 [] rfl (World.ownsRow_nil _ _ _ _) w5.heap.size A l.length c (ecs l) rfl HRD.out (ecs_one l) (by have := HL12.out; unfold maxLen; omega) (by have := HL12.out; omega) (Nat.le_refl _) ?_; intro v1 w6 hown1 hg1 hat1; rw [Nat.zero_add, List.nil_append] at hown1; obtain ⟨q, cap, cur, rfl, hq, hrw, hlc, hmc, -, -⟩ := Rw.of_own hown1 HK0.out; have hb := below_nil hg1 rfl; have H5 := Lib.hid (H4.out.below hb); have HK2 := Lib.hid (HK.out.below hb); have HRW := Lib.hid (ERow.of_own hown1); have HQ := Lib.hid (And.intro hq (And.intro hlc hmc)); have HQR := Lib.hid (show r < q from Nat.lt_of_lt_of_le H4.out.rt.lt hq); clear hb hown1 hrw hq hg1 hat1 t0 t1 tl; obtain ⟨r0, r1, f0, f1, rl⟩ := H5.out.rt; obtain ⟨x0, x1, x2, x3, x4, x5, x6, c7⟩ := HRW.out.c8 hk; have g7 := HRW.out.2.2 (k * 8 + 7); have hrq : ¬ r = q := (by have := HQR.out; omega); have hqr : ¬ q = r := (by have := HQR.out; omega); clear x0 x1 x2 x3 x4 x5 x6)
        have HEL := Lib.hid (HTE.out _ _ _ HRW.out HQ.out.2.1 HQ.out.2.2)
        have HKL := Lib.hid (((HK2.out.setCell (p := ⟨q, k * 8 + 7, none⟩) (show _ ≤ q from HQ.out.1) (.int .i64 dl)).set2 (r := r) (v := .slice (some ⟨q, 0, none⟩) l.length cap) (v2 := .slice A5 K.length c5) HNW.out.1 HNW.out.2.1).more (show w5.heap.size ≤ (set2 (w6.setCell ⟨q, k * 8 + 7, none⟩ (.int .i64 dl)) r (.slice (some ⟨q, 0, none⟩) l.length cap) (.slice A5 K.length c5)).heap.size by have := HQ.out.1; have := HRW.out.1; simp; omega))
        have HF := Lib.hid (show TE w LS K 0 (.returned (.tuple #[.agg #[.slice (some ⟨q, 0, none⟩) l.length cap, .slice A5 K.length c5], .int .i64 0])) (set2 (w6.setCell ⟨q, k * 8 + 7, none⟩ (.int .i64 dl)) r (.slice (some ⟨q, 0, none⟩) l.length cap) (.slice A5 K.length c5)) from
          ⟨some ⟨q, 0, none⟩, cap, A5, c5, by rw [HLS.out], nw_some (by have := H4.out.va.bel.size; have := HQ.out.1; omega), nw_low HNW.out.1 HNW.out.2.2, by rw [HLS.out]; exact (HEL.out.set2 (lo := w5.heap.size) (nw_some HQ.out.1) H4.out.rt.lt).more (by simp), HKL.out, set2_below (H5.out.va.bel.setCell (p := ⟨q, k * 8 + 7, none⟩) (by have := H4.out.va.bel.size; have := HQ.out.1; show _ ≤ q; omega) _) (by have := H5.out.ne; omega)⟩)
        go_wp2
        exact bodyPost_ret (v := .tuple #[.agg #[.slice (some ⟨q, 0, none⟩) l.length cap, .slice A5 K.length c5], .int .i64 0]) (by simp only [results, Tryz.results27]; go_simp <;> rfl) rfl HF.out
  · have he := exE_tb (id := id) (dl := dl) h0
    have HN := Lib.hid (exE_ne (l := l) (h := h) (id := id) (dl := dl) (by rw [he]; exact h0))
    have hne : (tbV l h != 0) = true := bne_iff_ne.2 h0
    rw [HN.out.1, HN.out.2, he]
    generalize tbV l h = x at *
    clear he h0 HN
    go_enter Tryz.func27, Tryz.ntmps27
    obtain ⟨t0, t1, tl⟩ := H0.out.va.tb
    go_wp2_with fail
    clear t0 t1 tl
    obtain ⟨p, hp⟩ : ∃ p, p = w.heap.size := ⟨_, rfl⟩
    obtain ⟨r, hr⟩ : ∃ r, r = w.heap.size + 1 := ⟨_, rfl⟩
    rw [← hr, ← hp] at H0 ⊢
    clear hp hr
    generalize ((w.alloc (.cells #[.slice A l.length c, .slice A2 h.length c2] 25)).alloc (.cells #[.slice none 0 0, .slice none 0 0] 25)) = w1 at *
    refine (HV.out _ _ H0.out.va).mono ?_
    rintro e w2 ⟨rfl, hb⟩
    have H1 := Lib.hid (H0.out.below hb)
    clear hb
    obtain ⟨r0, r1, f0, f1, rl⟩ := H1.out.rt
    have HB := Lib.hid (show Below w.heap.size w (set2 w2 r (.slice none 0 0) (.slice none 0 0)) from set2_below H1.out.va.bel (by have := H1.out.ne; omega))
    go_wp2
    exact bodyPost_ret (v := .tuple #[.agg #[.slice none 0 0, .slice none 0 0], .int .i64 x]) (by simp only [results, Tryz.results27]; go_simp <;> rfl) rfl (te_nil rfl rfl rfl HB.out)
end Go.Proofs.YtjclhlejbidpgaaGreat
namespace Go.Proofs.YtjclhlejbidpgaaGreat
open Go.RowKit
set_option linter.unusedVariables false

set_option maxHeartbeats 8000000 in
set_option maxRecDepth 20000 in
theorem rtFind_any (A : Option Addr) (n c : Nat) (l : List Le) (A2 : Option Addr) (n2 c2 : Nat) (h : List Du) (id : Int) (w : World) (hv : El w w.heap.size (.slice A n c) l) (hd : Dl w w.heap.size (.slice A2 n2 c2) h) :
    Calls Tryz.prog 20 #[tv A n c A2 n2 c2, .int .i64 id] w fun e w' => e = .returned (.tuple #[(fnX l h id).v, .bool (fnO l h id)]) ∧ Below w.heap.size w w' := by
  obtain ⟨rfl, hm1, hm2⟩ := hv.len
  obtain ⟨rfl, hm3, hm4⟩ := hd.len
  have H0 := Lib.hid ((VaA.start 25 hv hd).alloc (.cells #[.int .i64 0, .int .i64 0, .int .i64 0, .int .i64 0, .int .i64 0, .int .i64 0, .string ⟨#[]⟩, .int .i64 0] 39))
  have HR0 := Lib.hid (RL.start (w.alloc (.cells #[.slice A l.length c, .slice A2 h.length c2] 25)) zL 39)
  clear hv hd hm1 hm2 hm3 hm4
  obtain ⟨O, hO⟩ : ∃ O, O = fnO l h id := ⟨_, rfl⟩
  obtain ⟨X, hX⟩ : ∃ X, X = fnX l h id := ⟨_, rfl⟩
  obtain ⟨y, hy⟩ : ∃ y, y = kFi Le.id l id := ⟨_, rfl⟩
  obtain ⟨z, hz⟩ : ∃ z, z = tbV l h := ⟨_, rfl⟩
  have HF := Lib.hid (fun W (hv : El W W.heap.size (.slice A l.length c) l) => rtfind_any A l.length c l A2 h.length c2 id W hv)
  have HV := Lib.hid (fun p W (k : VaA w p A c l A2 c2 h W) => rtvalid_any A l.length c l A2 h.length c2 h W k.el k.dl)
  rw [← hy] at HF
  rw [← hz] at HV
  rw [← hO, ← hX]
  have HO := Lib.hid hO
  have HX := Lib.hid hX
  have HY := Lib.hid hy
  have HZ := Lib.hid hz
  clear hO hX hy hz
  go_enter Tryz.func20, Tryz.ntmps20
  go_wp2_with fail
  obtain ⟨p, hp⟩ : ∃ p, p = w.heap.size := ⟨_, rfl⟩
  obtain ⟨r, hr⟩ : ∃ r, r = w.heap.size + 1 := ⟨_, rfl⟩
  have HPR := Lib.hid (show ¬ p = r ∧ w.heap.size ≤ r by omega)
  have e1 : (w.alloc (.cells #[.slice A l.length c, .slice A2 h.length c2] 25)).heap.size = r := by rw [hr]; simp
  rw [e1] at HR0
  have HS := Lib.hid (show VaA w p A c l A2 c2 h ((w.alloc (.cells #[.slice A l.length c, .slice A2 h.length c2] 25)).alloc (.cells #[.int .i64 0, .int .i64 0, .int .i64 0, .int .i64 0, .int .i64 0, .int .i64 0, .string ⟨#[]⟩, .int .i64 0] 39)) ∧ RL ((w.alloc (.cells #[.slice A l.length c, .slice A2 h.length c2] 25)).alloc (.cells #[.int .i64 0, .int .i64 0, .int .i64 0, .int .i64 0, .int .i64 0, .int .i64 0, .string ⟨#[]⟩, .int .i64 0] 39)) r zL from ⟨by rw [hp]; exact H0.out, HR0.out⟩)
  rw [← hr, ← hp]
  clear e1 H0 HR0 hp hr
  generalize ((w.alloc (.cells #[.slice A l.length c, .slice A2 h.length c2] 25)).alloc (.cells #[.int .i64 0, .int .i64 0, .int .i64 0, .int .i64 0, .int .i64 0, .int .i64 0, .string ⟨#[]⟩, .int .i64 0] 39)) = w2 at *
  refine (HF.out _ HS.out.1.el).mono ?_
  rintro e w3 ⟨rfl, hb⟩
  have HS3 := Lib.hid (show VaA w p A c l A2 c2 h w3 ∧ RL w3 r zL from ⟨HS.out.1.below hb, HS.out.2.below hb HS.out.2.lt⟩)
  clear hb
  obtain ⟨t0, t1, tl⟩ := HS3.out.1.tb
  by_cases hz0 : z = 0
  · rw [hz0] at HV
    have HZ0 := Lib.hid (HZ.out.symm.trans hz0)
    clear hz0
    by_cases hy0 : y < 0
    · have HXO := Lib.hid (show X = zL ∧ O = false from ⟨HX.out.trans (fn_no fun hh => by have := HY.out; omega).2, HO.out.trans (fn_no fun hh => by have := HY.out; omega).1⟩)
      go_wp2_with fail
      refine (HV.out _ _ HS3.out.1).mono ?_
      rintro e w4 ⟨rfl, hb⟩
      have HS4 := Lib.hid (show VaA w p A c l A2 c2 h w4 ∧ RL w4 r zL from ⟨HS3.out.1.below hb, HS3.out.2.below hb HS3.out.2.lt⟩)
      clear hb t0 t1 tl
      obtain ⟨t0, t1, tl⟩ := HS4.out.1.tb
      obtain ⟨r0, r1, r2, r3, r4, r5, r6, r7, g0, g1, g2, g3, g4, g5, g6, g7, rl⟩ := HS4.out.2
      have hpr : ¬ p = r := HPR.out.1
      have hrp : ¬ r = p := fun e => HPR.out.1 e.symm
      go_wp2
      exact bodyPost_ret (v := .tuple #[.agg #[.int .i64 0, .int .i64 0, .int .i64 0, .int .i64 0, .int .i64 0, .int .i64 0, .string ⟨#[]⟩, .int .i64 0], .bool false]) (by simp only [results, Tryz.results20]; go_simp <;> rfl) rfl ⟨by rw [HXO.out.1, HXO.out.2]; rfl, sets_below HPR.out.2 zL.l 0 _ HS4.out.1.bel⟩
    · rcases kFi_cases Le.id l id with ⟨ey, _⟩ | ⟨k, hk, ey, eid, _⟩
      · exact absurd (HY.out.trans ey) (by omega)
      · obtain rfl : y = (k : Int) := HY.out.trans ey
        have hk' : (k : Int) < (l.length : Int) := by omega
        obtain ⟨Y, hY⟩ : ∃ Y, l[k] = Y := ⟨_, rfl⟩
        have HXO := Lib.hid (show X = Y ∧ O = true from ⟨HX.out.trans ((fn_yes HZ0.out hk ey).2.trans hY), HO.out.trans (fn_yes HZ0.out hk ey).1⟩)
        have HYK := Lib.hid hY
        clear hY ey eid
        go_wp2_with fail
        refine (HV.out _ _ HS3.out.1).mono ?_
        rintro e w4 ⟨rfl, hb⟩
        have HS4 := Lib.hid (show VaA w p A c l A2 c2 h w4 ∧ RL w4 r zL from ⟨HS3.out.1.below hb, HS3.out.2.below hb HS3.out.2.lt⟩)
        clear hb t0 t1 tl
        obtain ⟨t0, t1, tl⟩ := HS4.out.1.tb
        obtain ⟨r0, r1, r2, r3, r4, r5, r6, r7, g0, g1, g2, g3, g4, g5, g6, g7, rl⟩ := HS4.out.2
        have hpr : ¬ p = r := HPR.out.1
        have hrp : ¬ r = p := fun e => HPR.out.1 e.symm
        obtain ⟨b, o, rfl, hbl⟩ := HS4.out.1.el.some_ (by omega)
        obtain ⟨⟨c0, c1, c2', c3, c4, c5, c6, c7⟩, _⟩ := HS4.out.1.el.c8 hk
        rw [HYK.out] at c0 c1 c2' c3 c4 c5 c6 c7
        go_wp2
        exact bodyPost_ret (v := .tuple #[Y.v, .bool true]) (by simp only [results, Tryz.results20]; go_simp <;> rfl) rfl ⟨by rw [HXO.out.1, HXO.out.2], sets_below HPR.out.2 Y.l 0 _ HS4.out.1.bel⟩
  · have hz' : (z != 0) = true := by simpa using hz0
    have HXO := Lib.hid (show X = zL ∧ O = false from ⟨HX.out.trans (fn_no fun hh => by have := HZ.out; omega).2, HO.out.trans (fn_no fun hh => by have := HZ.out; omega).1⟩)
    clear hz0
    go_wp2_with fail
    refine (HV.out _ _ HS3.out.1).mono ?_
    rintro e w4 ⟨rfl, hb⟩
    have HS4 := Lib.hid (show VaA w p A c l A2 c2 h w4 ∧ RL w4 r zL from ⟨HS3.out.1.below hb, HS3.out.2.below hb HS3.out.2.lt⟩)
    clear hb t0 t1 tl
    obtain ⟨t0, t1, tl⟩ := HS4.out.1.tb
    obtain ⟨r0, r1, r2, r3, r4, r5, r6, r7, g0, g1, g2, g3, g4, g5, g6, g7, rl⟩ := HS4.out.2
    have hpr : ¬ p = r := HPR.out.1
    have hrp : ¬ r = p := fun e => HPR.out.1 e.symm
    go_wp2
    exact bodyPost_ret (v := .tuple #[.agg #[.int .i64 0, .int .i64 0, .int .i64 0, .int .i64 0, .int .i64 0, .int .i64 0, .string ⟨#[]⟩, .int .i64 0], .bool false]) (by simp only [results, Tryz.results20]; go_simp <;> rfl) rfl ⟨by rw [HXO.out.1, HXO.out.2]; rfl, sets_below HPR.out.2 zL.l 0 _ HS4.out.1.bel⟩
end Go.Proofs.YtjclhlejbidpgaaGreat
