/- What is proved here: RingOf of the statements' base makes a valid ring whose messages have routes of the span; Table of the statements' base makes a valid table whose messages have routes of the span; (plain) a slice that reads as a list of numbers; New of the statements' base makes a source of a list. -/
import Derived.Test.YtdilgeabcacbdaaGreatJ37
import Derived.Test.YtdilgeabcacbdaaGreatJ36
import Derived.Test.YtdilgeabcacbdaaGreatJ20
import Derived.Test.YtdilgeabcacbdaaGreatJ01
namespace Go.Proofs.YtdilgeabcacbdaaGreat
open Go.RowKit
set_option linter.unusedVariables false

/-- A ring that a source has made, with its capacity and the routes of its messages. -/
def SrRingR (B g k : Nat) (n id lo hi : Int) (w : World) (e : Ending) (w' : World) : Prop := ∃ (A : Option Addr) (c hd : Nat) (L : List Msg), e = .returned (.agg #[.slice A k c, .int .i64 hd, .int .i64 L.length]) ∧ Nw w.heap.size A ∧ Ls w' w'.heap.size (.slice A k c) (fil k hd L) ∧ hd < k ∧ L.length ≤ k ∧ (L.length : Int) ≤ n ∧ Gd L ∧ (∀ M ∈ L, id ≤ M.id ∧ M.id < id + L.length ∧ lo ≤ M.rt ∧ M.rt ≤ hi) ∧ SrcAt w' B g ∧ w.grownBy w' (some g)
theorem msg_rt {M : Msg} {id lo hi : Int} (h1 : M.rt = intoF (rtF id) lo hi) (l0 : 0 ≤ lo) (l1 : lo ≤ hi) (l2 : hi ≤ 65535) : lo ≤ M.rt ∧ M.rt ≤ hi := by
  have hr := rtF_lt id
  have := into_span (rtF id) lo hi hr.1 hr.2 l0 l2 l1
  omega
set_option maxHeartbeats 8000000 in
set_option maxRecDepth 20000 in
theorem ringofR_any (B g : Nat) (w : World) (h : SrcAt w B g) (k : Nat) (n id lo hi : Int) (k1 : 1 ≤ k) (k2 : k ≤ 12) (n0 : 0 ≤ n) (n1 : n ≤ 12) (i1 : 1 ≤ id) (i2 : id ≤ 1000000) (l0 : 0 ≤ lo) (l1 : lo ≤ hi) (l2 : hi ≤ 65535) :
    Calls Tryz.prog 71 #[.pointer (some ⟨g, 0, none⟩), .int .i64 k, .int .i64 n, .int .i64 id, .int .i64 lo, .int .i64 hi] w (SrRingR B g k n id lo hi w) := by
  have H := Lib.hid h
  have HN := Lib.hid (fun w => rnew4_any (k : Int) w)
  have HNC := Lib.hid (fun hd hh => nwC_fil k1 k2 hd hh)
  have hnl : (nwC (k : Int)).length = k := by rw [(nwC_fil k1 k2 0 (by omega)).1, fil_len]
  rw [(nwC_fil k1 k2 0 (by omega)).2] at HN
  have HNL := Lib.hid hnl
  have HGW := Lib.hid (show g < w.heap.size from h.2.1)
  have HBG := Lib.hid (show B ≤ g from h.1)
  have k1' : (1 : Int) ≤ (k : Int) := by omega
  have k2' : (k : Int) ≤ 12 := by omega
  clear h hnl
  generalize nwC (k : Int) = cs at *
  go_enter Tryz.func71, Tryz.ntmps71
  go_wp2_with fail
  have HR0 := Lib.hid (RB.fresh w none 0 0 0 0 31)
  obtain ⟨r, hr⟩ : ∃ r, r = w.heap.size := ⟨_, rfl⟩
  have HRR := Lib.hid hr
  rw [← hr] at HR0 ⊢
  clear hr
  refine (HN.out _).mono ?_
  rintro e w1 ⟨A1, c1, rfl, hnw, hl, hb⟩
  rw [HNL.out] at hl ⊢
  have HL1 := Lib.hid hl
  have HA1 := Lib.hid (show Nw (r + 1) A1 from nw_low hnw (by have := HRR.out; simp; omega))
  have HR1 := Lib.hid (HR0.out.below hb HR0.out.lt)
  have HS1 := Lib.hid ((H.out.alloc _).below hb)
  have HG1 := Lib.hid (only_below (only_alloc (World.grownBy.refl w (some g)) _) hb)
  have HY1 := Lib.hid (RB.fresh w1 A1 k c1 0 0 31)
  clear hnw hl hb
  go_wp2_with fail
  obtain ⟨y, hy⟩ : ∃ y, y = w1.heap.size := ⟨_, rfl⟩
  have HYY := Lib.hid hy
  rw [← hy] at HY1 ⊢
  clear hy
  refine (n_any B g _ (HS1.out.alloc _) k (by omega) (by omega)).mono ?_
  rintro e w2 ⟨hd, rfl, hd0, hd1, hs, hg⟩
  obtain ⟨hd, rfl⟩ := Int.eq_ofNat_of_zero_le hd0
  have HS2 := Lib.hid hs
  have HG2 := Lib.hid hg
  have HYG := Lib.hid (show y ≠ g by have := HYY.out; have := HS1.out.2.1; omega)
  have HRG := Lib.hid (show r ≠ g by have := HRR.out; have := HGW.out; omega)
  have HY2 := Lib.hid (HY1.out.grownG hg HYG.out)
  have HR2 := Lib.hid ((HR1.out.alloc (.cells #[.slice A1 k c1, .int .i64 0, .int .i64 0] 31)).grownG hg HRG.out)
  have HL2 := Lib.hid ((HL1.out.alloc (Nat.le_refl _) (.cells #[.slice A1 k c1, .int .i64 0, .int .i64 0] 31)).grownG hg (by simp) (off_nw HA1.out (by have := HRR.out; have := HGW.out; omega)))
  obtain ⟨r0, r1, r2, r3, r4, r5, hpl⟩ := HY2.out.facts
  clear hs hg
  go_wp2_with fail
  obtain ⟨mn, hmn⟩ : ∃ mn, mn = min n (k : Int) := ⟨_, rfl⟩
  rw [← hmn]
  have HMN := Lib.hid hmn
  have hm0 : 0 ≤ mn := by omega
  have hm1 : mn ≤ 12 := by omega
  have hmk : mn ≤ (k : Int) := by omega
  have hhd : hd < k := by omega
  have HFC := Lib.hid (HNC.out hd hhd).1
  have HOY := Lib.hid (off_ls HL1.out (by rw [HNL.out]; omega) (b := y) (by rw [HYY.out]; exact Nat.le_refl _))
  have HY0 := Lib.hid (show r < y by have := HYY.out; have := HR1.out.lt; omega)
  have HRO := Lib.hid (RoAt.mk (w := w) (B := B) (g := g) (L := []) (HY2.out.setH hd) (HR2.out.other (a := ⟨y, 1, none⟩) (show y ≠ r by have := HY0.out; omega) (.int .i64 hd)) (by rw [← HFC.out]; have := ((HL2.out.off' (p := ⟨y, 1, none⟩) HOY.out (.int .i64 hd)).more (show w1.heap.size ≤ (w2.setCell ⟨y, 1, none⟩ (.int .i64 hd)).heap.size by have := HG2.out.size; simp at this ⊢; omega)); exact this) (HS2.out.other (p := ⟨y, 1, none⟩) HYG.out (by have := HRR.out; have := HGW.out; have := HBG.out; have := HY0.out; show B ≤ y; omega) (.int .i64 hd)) (only_set ((only_alloc HG1.out _).trans HG2.out) (p := ⟨y, 1, none⟩) (.inr (by show w.heap.size ≤ y; have := HRR.out; have := HY0.out; omega)) (.int .i64 hd)) HA1.out HOY.out ⟨by have := HRR.out; omega, HY0.out, HGW.out, HBG.out⟩)
  clear r0 r1 r2 r3 r4 r5 hpl hmn HNC
  refine (n_any B g _ HRO.out.src (mn + 1) (by omega) (by omega)).mono ?_
  rintro e w4 ⟨j, rfl, j0, j1, hs, hg⟩
  obtain ⟨j, rfl⟩ := Int.eq_ofNat_of_zero_le j0
  have HR4 := Lib.hid (HRO.out.grownG hs hg)
  clear hs hg
  go_wp2
  go_loopw [3, 15] (fun idv iv wr => ∃ (j : Nat) (A : Option Addr) (c hd : Nat) (L : List Msg), iv = .int .i64 j ∧ idv = .int .i64 (id + L.length) ∧ RoAt w B g r y A k c hd L wr ∧ hd < k ∧ (L.length : Int) + j ≤ mn ∧ Gd L ∧ ∀ M ∈ L, id ≤ M.id ∧ M.id < id + L.length ∧ lo ≤ M.rt ∧ M.rt ≤ hi) (fun _ iv _ => (intOf iv).toNat)
  case atStart => exact ⟨j, A1, c1, hd, [], rfl, by simp, HR4.out, hhd, by simp; omega, gd_nil, by simp⟩
  case round =>
    obtain ⟨j, A, c, hd, L, rfl, rfl, hro, hhk, hjm, hgd, hids⟩ := hrel
    have HR := Lib.hid hro
    clear hro
    by_cases hj : 0 < j
    · have hlk : L.length < k := by omega
      have hL12 : (L.length : Int) ≤ 12 := by omega
      go_wp2_with fail
      refine (n_any B g _ HR.out.src 2 (by omega) (by omega)).mono ?_
      rintro e w5 ⟨x, rfl, x0, x1, hs, hg⟩
      have HR5 := Lib.hid (HR.out.grownG hs hg)
      clear hs hg
      by_cases hx : x = 0
      · subst hx
        have HGD := Lib.hid hgd
        have HID := Lib.hid hids
        obtain ⟨r0, r1, r2, r3, r4, r5, hpl⟩ := HR5.out.rb.facts
        clear hgd hids
        go_wp2
        go_region_with
          (first
          | (go_at_call 94; (with_reducible refine (message_any B g _ (HR5.out.drew.src) (id + L.length) lo hi).mono ?_); rintro e w6 ⟨M, rfl, m0, m1, m2, m3, m4, m5, m6, hs, hg⟩; have HM := Lib.hid (msg_ok m0 m1 m2 m3 m4 m5 m6 (by omega) (by omega) l0 l1 l2); have HMI := Lib.hid m0; have HMR := Lib.hid (msg_rt m1 l0 l1 l2); have HR6 := Lib.hid (HR5.out.drew.grownG hs hg); obtain ⟨q0, q1, q2, q3, q4, q5, hql⟩ := HR6.out.rb.facts; have HPB := Lib.hid (rpback_good A c k hd L M w6 k1 k2 hhk hlk HGD.out HM.out (fun N hN => by have := (HID.out N hN).2; have := HMI.out; omega) HR6.out.ls); clear m0 m1 m2 m3 m4 m5 m6 hs hg)
          | (go_at_call 93; (with_reducible refine HPB.out.mono ?_); rintro e w7 ⟨A7, c7, rfl, hnw, hl, hb⟩; rw [fil_len] at hl ⊢; have HR7 := Lib.hid (HR6.out.store hb hnw hl ((L.length : Int) + 1) (by simp)); obtain ⟨t0, t1, t2, t3, t4, t5, htl⟩ := (HR6.out.below hb).rb.facts; clear hnw hl hb))
        all_goals
          have HGE := Lib.hid (gd_back HGD.out HM.out (fun N hN => by have := (HID.out N hN).2; have := HMI.out; omega))
          have HIE := Lib.hid (show ∀ N ∈ L ++ [M], id ≤ N.id ∧ N.id < id + (L ++ [M]).length ∧ lo ≤ N.rt ∧ N.rt ≤ hi from fun N hN => by
            rcases List.mem_append.1 hN with h | h
            · have := HID.out N h; simp; omega
            · rw [List.mem_singleton.1 h]; have := HMI.out; have := HMR.out; simp; omega)
          clear q0 q1 q2 q3 q4 q5 hql t0 t1 t2 t3 t4 t5 htl r0 r1 r2 r3 r4 r5 hpl
          go_wp2
          go_roundw
          case rel => exact ⟨j - 1, A7, c7, hd, L ++ [M], by rw [show ((j - 1 : Nat) : Int) = (j : Int) - 1 by omega], by simp; omega, HR7.out, hhk, by simp; omega, HGE.out, HIE.out⟩
          case measure => simp [intOf]; omega
      · have hx' : (x == 0) = false := beq_eq_false_iff_ne.2 hx
        have HGD := Lib.hid hgd
        have HID := Lib.hid hids
        obtain ⟨r0, r1, r2, r3, r4, r5, hpl⟩ := HR5.out.rb.facts
        clear hgd hids
        go_wp2
        go_region_with
          (first
          | (go_at_call 94; (with_reducible refine (message_any B g _ (HR5.out.drew.src) (id + L.length) lo hi).mono ?_); rintro e w6 ⟨M, rfl, m0, m1, m2, m3, m4, m5, m6, hs, hg⟩; have HM := Lib.hid (msg_ok m0 m1 m2 m3 m4 m5 m6 (by omega) (by omega) l0 l1 l2); have HMI := Lib.hid m0; have HMR := Lib.hid (msg_rt m1 l0 l1 l2); have HR6 := Lib.hid (HR5.out.drew.grownG hs hg); obtain ⟨q0, q1, q2, q3, q4, q5, hql⟩ := HR6.out.rb.facts; have HPB := Lib.hid (rpfront_good A c k hd L M w6 k1 k2 hhk hlk HGD.out HM.out (fun N hN => by have := (HID.out N hN).2; have := HMI.out; omega) HR6.out.ls); clear m0 m1 m2 m3 m4 m5 m6 hs hg)
          | (go_at_call 95; (with_reducible refine HPB.out.mono ?_); rintro e w7 ⟨A7, c7, rfl, hnw, hl, hb⟩; rw [fil_len] at hl ⊢; have HR7 := Lib.hid (HR6.out.store hb hnw hl ((L.length : Int) + 1) (by simp)); obtain ⟨t0, t1, t2, t3, t4, t5, htl⟩ := (HR6.out.below hb).rb.facts; clear hnw hl hb))
        all_goals
          have HGE := Lib.hid (gd_front HGD.out HM.out (fun N hN => by have := (HID.out N hN).2; have := HMI.out; omega))
          have HIE := Lib.hid (show ∀ N ∈ M :: L, id ≤ N.id ∧ N.id < id + (M :: L).length ∧ lo ≤ N.rt ∧ N.rt ≤ hi from fun N hN => by
            rcases List.mem_cons.1 hN with h | h
            · rw [h]; have := HMI.out; have := HMR.out; simp; omega
            · have := HID.out N h; simp; omega)
          clear q0 q1 q2 q3 q4 q5 hql t0 t1 t2 t3 t4 t5 htl r0 r1 r2 r3 r4 r5 hpl
          go_wp2
          go_roundw
          case rel => exact ⟨j - 1, A7, c7, (hd + (k - 1)) % k, M :: L, by rw [show ((j - 1 : Nat) : Int) = (j : Int) - 1 by omega], by simp; omega, HR7.out, Nat.mod_lt _ (by omega), by simp; omega, HGE.out, HIE.out⟩
          case measure => simp [intOf]; omega
    · obtain rfl : j = 0 := by omega
      obtain ⟨r0, r1, r2, r3, r4, r5, hpl⟩ := HR.out.rb.facts
      obtain ⟨t0, t1, t2, t3, t4, t5, htl⟩ := HR.out.rs.facts
      have hyr : y ≠ r := by have := HY0.out; omega
      have hry : r ≠ y := fun e => hyr e.symm
      have HE := Lib.hid (ro_end HR.out)
      have HN1 := Lib.hid (show (L.length : Int) ≤ n by have := HMN.out; omega)
      have HGD := Lib.hid hgd
      have HID := Lib.hid hids
      clear hgd hids
      go_wp2
      exact bodyPost_ret (v := .agg #[.slice A k c, .int .i64 hd, .int .i64 L.length]) (by simp only [results, Tryz.results71]; go_simp <;> rfl) rfl ⟨A, c, hd, L, rfl, HE.out.1, HE.out.2.1, hhk, by omega, HN1.out, HGD.out, HID.out, HE.out.2.2.1, HE.out.2.2.2⟩
end Go.Proofs.YtdilgeabcacbdaaGreat
namespace Go.Proofs.YtdilgeabcacbdaaGreat
open Go.RowKit
set_option linter.unusedVariables false

/-- A source turned and a valid table as a result, with its length, the IDs and the routes of its messages. -/
def SrTableR (B g : Nat) (n id lo hi : Int) (w : World) (e : Ending) (w' : World) : Prop := ∃ A c A2 c2 l h, e = .returned (.agg #[.slice A l.length c, .slice A2 h.length c2]) ∧ TbOk l h ∧ (l.length : Int) ≤ n ∧ (∀ y ∈ l, id ≤ y.m.id ∧ lo ≤ y.m.rt ∧ y.m.rt ≤ hi) ∧ Nw w.heap.size A ∧ Nw w.heap.size A2 ∧ El w' w'.heap.size (.slice A l.length c) l ∧ Dl w' w'.heap.size (.slice A2 h.length c2) h ∧ SrcAt w' B g ∧ w.grownBy w' (some g)
theorem gr_in {l : List Le} {h : List Du} {x : Le} {id lo hi : Int} (hl : ∀ y ∈ l, id ≤ y.m.id ∧ lo ≤ y.m.rt ∧ y.m.rt ≤ hi) (hx : id ≤ x.m.id ∧ lo ≤ x.m.rt ∧ x.m.rt ≤ hi) : ∀ y ∈ grL l h x, id ≤ y.m.id ∧ lo ≤ y.m.rt ∧ y.m.rt ≤ hi := by
  intro y hy
  unfold grL at hy
  split at hy
  · rcases List.mem_cons.1 ((kIns_perm l x).mem_iff.1 hy) with e | e
    · rw [e]; exact hx
    · exact hl y e
  · cases hy
theorem gr_le (l : List Le) (h : List Du) (x : Le) : (grL l h x).length ≤ l.length + 1 := by
  unfold grL
  split
  · rw [kIns_len]; exact Nat.le_refl _
  · simp
set_option maxHeartbeats 8000000 in
set_option maxRecDepth 20000 in
theorem tableR_any (B g : Nat) (w : World) (h : SrcAt w B g) (n id lo hi : Int) (n0 : 0 ≤ n) (n1 : n ≤ 12) (i1 : 1 ≤ id) (i2 : id ≤ 1000000) (l0 : 0 ≤ lo) (l1 : lo ≤ hi) (l2 : hi ≤ 65535) :
    Calls Tryz.prog 72 #[.pointer (some ⟨g, 0, none⟩), .int .i64 n, .int .i64 id, .int .i64 lo, .int .i64 hi] w (SrTableR B g n id lo hi w) := by
  have H := Lib.hid h
  have HGW := Lib.hid (show g < w.heap.size from h.2.1)
  have k1 := RT.start w none 0 0 none 0 0 35
  have k2 := RT.start (w.alloc (.cells #[.slice none 0 0, .slice none 0 0] 35)) none 0 0 none 0 0 35
  rw [show (w.alloc (.cells #[.slice none 0 0, .slice none 0 0] 35)).heap.size = w.heap.size + 1 by simp] at k2
  have HT0 := Lib.hid (show TaAt w B g w.heap.size (w.heap.size + 1) none 0 [] none 0 [] ((w.alloc (.cells #[.slice none 0 0, .slice none 0 0] 35)).alloc (.cells #[.slice none 0 0, .slice none 0 0] 35)) from
    ⟨k1.below ((Below.refl _ _).alloc (Nat.le_refl _) _) k1.lt, k2, El.nil, Dl.nil, (h.alloc _).alloc _, only_alloc (only_alloc (World.grownBy.refl w (some g)) _) _, ⟨nw_none, nw_none⟩, h.2.1, Nat.le_refl _, Nat.lt_succ_self _⟩)
  clear h k1 k2
  go_enter Tryz.func72, Tryz.ntmps72
  go_wp2_with fail
  obtain ⟨r, hr⟩ : ∃ r, r = w.heap.size := ⟨_, rfl⟩
  obtain ⟨y, hy⟩ : ∃ y, y = w.heap.size + 1 := ⟨_, rfl⟩
  rw [← hy, ← hr] at HT0 ⊢
  clear hr hy
  generalize ((w.alloc (.cells #[.slice none 0 0, .slice none 0 0] 35)).alloc (.cells #[.slice none 0 0, .slice none 0 0] 35)) = w1 at *
  refine (n_any B g _ HT0.out.src (n + 1) (by omega) (by omega)).mono ?_
  rintro e w2 ⟨j, rfl, j0, j1, hs, hg⟩
  obtain ⟨j, rfl⟩ := Int.eq_ofNat_of_zero_le j0
  have HT1 := Lib.hid (HT0.out.grownG hs hg)
  clear hs hg j0
  go_wp2
  go_loopw [2, 12] (fun idv iv wr => ∃ (j : Nat) (x : Int) (A : Option Addr) (c : Nat) (l : List Le) (A2 : Option Addr) (c2 : Nat) (h : List Du), iv = .int .i64 j ∧ idv = .int .i64 x ∧ (j : Int) ≤ n ∧ 1 ≤ x ∧ x + 3 * (j : Int) ≤ 1000036 ∧ Hid (TaAt w B g r y A c l A2 c2 h wr) ∧ Hid (TbOk l h) ∧ id ≤ x ∧ (l.length : Int) + j ≤ n ∧ Hid (∀ y ∈ l, id ≤ y.m.id ∧ lo ≤ y.m.rt ∧ y.m.rt ≤ hi)) (fun _ iv _ => (intOf iv).toNat)
  case atStart => exact ⟨j, id, none, 0, [], none, 0, [], rfl, rfl, by omega, i1, by omega, HT1, Lib.hid TbOk.nil, Int.le_refl _, by simp; omega, Lib.hid (fun y hy => by cases hy)⟩
  case round =>
    clear HT0 HT1
    obtain ⟨j, x, A, c, l, A2, c2, h, rfl, rfl, hj, x1, x2, HT, HOK, hx0, hln, HIN⟩ := hrel
    by_cases hj0 : 0 < j
    · have hj0' : (0 : Int) < (j : Int) := by omega
      go_wp2_with fail
      refine (message_any B g _ HT.out.src x lo hi).mono ?_
      rintro e w3 ⟨M, rfl, m0, m1, -, -, -, -, -, hs, hg⟩
      have HMM := Lib.hid (And.intro m0 (msg_rt m1 l0 l1 l2))
      clear m0 m1
      have HT3 := Lib.hid (HT.out.grownG hs hg)
      clear hs hg
      go_wp2
      obtain ⟨N, hN⟩ : ∃ N : Msg, N = ⟨M.id, M.rt, M.ep, M.ct, max M.gn 1, M.st, M.bd⟩ := ⟨_, rfl⟩
      have HNM := Lib.hid (show id ≤ N.id ∧ lo ≤ N.rt ∧ N.rt ≤ hi by rw [hN]; have h1 := HMM.out.1; have h2 := HMM.out.2; exact ⟨by show id ≤ M.id; omega, h2.1, h2.2⟩)
      have HZ0 := Lib.hid (RMs.start w3 N 66)
      have HT4 := Lib.hid (HT3.out.below ((Below.refl w3.heap.size w3).alloc (Nat.le_refl _) (.cells #[.int .i64 N.id, .int .i64 N.rt, .int .i64 N.ep, .int .i64 N.ct, .int .i64 N.gn, .int .i64 N.st, .string N.bd] 66)))
      rw [show M.id = N.id by rw [hN], show M.rt = N.rt by rw [hN], show M.ep = N.ep by rw [hN], show M.ct = N.ct by rw [hN], show max M.gn 1 = N.gn by rw [hN], show M.st = N.st by rw [hN], show M.bd = N.bd by rw [hN]]
      obtain ⟨z, hz⟩ : ∃ z, z = w3.heap.size := ⟨_, rfl⟩
      have HZG := Lib.hid (show z ≠ g by have := HT3.out.src.2.1; omega)
      rw [← hz] at HZ0 ⊢
      clear hz hN HT HT3
      generalize w3.alloc (.cells #[.int .i64 N.id, .int .i64 N.rt, .int .i64 N.ep, .int .i64 N.ct, .int .i64 N.gn, .int .i64 N.st, .string N.bd] 66) = w4 at *
      obtain ⟨z0, z1, z2, z3, z4, z5, z6, -, -, -, -, -, -, -, zl⟩ := HZ0.out
      obtain ⟨y0, y1, yf0, yf1, yl⟩ := HT4.out.rb
      go_region_with
        (first
        | (go_at_call 8; (with_reducible refine (n_any B g _ HT4.out.drew.src 30 (by omega) (by omega)).mono ?_); rintro e w5 ⟨xx, rfl, -, -, hs, hg⟩; have HT5 := Lib.hid (HT4.out.drew.grownG hs hg); obtain ⟨q0, q1, q2, q3, q4, q5, q6, -, -, -, -, -, -, -, ql⟩ := RMs.grownG (W := w4.drew) HZ0.out hg HZG.out; obtain ⟨p0, p1, pf0, pf1, pl⟩ := HT5.out.rb; have HGR := Lib.hid (rtgrant_any A l.length c l A2 h.length c2 h ⟨N, xx⟩ w5 HT5.out.el HT5.out.dl); have HOK5 := Lib.hid (tb_gr HOK.out ⟨N, xx⟩); have HIN5 := Lib.hid (gr_in HIN.out (x := ⟨N, xx⟩) HNM.out (h := h)); have HLE5 := Lib.hid (gr_le l h ⟨N, xx⟩); clear hs hg)
        | (go_at_call 96; (with_reducible refine HGR.out.mono ?_); rintro e w6 ⟨A6, c6, A7, c7, rfl, n6, n7, h6, h7, hb⟩; have HT6 := Lib.hid (HT5.out.store n6 n7 hb h6 h7); obtain ⟨s0, s1, sf0, sf1, sl⟩ := (HT5.out.below hb).rb; clear n6 n7 h6 h7 hb))
      all_goals
        clear z0 z1 z2 z3 z4 z5 z6 zl y0 y1 yf0 yf1 yl q0 q1 q2 q3 q4 q5 q6 ql p0 p1 pf0 pf1 pl s0 s1 sf0 sf1 sl
        go_wp2_with fail
        refine (range_any B g _ HT6.out.src 1 3 (by omega) (by omega) (by omega)).mono ?_
        rintro e w7 ⟨d, rfl, d1, d2, hs, hg⟩
        have HT7 := Lib.hid (HT6.out.grownG hs hg)
        clear hs hg
        go_wp2
        go_roundw
        case rel => exact ⟨j - 1, x + d, A6, c6, _, A7, c7, _, by rw [show ((j - 1 : Nat) : Int) = (j : Int) - 1 by omega], rfl, by omega, by omega, by omega, HT7, HOK5, by omega, by have := HLE5.out; omega, HIN5⟩
        case measure => simp [intOf]; omega
    · obtain rfl : j = 0 := by omega
      obtain ⟨y0, y1, yf0, yf1, yl⟩ := HT.out.rb
      obtain ⟨r0, r1, rf0, rf1, rl⟩ := HT.out.rs
      have hyr : ¬ y = r := by have := HT.out.ne; omega
      have hry : ¬ r = y := fun e => hyr e.symm
      have HF := Lib.hid (show SrTableR B g n id lo hi w (.returned (.agg #[.slice A l.length c, .slice A2 h.length c2])) (set2 wr r (.slice A l.length c) (.slice A2 h.length c2)) from by
        have hne := HT.out.ne
        have hB := HT.out.src.1
        exact ⟨A, c, A2, c2, l, h, rfl, HOK.out, by omega, HIN.out, nw_low HT.out.nw.1 (by omega), nw_low HT.out.nw.2 (by omega), (HT.out.el.set2 HT.out.nw.1 (by omega)).more (by simp), (HT.out.dl.set2 HT.out.nw.2 (by omega)).more (by simp),
          (HT.out.src.other (p := ⟨r, 0, none⟩) (show r ≠ g by omega) (show B ≤ r by omega) _).other (p := ⟨r, 1, none⟩) (show r ≠ g by omega) (show B ≤ r by omega) _,
          only_set (only_set HT.out.grow (p := ⟨r, 0, none⟩) (.inr (show w.heap.size ≤ r by omega)) _) (p := ⟨r, 1, none⟩) (.inr (show w.heap.size ≤ r by omega)) _⟩)
      go_wp2
      exact bodyPost_ret (v := .agg #[.slice A l.length c, .slice A2 h.length c2]) (by simp only [results, Tryz.results72]; go_simp <;> rfl) rfl HF.out
end Go.Proofs.YtdilgeabcacbdaaGreat
namespace Go.Proofs.YtdilgeabcacbdaaGreat
open Go.RowKit
set_option linter.unusedVariables false

/-- A value that is a slice, reads as the numbers zs and lies below B. -/
def Ns (w : World) (B : Nat) (v : Value) (zs : List Int) : Prop := ∃ A c, v = .slice A zs.length c ∧ zs.length ≤ c ∧ c ≤ maxLen ∧ Rd w B 1 A zs.length (zs.map i64v) ∧ ∀ z ∈ zs, -9223372036854775808 ≤ z ∧ z ≤ 9223372036854775807

section
variable {w w' : World} {B B' : Nat} {v : Value} {zs : List Int}
theorem Ns.nil : Ns w B (.slice none 0 0) [] := ⟨none, 0, rfl, Nat.le_refl _, Nat.zero_le _, Rd.nil none, by simp⟩
theorem Ns.below (h : Ns w B v zs) (hb : Below B w w') : Ns w' B v zs := by
  obtain ⟨A, c, e, hl, hm, h, hz⟩ := h; exact ⟨A, c, e, hl, hm, h.below hb, hz⟩
theorem Ns.parts {A : Option Addr} {n c : Nat} (h : Ns w B (.slice A n c) zs) : n = zs.length ∧ n ≤ c ∧ c ≤ maxLen ∧ Rd w B 1 A n (zs.map i64v) ∧ ∀ z ∈ zs, -9223372036854775808 ≤ z ∧ z ≤ 9223372036854775807 := by
  obtain ⟨A', c', e, hl, hm, h, hz⟩ := h
  injection e with e1 e2 e3
  subst e1; subst e2; subst e3
  exact ⟨rfl, hl, hm, h, hz⟩
/-- From the way in which the guide opens a slice of numbers that came in. -/
theorem Ns.of_cells {a : Addr} {l c : Nat} {zs : List Int} (hl : l ≤ c) (hm : c ≤ maxLen) (hz : zs.length = c) (hc : ∀ i, i < zs.length → w.cell? (a.add i) = some (.int .i64 (zs.getD i 0))) (hw : ∀ n ∈ zs, (Lit.int .i64 n).wf = true) :
    ∃ ys, Ns w w.heap.size (.slice (some a) l c) ys := by
  have hlen : (zs.take l).length = l := by simp; omega
  refine ⟨zs.take l, some a, c, by rw [hlen], by omega, hm, ⟨by simp, fun hn => ?_⟩, fun z hz' => ?_⟩
  · rw [hlen] at hn
    obtain ⟨b, o, spot⟩ := a
    have h0 := hc 0 (by omega)
    have hspot : spot = none := by simpa [Addr.add] using World.cell?_spot h0
    subst hspot
    refine ⟨b, o, rfl, World.block_lt_of_cell? w ⟨b, o, none⟩ (by simpa [Addr.add] using h0), fun j u hu => ?_⟩
    simp only [List.getElem?_map, Option.map_eq_some_iff] at hu
    obtain ⟨x, hx, rfl⟩ := hu
    obtain ⟨hj, rfl⟩ := List.getElem?_eq_some_iff.1 hx
    have hj' : j < zs.length := by simp at hj; omega
    have h := hc j hj'
    rw [add_mk] at h
    rw [h]
    simp [i64v, List.getD, hj']
  · have := hw z (List.mem_of_mem_take hz')
    simp only [Lit.wf, Bool.and_eq_true, decide_eq_true_eq] at this
    exact this
end
end Go.Proofs.YtdilgeabcacbdaaGreat
namespace Go.Proofs.YtdilgeabcacbdaaGreat
open Go.RowKit
set_option linter.unusedVariables false

/-- A new source. -/
def SrNew (w : World) (e : Ending) (w' : World) : Prop := ∃ g, e = .returned (.pointer (some ⟨g, 0, none⟩)) ∧ SrcAt w' w.heap.size g ∧ Below w.heap.size w w'

theorem src_new (w : World) (A : Option Addr) (n c : Nat) (zs : List Int) (t : TypeId) (h : Rd w w.heap.size 1 A n (zs.map i64v)) (hn : n ≤ 4000) (hc : n ≤ c) (hm : c ≤ maxLen) (hz : ∀ z ∈ zs, -9223372036854775808 ≤ z ∧ z ≤ 9223372036854775807) :
    SrNew w (.returned (.pointer (some ⟨w.heap.size, 0, none⟩))) (w.alloc (.cells #[.slice A n c, .int .i64 0] t)) :=
  ⟨_, rfl, ⟨Nat.le_refl _, by simp, A, n, c, 0, zs, by omega, hn, hc, hm, by simp [go_sem], by simp [go_sem], by simp [go_sem], h.alloc (Nat.le_refl _) _, hz⟩, (Below.refl _ _).alloc (Nat.le_refl _) _⟩

theorem new_src (A : Option Addr) (n c : Nat) (zs : List Int) (w : World) (h : Ns w w.heap.size (.slice A n c) zs) : Calls Tryz.prog 6 #[.slice A n c] w (SrNew w) := by
  obtain ⟨hn, hc, hm, hr, hz⟩ := h.parts
  by_cases h4 : (4000 : Int) < (n : Int)
  · have ht' : Tryz.prog.underlying 22 = some (.slice (Tryz.prog.elem 22)) := by kernel_rfl
    have he : Tryz.prog.elem 22 = 3 := by kernel_rfl
    have hz8 : ∀ w, (Go.sizeOf 3).run Tryz.prog w = .ok 1 w := Tryz.sizeOf3
    have hcut : ∀ W, (Instr.slice 22 (.slice A n c) none (some (.int .i64 4000)) none).run Tryz.prog W = .ok (.slice A 4000 c) W := fun W => by
      have hq := run_slice_h W 22 A n c ht' .i64 4000 (by omega) (by omega)
      rw [hq, he, hz8]
      cases A <;> simp [Result.andThen, sliced, Addr.add]
    have hr4 : Rd w w.heap.size 1 A 4000 ((zs.take 4000).map i64v) := by
      have hlen : zs.length = n := hn.symm
      refine ⟨by simp; omega, fun h0 => ?_⟩
      obtain ⟨b, o, rfl, hb, hcc⟩ := hr.2 (by omega)
      refine ⟨b, o, rfl, hb, fun k u hu => hcc k u ?_⟩
      have hk : k < 4000 := by
        have := (List.getElem?_eq_some_iff.1 hu).1
        simp at this; omega
      rw [← hu, List.map_take, List.getElem?_take_of_lt hk]
    have HN := Lib.hid (src_new w A 4000 c (zs.take 4000) 54 hr4 (by omega) (by omega) hm (fun z hz' => hz z (List.mem_of_mem_take hz')))
    clear h hn hc hm hr hz hr4 hz8 he ht'
    go_enter Tryz.func6, Tryz.ntmps6
    go_wp2
    go_ret
    exact HN.out
  · have HN := Lib.hid (src_new w A n c zs 54 hr (by omega) hc hm hz)
    clear h hn hc hm hr hz
    go_enter Tryz.func6, Tryz.ntmps6
    go_wp2
    go_ret
    exact HN.out
end Go.Proofs.YtdilgeabcacbdaaGreat
