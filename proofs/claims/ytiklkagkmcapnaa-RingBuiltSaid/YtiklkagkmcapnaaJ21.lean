/- What is proved here: RingOf of the statements' base makes a valid ring; Ring of the statements' base makes a valid ring; shardqueueref03.Without by a contract. -/
import Derived.Test.YtiklkagkmcapnaaJ18
import Derived.Test.YtiklkagkmcapnaaJ20
import Derived.Test.YtiklkagkmcapnaaJ12
import Derived.Test.YtiklkagkmcapnaaJ07
namespace Go.Proofs.Ytiklkagkmcapnaa
open Go.RowKit
set_option linter.unusedVariables false

/-- Nothing is said of a world. -/
def TruR (_ : World) : Prop := True
/-- The work of RingOf: a ring in a block, the result, the source. -/
structure RoAt (w : World) (B g r y : Nat) (A : Option Addr) (k c hd : Nat) (L : List Msg) (W : World) : Prop where
  rb : RB W y A k c hd L.length
  rs : RB W r none 0 0 0 0
  ls : Ls W W.heap.size (.slice A k c) (fil k hd L)
  src : SrcAt W B g
  grow : w.grownBy W (some g)
  nw : Nw (r + 1) A
  offy : Off y A
  old : w.heap.size ≤ r ∧ r < y ∧ g < w.heap.size ∧ B ≤ g
section
variable {w W W' : World} {B g r y k c hd : Nat} {A : Option Addr} {L : List Msg}
theorem RoAt.drew (h : RoAt w B g r y A k c hd L W) : RoAt w B g r y A k c hd L W.drew := ⟨h.rb.drew, h.rs.drew, h.ls, h.src, only_drew h.grow, h.nw, h.offy, h.old⟩
theorem RoAt.below (h : RoAt w B g r y A k c hd L W) (hb : Below W.heap.size W W') : RoAt w B g r y A k c hd L W' :=
  ⟨h.rb.below hb h.rb.lt, h.rs.below hb h.rs.lt, (h.ls.below hb).more hb.size, h.src.below hb, only_below h.grow hb, h.nw, h.offy, h.old⟩
theorem RoAt.grownG (h : RoAt w B g r y A k c hd L W) (hs : SrcAt W' B g) (hg : W.grownBy W' (some g)) : RoAt w B g r y A k c hd L W' :=
  ⟨h.rb.grownG hg (by have := h.old; omega), h.rs.grownG hg (by have := h.old; omega), (h.ls.grownG hg (Nat.le_refl _) (off_nw h.nw (by have := h.old; omega))).more hg.size, hs, h.grow.trans hg, h.nw, h.offy, h.old⟩
/-- A new ring is stored. -/
theorem RoAt.store {W1 : World} {A1 : Option Addr} {c1 hd1 : Nat} {L1 : List Msg} (h : RoAt w B g r y A k c hd L W) (hb : Below W.heap.size W W1) (hnw : Nw W.heap.size A1) (hl : Ls W1 W1.heap.size (.slice A1 k c1) (fil k hd1 L1)) (z : Int) (hz : z = (L1.length : Int)) : RoAt w B g r y A1 k c1 hd1 L1 (((W1.setCell ⟨y, 0, none⟩ (.slice A1 k c1)).setCell ⟨y, 1, none⟩ (.int .i64 hd1)).setCell ⟨y, 2, none⟩ (.int .i64 z)) := by
  subst hz
  have h1 := h.below hb
  have hy : y < W.heap.size := h.rb.lt
  have hyr : y ≠ r := by have := h.old; omega
  have hyg : y ≠ g := by have := h.old; omega
  have hyB : B ≤ y := by have := h.old; omega
  refine ⟨((h1.rb.setA A1 k c1).setH hd1).setS L1.length, h1.rs.set3' hyr _ _ _, ?_, ((h1.src.other (p := ⟨y, 0, none⟩) hyg hyB _).other (p := ⟨y, 1, none⟩) hyg hyB _).other (p := ⟨y, 2, none⟩) hyg hyB _, only_set (only_set (only_set h1.grow (.inr (by show w.heap.size ≤ y; have := h.old; omega)) _) (.inr (by show w.heap.size ≤ y; have := h.old; omega)) _) (.inr (by show w.heap.size ≤ y; have := h.old; omega)) _, nw_low hnw (by have := h.old; omega), off_nw hnw hy, h.old⟩
  have := (hl.off3 hnw hy (.slice A1 k c1) (.int .i64 hd1) (.int .i64 L1.length))
  simpa using this
theorem RoAt.s3 (h : RoAt w B g r y A k c hd L W) : W.cell? ⟨y, 0, none⟩ = some (.slice A k c) ∧ W.cell? ⟨y, 1, none⟩ = some (.int .i64 hd) ∧ W.cell? ⟨y, 2, none⟩ = some (.int .i64 L.length) := ⟨h.rb.c0, h.rb.c1, h.rb.c2⟩
end
theorem ro_end {w W : World} {B g r y k c hd : Nat} {A : Option Addr} {L : List Msg} (h : RoAt w B g r y A k c hd L W) : Nw w.heap.size A ∧ Ls (((W.setCell ⟨r, 0, none⟩ (.slice A k c)).setCell ⟨r, 1, none⟩ (.int .i64 hd)).setCell ⟨r, 2, none⟩ (.int .i64 L.length)) (((W.setCell ⟨r, 0, none⟩ (.slice A k c)).setCell ⟨r, 1, none⟩ (.int .i64 hd)).setCell ⟨r, 2, none⟩ (.int .i64 L.length)).heap.size (.slice A k c) (fil k hd L) ∧ SrcAt (((W.setCell ⟨r, 0, none⟩ (.slice A k c)).setCell ⟨r, 1, none⟩ (.int .i64 hd)).setCell ⟨r, 2, none⟩ (.int .i64 L.length)) B g ∧ w.grownBy (((W.setCell ⟨r, 0, none⟩ (.slice A k c)).setCell ⟨r, 1, none⟩ (.int .i64 hd)).setCell ⟨r, 2, none⟩ (.int .i64 L.length)) (some g) := by
  have hrg : r ≠ g := by have := h.old; omega
  have hrB : B ≤ r := by have := h.old; omega
  have hrw : w.heap.size ≤ r := h.old.1
  refine ⟨nw_low h.nw (by omega), ?_, ((h.src.other (p := ⟨r, 0, none⟩) hrg hrB _).other (p := ⟨r, 1, none⟩) hrg hrB _).other (p := ⟨r, 2, none⟩) hrg hrB _, only_set (only_set (only_set h.grow (p := ⟨r, 0, none⟩) (.inr hrw) _) (p := ⟨r, 1, none⟩) (.inr hrw) _) (p := ⟨r, 2, none⟩) (.inr hrw) _⟩
  have := h.ls.off3 h.nw (Nat.lt_succ_self r) (.slice A k c) (.int .i64 hd) (.int .i64 L.length)
  simpa using this
theorem rpback_good (A : Option Addr) (c k hd : Nat) (L : List Msg) (M : Msg) (w : World) (k1 : 1 ≤ k) (k2 : k ≤ 12) (hh : hd < k) (hl : L.length < k) (hg : Gd L) (hM : vf M = 0) (hi : ∀ N ∈ L, N.id ≠ M.id) (hv : Ls w w.heap.size (.slice A k c) (fil k hd L)) :
    Calls Try.prog 34 #[.agg #[.slice A k c, .int .i64 hd, .int .i64 L.length], M.v] w (RP w (fil k hd (L ++ [M])) hd ((L.length : Int) + 1) 0) := by
  have := rpback_any A k c (fil k hd L) hd L.length M w hv
  rw [puE_fil k1 k2 hh hl hg hM hi, pbC_fil k1 k2 hh hl hg hM hi] at this
  simpa [ifE] using this
theorem rpfront_good (A : Option Addr) (c k hd : Nat) (L : List Msg) (M : Msg) (w : World) (k1 : 1 ≤ k) (k2 : k ≤ 12) (hh : hd < k) (hl : L.length < k) (hg : Gd L) (hM : vf M = 0) (hi : ∀ N ∈ L, N.id ≠ M.id) (hv : Ls w w.heap.size (.slice A k c) (fil k hd L)) :
    Calls Try.prog 35 #[.agg #[.slice A k c, .int .i64 hd, .int .i64 L.length], M.v] w (RP w (fil k ((hd + (k - 1)) % k) (M :: L)) ((hd + (k - 1)) % k : Nat) ((L.length : Int) + 1) 0) := by
  have := rpfront_any A k c (fil k hd L) hd L.length M w hv
  rw [puE_fil k1 k2 hh hl hg hM hi, (pfC_fil k1 k2 hh hl hg hM hi).1, (pfC_fil k1 k2 hh hl hg hM hi).2] at this
  simpa [ifE] using this

set_option maxHeartbeats 8000000 in
set_option maxRecDepth 20000 in
theorem ringof_any (B g : Nat) (w : World) (h : SrcAt w B g) (k : Nat) (n id lo hi : Int) (k1 : 1 ≤ k) (k2 : k ≤ 12) (n0 : 0 ≤ n) (n1 : n ≤ 12) (i1 : 1 ≤ id) (i2 : id ≤ 1000000) (l0 : 0 ≤ lo) (l1 : lo ≤ hi) (l2 : hi ≤ 65535) :
    Calls Try.prog 41 #[.pointer (some ⟨g, 0, none⟩), .int .i64 k, .int .i64 n, .int .i64 id, .int .i64 lo, .int .i64 hi] w (SrRing B g n id w) := by
  have H := Lib.hid h
  have HN := Lib.hid (fun w => rnew4_any (k : Int) w)
  have HNC := Lib.hid (fun hd hh => nwC_fil k1 k2 hd hh)
  have hnl : (nwC (k : Int)).length = k := by rw [(nwC_fil k1 k2 0 (by omega)).1, fil_len]
  rw [(nwC_fil k1 k2 0 (by omega)).2] at HN
  have HNL := Lib.hid hnl
  have HGW := Lib.hid (show g < w.heap.size from h.2.1)
  have HBG := Lib.hid (show B ≤ g from h.1)
  have k1' : (1 : Int) ≤ (k : Int) := by omega
  have k2' : (k : Int) ≤ 12 := by omega
  clear h hnl
  generalize nwC (k : Int) = cs at *
  go_enter Try.func41, Try.ntmps41
  go_wp2_with fail
  have HR0 := Lib.hid (RB.fresh w none 0 0 0 0 24)
  obtain ⟨r, hr⟩ : ∃ r, r = w.heap.size := ⟨_, rfl⟩
  have HRR := Lib.hid hr
  rw [← hr] at HR0 ⊢
  clear hr
  refine (HN.out _).mono ?_
  rintro e w1 ⟨A1, c1, rfl, hnw, hl, hb⟩
  rw [HNL.out] at hl ⊢
  have HL1 := Lib.hid hl
  have HA1 := Lib.hid (show Nw (r + 1) A1 from nw_low hnw (by have := HRR.out; simp; omega))
  have HR1 := Lib.hid (HR0.out.below hb HR0.out.lt)
  have HS1 := Lib.hid ((H.out.alloc _).below hb)
  have HG1 := Lib.hid (only_below (only_alloc (World.grownBy.refl w (some g)) _) hb)
  have HY1 := Lib.hid (RB.fresh w1 A1 k c1 0 0 24)
  clear hnw hl hb
  go_wp2_with fail
  obtain ⟨y, hy⟩ : ∃ y, y = w1.heap.size := ⟨_, rfl⟩
  have HYY := Lib.hid hy
  rw [← hy] at HY1 ⊢
  clear hy
  refine (n_any B g _ (HS1.out.alloc _) k (by omega) (by omega)).mono ?_
  rintro e w2 ⟨hd, rfl, hd0, hd1, hs, hg⟩
  obtain ⟨hd, rfl⟩ := Int.eq_ofNat_of_zero_le hd0
  have HS2 := Lib.hid hs
  have HG2 := Lib.hid hg
  have HYG := Lib.hid (show y ≠ g by have := HYY.out; have := HS1.out.2.1; omega)
  have HRG := Lib.hid (show r ≠ g by have := HRR.out; have := HGW.out; omega)
  have HY2 := Lib.hid (HY1.out.grownG hg HYG.out)
  have HR2 := Lib.hid ((HR1.out.alloc (.cells #[.slice A1 k c1, .int .i64 0, .int .i64 0] 24)).grownG hg HRG.out)
  have HL2 := Lib.hid ((HL1.out.alloc (Nat.le_refl _) (.cells #[.slice A1 k c1, .int .i64 0, .int .i64 0] 24)).grownG hg (by simp) (off_nw HA1.out (by have := HRR.out; have := HGW.out; omega)))
  obtain ⟨r0, r1, r2, r3, r4, r5, hpl⟩ := HY2.out.facts
  clear hs hg
  go_wp2_with fail
  obtain ⟨mn, hmn⟩ : ∃ mn, mn = min n (k : Int) := ⟨_, rfl⟩
  rw [← hmn]
  have HMN := Lib.hid hmn
  have hm0 : 0 ≤ mn := by omega
  have hm1 : mn ≤ 12 := by omega
  have hmk : mn ≤ (k : Int) := by omega
  have hhd : hd < k := by omega
  have HFC := Lib.hid (HNC.out hd hhd).1
  have HOY := Lib.hid (off_ls HL1.out (by rw [HNL.out]; omega) (b := y) (by rw [HYY.out]; exact Nat.le_refl _))
  have HY0 := Lib.hid (show r < y by have := HYY.out; have := HR1.out.lt; omega)
  have HRO := Lib.hid (RoAt.mk (w := w) (B := B) (g := g) (L := []) (HY2.out.setH hd) (HR2.out.other (a := ⟨y, 1, none⟩) (show y ≠ r by have := HY0.out; omega) (.int .i64 hd)) (by rw [← HFC.out]; have := ((HL2.out.off' (p := ⟨y, 1, none⟩) HOY.out (.int .i64 hd)).more (show w1.heap.size ≤ (w2.setCell ⟨y, 1, none⟩ (.int .i64 hd)).heap.size by have := HG2.out.size; simp at this ⊢; omega)); exact this) (HS2.out.other (p := ⟨y, 1, none⟩) HYG.out (by have := HRR.out; have := HGW.out; have := HBG.out; have := HY0.out; show B ≤ y; omega) (.int .i64 hd)) (only_set ((only_alloc HG1.out _).trans HG2.out) (p := ⟨y, 1, none⟩) (.inr (by show w.heap.size ≤ y; have := HRR.out; have := HY0.out; omega)) (.int .i64 hd)) HA1.out HOY.out ⟨by have := HRR.out; omega, HY0.out, HGW.out, HBG.out⟩)
  clear r0 r1 r2 r3 r4 r5 hpl hmn HNC
  refine (n_any B g _ HRO.out.src (mn + 1) (by omega) (by omega)).mono ?_
  rintro e w4 ⟨j, rfl, j0, j1, hs, hg⟩
  obtain ⟨j, rfl⟩ := Int.eq_ofNat_of_zero_le j0
  have HR4 := Lib.hid (HRO.out.grownG hs hg)
  clear hs hg
  go_wp2
  go_loopw [3, 15] (fun idv iv wr => ∃ (j : Nat) (A : Option Addr) (c hd : Nat) (L : List Msg), iv = .int .i64 j ∧ idv = .int .i64 (id + L.length) ∧ RoAt w B g r y A k c hd L wr ∧ hd < k ∧ (L.length : Int) + j ≤ mn ∧ Gd L ∧ ∀ M ∈ L, id ≤ M.id ∧ M.id < id + L.length) (fun _ iv _ => (intOf iv).toNat)
  case atStart => exact ⟨j, A1, c1, hd, [], rfl, by simp, HR4.out, hhd, by simp; omega, gd_nil, by simp⟩
  case round =>
    obtain ⟨j, A, c, hd, L, rfl, rfl, hro, hhk, hjm, hgd, hids⟩ := hrel
    have HR := Lib.hid hro
    clear hro
    by_cases hj : 0 < j
    · have hlk : L.length < k := by omega
      have hL12 : (L.length : Int) ≤ 12 := by omega
      go_wp2_with fail
      refine (n_any B g _ HR.out.src 2 (by omega) (by omega)).mono ?_
      rintro e w5 ⟨x, rfl, x0, x1, hs, hg⟩
      have HR5 := Lib.hid (HR.out.grownG hs hg)
      clear hs hg
      by_cases hx : x = 0
      · subst hx
        have HGD := Lib.hid hgd
        have HID := Lib.hid hids
        obtain ⟨r0, r1, r2, r3, r4, r5, hpl⟩ := HR5.out.rb.facts
        clear hgd hids
        go_wp2
        go_region_with
          (first
          | (go_at_call 18; (with_reducible refine (message_any B g _ (HR5.out.drew.src) (id + L.length) lo hi).mono ?_); rintro e w6 ⟨M, rfl, m0, m1, m2, m3, m4, m5, m6, hs, hg⟩; have HM := Lib.hid (msg_ok m0 m1 m2 m3 m4 m5 m6 (by omega) (by omega) l0 l1 l2); have HMI := Lib.hid m0; have HR6 := Lib.hid (HR5.out.drew.grownG hs hg); obtain ⟨q0, q1, q2, q3, q4, q5, hql⟩ := HR6.out.rb.facts; have HPB := Lib.hid (rpback_good A c k hd L M w6 k1 k2 hhk hlk HGD.out HM.out (fun N hN => by have := (HID.out N hN).2; have := HMI.out; omega) HR6.out.ls); clear m0 m1 m2 m3 m4 m5 m6 hs hg)
          | (go_at_call 34; (with_reducible refine HPB.out.mono ?_); rintro e w7 ⟨A7, c7, rfl, hnw, hl, hb⟩; rw [fil_len] at hl ⊢; have HR7 := Lib.hid (HR6.out.store hb hnw hl ((L.length : Int) + 1) (by simp)); obtain ⟨t0, t1, t2, t3, t4, t5, htl⟩ := (HR6.out.below hb).rb.facts; clear hnw hl hb))
        all_goals
          have HGE := Lib.hid (gd_back HGD.out HM.out (fun N hN => by have := (HID.out N hN).2; have := HMI.out; omega))
          have HIE := Lib.hid (show ∀ N ∈ L ++ [M], id ≤ N.id ∧ N.id < id + (L ++ [M]).length from fun N hN => by
            rcases List.mem_append.1 hN with h | h
            · have := HID.out N h; simp; omega
            · rw [List.mem_singleton.1 h]; have := HMI.out; simp; omega)
          clear q0 q1 q2 q3 q4 q5 hql t0 t1 t2 t3 t4 t5 htl r0 r1 r2 r3 r4 r5 hpl
          go_wp2
          go_roundw
          case rel => exact ⟨j - 1, A7, c7, hd, L ++ [M], by rw [show ((j - 1 : Nat) : Int) = (j : Int) - 1 by omega], by simp; omega, HR7.out, hhk, by simp; omega, HGE.out, HIE.out⟩
          case measure => simp [intOf]; omega
      · have hx' : (x == 0) = false := beq_eq_false_iff_ne.2 hx
        have HGD := Lib.hid hgd
        have HID := Lib.hid hids
        obtain ⟨r0, r1, r2, r3, r4, r5, hpl⟩ := HR5.out.rb.facts
        clear hgd hids
        go_wp2
        go_region_with
          (first
          | (go_at_call 18; (with_reducible refine (message_any B g _ (HR5.out.drew.src) (id + L.length) lo hi).mono ?_); rintro e w6 ⟨M, rfl, m0, m1, m2, m3, m4, m5, m6, hs, hg⟩; have HM := Lib.hid (msg_ok m0 m1 m2 m3 m4 m5 m6 (by omega) (by omega) l0 l1 l2); have HMI := Lib.hid m0; have HR6 := Lib.hid (HR5.out.drew.grownG hs hg); obtain ⟨q0, q1, q2, q3, q4, q5, hql⟩ := HR6.out.rb.facts; have HPB := Lib.hid (rpfront_good A c k hd L M w6 k1 k2 hhk hlk HGD.out HM.out (fun N hN => by have := (HID.out N hN).2; have := HMI.out; omega) HR6.out.ls); clear m0 m1 m2 m3 m4 m5 m6 hs hg)
          | (go_at_call 35; (with_reducible refine HPB.out.mono ?_); rintro e w7 ⟨A7, c7, rfl, hnw, hl, hb⟩; rw [fil_len] at hl ⊢; have HR7 := Lib.hid (HR6.out.store hb hnw hl ((L.length : Int) + 1) (by simp)); obtain ⟨t0, t1, t2, t3, t4, t5, htl⟩ := (HR6.out.below hb).rb.facts; clear hnw hl hb))
        all_goals
          have HGE := Lib.hid (gd_front HGD.out HM.out (fun N hN => by have := (HID.out N hN).2; have := HMI.out; omega))
          have HIE := Lib.hid (show ∀ N ∈ M :: L, id ≤ N.id ∧ N.id < id + (M :: L).length from fun N hN => by
            rcases List.mem_cons.1 hN with h | h
            · rw [h]; have := HMI.out; simp; omega
            · have := HID.out N h; simp; omega)
          clear q0 q1 q2 q3 q4 q5 hql t0 t1 t2 t3 t4 t5 htl r0 r1 r2 r3 r4 r5 hpl
          go_wp2
          go_roundw
          case rel => exact ⟨j - 1, A7, c7, (hd + (k - 1)) % k, M :: L, by rw [show ((j - 1 : Nat) : Int) = (j : Int) - 1 by omega], by simp; omega, HR7.out, Nat.mod_lt _ (by omega), by simp; omega, HGE.out, HIE.out⟩
          case measure => simp [intOf]; omega
    · obtain rfl : j = 0 := by omega
      obtain ⟨r0, r1, r2, r3, r4, r5, hpl⟩ := HR.out.rb.facts
      obtain ⟨t0, t1, t2, t3, t4, t5, htl⟩ := HR.out.rs.facts
      have hyr : y ≠ r := by have := HY0.out; omega
      have hry : r ≠ y := fun e => hyr e.symm
      have HE := Lib.hid (ro_end HR.out)
      have HN1 := Lib.hid (show (L.length : Int) ≤ n by have := HMN.out; omega)
      have HGD := Lib.hid hgd
      have HID := Lib.hid hids
      clear hgd hids
      go_wp2
      exact bodyPost_ret (v := .agg #[.slice A k c, .int .i64 hd, .int .i64 L.length]) (by simp only [results, Try.results41]; go_simp <;> rfl) rfl ⟨A, c, k, hd, L, rfl, HE.out.1, HE.out.2.1, k1, k2, hhk, by omega, HN1.out, HGD.out, HID.out, HE.out.2.2.1, HE.out.2.2.2⟩
end Go.Proofs.Ytiklkagkmcapnaa
namespace Go.Proofs.Ytiklkagkmcapnaa
open Go.RowKit
set_option linter.unusedVariables false

set_option maxHeartbeats 4000000 in
theorem ring_any (B g : Nat) (w : World) (h : SrcAt w B g) (n id lo hi : Int) (n0 : 0 ≤ n) (n1 : n ≤ 12) (i1 : 1 ≤ id) (i2 : id ≤ 1000000) (l0 : 0 ≤ lo) (l1 : lo ≤ hi) (l2 : hi ≤ 65535) :
    Calls Try.prog 14 #[.pointer (some ⟨g, 0, none⟩), .int .i64 n, .int .i64 id, .int .i64 lo, .int .i64 hi] w (SrRing B g n id w) := by
  have H := Lib.hid h
  have HR0 := Lib.hid (RB.fresh w none 0 0 0 0 24)
  have HG0 := Lib.hid (only_alloc (World.grownBy.refl w (some g)) (.cells #[.slice none 0 0, .int .i64 0, .int .i64 0] 24))
  have HGW := Lib.hid (And.intro h.1 (show g < w.heap.size from h.2.1))
  clear h
  go_enter Try.func14, Try.ntmps14
  go_wp2_with fail
  obtain ⟨r, hr⟩ : ∃ r, r = w.heap.size := ⟨_, rfl⟩
  have HRR := Lib.hid hr
  rw [← hr] at HR0 ⊢
  clear hr
  refine (range_any B g _ (H.out.alloc _) 1 12 (by omega) (by omega) (by omega)).mono ?_
  rintro e w1 ⟨k, rfl, k1, k2, hs, hg⟩
  obtain ⟨k, rfl⟩ := Int.eq_ofNat_of_zero_le (show 0 ≤ k by omega)
  have HRG := Lib.hid (show r ≠ g by have := HRR.out; have := HGW.out.2; omega)
  have HR1 := Lib.hid (HR0.out.grownG hg HRG.out)
  have HG1 := Lib.hid (HG0.out.trans hg)
  have HS1 := Lib.hid hs
  clear hg hs
  go_wp2_with fail
  refine (ringof_any B g _ HS1.out k n id lo hi (by omega) (by omega) n0 n1 i1 i2 l0 l1 l2).mono ?_
  rintro e w2 ⟨A, c, k', hd, L, rfl, hnw, hl, h1, h2, h3, h4, h5, h6, h7, hs, hg⟩
  have HR2 := Lib.hid (HR1.out.grownG hg HRG.out)
  have HW := Lib.hid (show w.heap.size ≤ r by have := HRR.out; omega)
  have HE := Lib.hid (show Nw w.heap.size A from nw_low hnw HG1.out.size)
  have HBR := Lib.hid (show B ≤ r by have := HGW.out; have := HRR.out; omega)
  have HL := Lib.hid (((hl.off3 hnw HR1.out.lt (.slice A k' c) (.int .i64 hd) (.int .i64 L.length))).more (show w2.heap.size ≤ (((w2.setCell ⟨r, 0, none⟩ (.slice A k' c)).setCell ⟨r, 1, none⟩ (.int .i64 hd)).setCell ⟨r, 2, none⟩ (.int .i64 L.length)).heap.size by simp))
  have HS := Lib.hid (((hs.other (p := ⟨r, 0, none⟩) HRG.out HBR.out (.slice A k' c)).other (p := ⟨r, 1, none⟩) HRG.out HBR.out (.int .i64 hd)).other (p := ⟨r, 2, none⟩) HRG.out HBR.out (.int .i64 L.length))
  have HG := Lib.hid (only_set (only_set (only_set (HG1.out.trans hg) (p := ⟨r, 0, none⟩) (.inr HW.out) (.slice A k' c)) (p := ⟨r, 1, none⟩) (.inr HW.out) (.int .i64 hd)) (p := ⟨r, 2, none⟩) (.inr HW.out) (.int .i64 L.length))
  have H6 := Lib.hid h6
  have H7 := Lib.hid h7
  obtain ⟨t0, t1, t2, t3, t4, t5, hrl⟩ := HR2.out.facts
  clear hnw hl hs hg h6 h7
  go_wp2
  exact bodyPost_ret (v := .agg #[.slice A k' c, .int .i64 hd, .int .i64 L.length]) (by simp only [results, Try.results14]; go_simp <;> rfl) rfl ⟨A, c, k', hd, L, rfl, HE.out, HL.out, h1, h2, h3, h4, h5, H6.out, H7.out, HS.out, HG.out⟩
end Go.Proofs.Ytiklkagkmcapnaa
namespace Go.Proofs.Ytiklkagkmcapnaa
open Go.RowKit
set_option linter.unusedVariables false

/-- Nothing is said of a world. -/
def TruW (_ : World) : Prop := True

attribute [local go_sem ↓] Go.wp_at_zero Go.wp_at_succ
set_option maxHeartbeats 4000000 in
set_option maxRecDepth 20000 in
theorem rwithout_any (A : Option Addr) (n c : Nat) (l : List Msg) (x : Nat) (w : World) (hv : Ls w w.heap.size (.slice A n c) l) (hx : x < l.length) (hl : l.length ≤ 1000) :
    Calls Try.prog 29 #[.slice A n c, .int .i64 x] w (LsP (l.eraseIdx x) w) := by
  obtain ⟨rfl, hc1, _⟩ := hv.len
  obtain ⟨i0, hi0, hz0⟩ := Option.map_eq_some_iff.1 info_msg
  simp only [Prod.mk.injEq] at hz0
  have HI := Lib.hid hi0
  have HZ := Lib.hid hz0
  have hcut1 := run_lupto A l.length c .i64 x (by omega)
  obtain ⟨A4, hA4, hcut2⟩ := run_lcut A l.length c .i64 (x + 1) (by omega)
  have HT := Lib.hid (hv.upto x (by omega))
  have HD := Lib.hid (hv.cut (x + 1) (by omega))
  rw [← hA4] at HD
  have HE := Lib.hid (show lcs (l.take x) ++ lcs (l.drop (x + 1)) = lcs (l.eraseIdx x) by rw [List.eraseIdx_eq_take_drop_succ, lcs_app])
  have HXL := Lib.hid (show x + (l.length - (x + 1)) = (l.eraseIdx x).length by rw [List.length_eraseIdx]; simp [hx]; omega)
  have hx12 : (x : Int) ≤ 1000 := by omega
  have hxw : IntKind.i64.wrap ((x : Int) + 1) = (x : Int) + 1 := IntWalk.i64_in _ (by omega)
  have hcut2' : ∀ W, (Instr.slice 22 (.slice A l.length c) (some (.int .i64 ((x : Int) + 1))) none none).run Try.prog W = .ok (.slice A4 (l.length - (x + 1)) (c - (x + 1))) W := fun W => hcut2 W
  have hx0 : (0 : Int) ≤ (x : Int) := by omega
  have hxl : (x : Int) < (l.length : Int) := by omega
  clear hv hi0 hz0 hA4 hcut2
  go_enter Try.func29, Try.ntmps29
  go_wp2
  go_region_held3 (fun W => TruW W) (exact trivial)
    (first
    | (refine step_append_rd _ (by rfl) _ _ _ (by rfl) w.heap.size 26 i0 _ 7 64 Try.underlying22 HI.out HZ.out.1 HZ.out.2.1 HZ.out.2.2 rfl (by omega) (.slice none 0 0) 0 [] (by rfl) (World.ownsRow_nil _ _ _ _) _ A x c (lcs (l.take x)) (by rfl) (HT.out.drew).rd (lcs_one _) (by unfold maxLen; omega) (by omega) (Nat.le_refl _) ?_; intro v5 w5 hown5 hgrow5 hat5; obtain ⟨A5, c5, rfl⟩ := own_form hown5; have HB5 := Lib.hid ((Below.refl w.heap.size w).drew.grown hgrow5 (Nat.le_refl _) (fun k hk => by simp [Value.ownBlock] at hk)); rw [Nat.zero_add]; have HO5 := Lib.hid (show w5.ownsRow w.heap.size 26 7 (.slice A5 x c5) x (lcs (l.take x)) by simpa using hown5); clear hown5 hgrow5 hat5)
    | (refine step_append_rd _ (by rfl) _ _ _ (by rfl) w.heap.size 26 i0 _ 7 64 Try.underlying22 HI.out HZ.out.1 HZ.out.2.1 HZ.out.2.2 rfl (by omega) (.slice A5 x c5) x (lcs (l.take x)) (by rfl) HO5.out _ A4 (l.length - (x + 1)) (c - (x + 1)) (lcs (l.drop (x + 1))) (by rfl) (HD.out.below HB5.out).rd (lcs_one _) (by unfold maxLen; omega) (by omega) HB5.out.size ?_; intro v6 w6 hown6 hgrow6 hat6; have HO6 := Lib.hid hown6; have HB6 := Lib.hid (HB5.out.grown hgrow6 HB5.out.size (fun k hk => (HO5.out.lt k hk).1)); clear hown6 hgrow6 hat6))
  all_goals
    have HO7 := Lib.hid (show w6.ownsRow w.heap.size 26 7 v6 (l.eraseIdx x).length (lcs (l.eraseIdx x)) by rw [← HE.out, ← HXL.out]; exact HO6.out)
    go_wp2
    go_ret
    exact ⟨v6, rfl, nwv_own HO7.out (Nat.le_refl _), Ls.of_own HO7.out, HB6.out⟩
end Go.Proofs.Ytiklkagkmcapnaa
