/- What is proved here: shard.uniteError finds nothing wrong with two valid shards that are neighbours, have room in the first one's ring and no ID in both; shard.Unite of two valid shards that are neighbours, have room and no ID in both; shard.Divide, by one contract for all shards whose numbers are in range; Sdd. -/
import Derived.Test.YtkkgfnncdaiooaaGreatJ40
import Derived.Test.YtkkgfnncdaiooaaGreatJ21
import Derived.Test.YtkkgfnncdaiooaaGreatJ20
import Derived.BigQuiet
import Derived.Deep.QuietTactic
import Derived.Deep.RegionHeld3
import Derived.Test.YtkkgfnncdaiooaaGreatJ24
import Derived.Test.YtkkgfnncdaiooaaGreatJ25
import Derived.Test.YtkkgfnncdaiooaaGreatJ23
import Derived.Deep.DeepCutAuto
import Derived.Test.YtkkgfnncdaiooaaGreatJ39
import Derived.Test.YtkkgfnncdaiooaaGreatJ22
namespace Go.Proofs.YtkkgfnncdaiooaaGreat
open Go.RowKit
set_option linter.unusedVariables false

structure T2 (w : World) (p f : Nat) (S F : Sh) (D E : Sx) (W : World) : Prop where
  sa : SAt w p S D W
  fa : SAt w f F E W
  ne : p < f
section
variable {w W W' : World} {p f : Nat} {S F : Sh} {D E : Sx}
theorem T2.below (h : T2 w p f S F D E W) (hb : Below W.heap.size W W') : T2 w p f S F D E W' := ⟨h.sa.below hb, h.fa.below hb, h.ne⟩
theorem T2.k (h : T2 w p f S F D E W) : K8 p S D W ∧ K8 f F E W := ⟨h.sa.k8, h.fa.k8⟩
theorem T2.start (hs : SR w w.heap.size S D) (hf : SR w w.heap.size F E) : T2 w w.heap.size (w.heap.size + 1) S F D E ((w.alloc (.cells #[.bool S.lv, .int .i64 S.lo, .int .i64 S.hi, .slice D.A S.cs.length D.c, .int .i64 S.hd, .int .i64 S.sz, .slice D.A2 S.l.length D.c2, .slice D.A3 S.h.length D.c3] 33)).alloc (.cells #[.bool F.lv, .int .i64 F.lo, .int .i64 F.hi, .slice E.A F.cs.length E.c, .int .i64 F.hd, .int .i64 F.sz, .slice E.A2 F.l.length E.c2, .slice E.A3 F.h.length E.c3] 33)) := by
  have a1 := SAt.start 33 hs
  have b1 : Below w.heap.size w (w.alloc (.cells #[.bool S.lv, .int .i64 S.lo, .int .i64 S.hi, .slice D.A S.cs.length D.c, .int .i64 S.hd, .int .i64 S.sz, .slice D.A2 S.l.length D.c2, .slice D.A3 S.h.length D.c3] 33)) := (Below.refl _ _).alloc (Nat.le_refl _) _
  have a2 := SAt.start 33 (hf.up b1)
  have e1 : (w.alloc (.cells #[.bool S.lv, .int .i64 S.lo, .int .i64 S.hi, .slice D.A S.cs.length D.c, .int .i64 S.hd, .int .i64 S.sz, .slice D.A2 S.l.length D.c2, .slice D.A3 S.h.length D.c3] 33)).heap.size = w.heap.size + 1 := by simp
  rw [e1] at a2
  exact ⟨a1.alloc _, ⟨a2.s8, a2.sr, a2.off, b1.trans (a2.bel.mono b1.size), by have := a2.old; rw [e1] at this; omega⟩, by omega⟩
end

set_option maxHeartbeats 8000000 in
set_option maxRecDepth 20000 in
theorem suerr_ok (S F : Sh) (D E : Sx) (w : World) (hs : SR w w.heap.size S D) (hf : SR w w.heap.size F E) (vS : shV S = 0) (vF : shV F = 0) (lS : S.lv = true) (lF : F.lv = true) (h1 : S.hi + 1 = F.lo) (hh0 : 0 ≤ S.hi) (hh1 : S.hi ≤ 65535)
    (s0 : 0 ≤ S.sz) (s1 : S.sz ≤ 100) (s2 : S.l.length ≤ 100) (f0 : 0 ≤ F.sz) (f1 : F.sz ≤ 100) (f2 : F.l.length ≤ 100) (hr : S.sz + S.l.length + (F.sz + F.l.length) ≤ S.cs.length) (hd : dpB (S.al ++ F.al) = false) (ha : (S.al ++ F.al).length ≤ 1000) :
    Calls Tryz.prog 82 #[sv S D, sv F E] w (VlT w 0) := by
  have H0 := Lib.hid (T2.start hs hf)
  have HVS := Lib.hid (fun W (q : T2 w w.heap.size (w.heap.size + 1) S F D E W) => svalid_any S D W q.sa.sr)
  have HVF := Lib.hid (fun W (q : T2 w w.heap.size (w.heap.size + 1) S F D E W) => svalid_any F E W q.fa.sr)
  rw [vS] at HVS
  rw [vF] at HVF
  have HMS := Lib.hid (fun W (q : T2 w w.heap.size (w.heap.size + 1) S F D E W) => smsgs_any S D W q.sa.sr (by omega))
  have HMF := Lib.hid (fun W (q : T2 w w.heap.size (w.heap.size + 1) S F D E W) => smsgs_any F E W q.fa.sr (by omega))
  have HSS := Lib.hid (fun W => ssize_any S D W s0 s1 s2)
  have HSF := Lib.hid (fun W => ssize_any F E W f0 f1 f2)
  have HCS := Lib.hid (fun W => scap_any S D W)
  have HDP := Lib.hid hd
  have HAN := Lib.hid (show S.al.length + F.al.length ≤ 1000000 by simp at ha; omega)
  obtain ⟨z1, hz1⟩ : ∃ z : Int, z = S.sz + S.l.length := ⟨_, rfl⟩
  obtain ⟨z2, hz2⟩ : ∃ z : Int, z = F.sz + F.l.length := ⟨_, rfl⟩
  rw [← hz1] at HSS
  rw [← hz2] at HSF
  have hw : IntKind.i64.wrap (z1 + z2) = z1 + z2 := by rw [IntWalk.i64_in _ (by omega)]
  have hgt : decide ((S.cs.length : Int) < z1 + z2) = false := decide_eq_false (by omega)
  have hwh : wrap64 (S.hi + 1) = F.lo := by rw [IntWalk.wrap64_in _ (by omega)]; exact h1
  have hne : (F.lo != F.lo) = false := by simp
  have HLS := Lib.hid lS
  have HLF := Lib.hid lF
  clear lS lF hs hf vS vF s0 s1 s2 f0 f1 f2 hr hd ha hz1 hz2 hh0 hh1 h1
  go_enter Tryz.func82, Tryz.ntmps82
  obtain ⟨p, hp⟩ : ∃ p, p = w.heap.size := ⟨_, rfl⟩
  obtain ⟨f, hf⟩ : ∃ p, p = w.heap.size + 1 := ⟨_, rfl⟩
  go_upto_region 1 with (fail)
  rw [← hf, ← hp]
  rw [← hf, ← hp] at H0
  rw [← hf, ← hp] at HVS HVF HMS HMF
  have HPW := Lib.hid hp
  clear hp hf
  generalize ((w.alloc (.cells #[.bool S.lv, .int .i64 S.lo, .int .i64 S.hi, .slice D.A S.cs.length D.c, .int .i64 S.hd, .int .i64 S.sz, .slice D.A2 S.l.length D.c2, .slice D.A3 S.h.length D.c3] 33)).alloc (.cells #[.bool F.lv, .int .i64 F.lo, .int .i64 F.hi, .slice E.A F.cs.length E.c, .int .i64 F.hd, .int .i64 F.sz, .slice E.A2 F.l.length E.c2, .slice E.A3 F.h.length E.c3] 33)) = w1 at *
  obtain ⟨t0, t1, t2, t3, t4, t5, t6, t7, tl⟩ := H0.out.sa.s8.facts
  go_wp2_with fail
  clear t0 t1 t2 t3 t4 t5 t6 t7 tl
  refine (HVS.out _ H0.out).mono ?_
  rintro e w2 ⟨rfl, hb⟩
  have H2 := Lib.hid (H0.out.below hb)
  clear hb H0
  obtain ⟨t0, t1, t2, t3, t4, t5, t6, t7, tl⟩ := H2.out.fa.s8.facts
  go_wp2_with fail
  clear t0 t1 t2 t3 t4 t5 t6 t7 tl
  refine (HVF.out _ H2.out).mono ?_
  rintro e w3 ⟨rfl, hb⟩
  have H3 := Lib.hid (H2.out.below hb)
  clear hb H2
  obtain ⟨t0, t1, t2, t3, t4, t5, t6, t7, tl⟩ := H3.out.sa.s8.facts
  obtain ⟨y0, y1, y2, y3, y4, y5, y6, y7, yl⟩ := H3.out.fa.s8.facts
  rw [HLS.out] at t0
  rw [HLF.out] at y0
  go_wp2_with fail
  clear t0 t1 t2 t3 t4 t5 t6 t7 tl y0 y1 y2 y3 y4 y5 y6 y7 yl hwh hne HVS HVF
  have HS0 := Lib.hid H3.out.k
  have HD := Lib.hid (H3.out.below (Below.refl _ _).drew)
  have HS1 := Lib.hid HD.out.k
  go_region_held3 (fun W => K8 p S D W ∧ K8 f F E W)
    (first | with_reducible exact HS0.out | with_reducible exact HS1.out | with_reducible exact HS2.out | with_reducible exact HS3.out | with_reducible exact HS4.out)
    (first
    | (go_at_call 83; (first
      | ((with_reducible refine (HSS.out _).mono ?_); rintro e w4 ⟨rfl, hb⟩; have HD2 := Lib.hid (HD.out.below hb); have HS2 := Lib.hid HD2.out.k; clear hb)
      | ((with_reducible refine (HSF.out _).mono ?_); rintro e w5 ⟨rfl, hb⟩; have HD3 := Lib.hid (HD2.out.below hb); have HS3 := Lib.hid HD3.out.k; clear hb)))
    | (go_at_call 78; (with_reducible refine (HCS.out _).mono ?_); rintro e w6 ⟨rfl, hb⟩; have HD4 := Lib.hid (HD3.out.below hb); have HS4 := Lib.hid HD4.out.k; clear hb))
  clear HS0 HD HS1 HS2 HS3 HS4 HD2 HD3 H3 HSS HSF HCS
  go_wp2_with fail
  have HS0 := Lib.hid HD4.out.k
  have HD := Lib.hid (HD4.out.below (Below.refl _ _).drew)
  have HS1 := Lib.hid HD.out.k
  go_region_held3 (fun W => K8 p S D W ∧ K8 f F E W)
    (first | with_reducible exact HS1.out | with_reducible exact HS2.out | with_reducible exact HS3.out | with_reducible exact HS4.out | with_reducible exact HS5.out | with_reducible exact HS6.out | with_reducible exact HS0.out)
    (first
    | (go_at_call 140; (first
      | ((with_reducible refine (HMS.out _ HD.out).mono ?_); rintro e w7 ⟨A1, c1, rfl, hw1, hb⟩; have HD2 := Lib.hid (HD.out.below hb); have HS2 := Lib.hid HD2.out.k; have HL1 := Lib.hid hw1.ls; clear hb hw1)
      | ((with_reducible refine (HMF.out _ HD2.out).mono ?_); rintro e w8 ⟨A2, c2, rfl, hw2, hb⟩; have HD3 := Lib.hid (HD2.out.below hb); have HS3 := Lib.hid HD3.out.k; have HL2 := Lib.hid hw2.ls; have HL12 := Lib.hid ((HL1.out.below hb).more hb.size); have HD4 := Lib.hid (HD3.out.below ((Below.refl _ _).alloc (Nat.le_refl _) (.cells #[.slice A1 S.al.length c1, .slice A2 F.al.length c2] 25))); have HS4 := Lib.hid HD4.out.k; have HMC := Lib.hid (fun c => (Mc2.start 25 HL12.out HL2.out).concat c HAN.out); clear hb hw2)))
    | (go_at_call 139; (with_reducible refine (HMC.out _).mono ?_); rintro e w9 ⟨v9, rfl, ho, hb⟩; have HD5 := Lib.hid (HD4.out.below hb); have HS5 := Lib.hid HD5.out.k; obtain ⟨A9, c9, rfl⟩ := own_form ho; have HL9 := Lib.hid (show Ls w9 w9.heap.size (.slice A9 (S.al.length + F.al.length) c9) (S.al ++ F.al) from (by rw [← List.length_append]; exact Ls.of_own ho)); clear hb ho)
    | (go_at_call 138; (with_reducible refine (ssameid_any _ _ _ _ _ HL9.out).mono ?_); rintro e w10 ⟨rfl, hb⟩; have HD6 := Lib.hid (HD5.out.below hb); have HS6 := Lib.hid HD6.out.k; clear hb))
  rw [HDP.out]
  go_wp2
  go_ret
  exact ⟨rfl, HD6.out.sa.bel⟩
end Go.Proofs.YtkkgfnncdaiooaaGreat
namespace Go.Proofs.YtkkgfnncdaiooaaGreat
open Go.RowKit
set_option linter.unusedVariables false

theorem GtAt.start {S F : Sh} {D E : Sx} {w : World} (hs : SR w w.heap.size S D) (hf : SR w w.heap.size F E) : GtAt w w.heap.size (w.heap.size + 1) (w.heap.size + 1 + 1) S F D E (((w.alloc (.cells #[.bool S.lv, .int .i64 S.lo, .int .i64 S.hi, .slice D.A S.cs.length D.c, .int .i64 S.hd, .int .i64 S.sz, .slice D.A2 S.l.length D.c2, .slice D.A3 S.h.length D.c3] 33)).alloc (.cells #[.bool F.lv, .int .i64 F.lo, .int .i64 F.hi, .slice E.A F.cs.length E.c, .int .i64 F.hd, .int .i64 F.sz, .slice E.A2 F.l.length E.c2, .slice E.A3 F.h.length E.c3] 33)).alloc (.cells #[.bool false, .int .i64 0, .int .i64 0, .slice none 0 0, .int .i64 0, .int .i64 0, .slice none 0 0, .slice none 0 0] 33)) := by
  have a := T2.start hs hf
  have a3 := SB8.zero ((w.alloc (.cells #[.bool S.lv, .int .i64 S.lo, .int .i64 S.hi, .slice D.A S.cs.length D.c, .int .i64 S.hd, .int .i64 S.sz, .slice D.A2 S.l.length D.c2, .slice D.A3 S.h.length D.c3] 33)).alloc (.cells #[.bool F.lv, .int .i64 F.lo, .int .i64 F.hi, .slice E.A F.cs.length E.c, .int .i64 F.hd, .int .i64 F.sz, .slice E.A2 F.l.length E.c2, .slice E.A3 F.h.length E.c3] 33)) 33
  exact ⟨a.sa.alloc _, a.fa.alloc _, by simpa using a3, ⟨by omega, by omega⟩, hf.offs (Nat.le_refl _), hs.offs (by omega)⟩
theorem GtAt.k {w W : World} {p f r : Nat} {S F : Sh} {D E : Sx} (h : GtAt w p f r S F D E W) : K8 p S D W ∧ K8 f F E W := ⟨h.sa.k8, h.fa.k8⟩
theorem GtAt.t2 {w W : World} {p f r : Nat} {S F : Sh} {D E : Sx} (h : GtAt w p f r S F D E W) : SR W W.heap.size S D ∧ SR W W.heap.size F E := ⟨h.sa.sr, h.fa.sr⟩
theorem GtAt.box {w W : World} {p f r : Nat} {S F : Sh} {D E : Sx} (h : GtAt w p f r S F D E W) {q : Addr} (hq : r < q.block) (hs : SOff S D q.block) (hf : SOff F E q.block) (v : Value) : GtAt w p f r S F D E (W.setCell q v) := by
  have hne := h.ne
  have hold := h.sa.old
  exact ⟨h.sa.other (show q.block ≠ p by omega) hs (by omega) v, h.fa.other (show q.block ≠ f by omega) hf (by omega) v, h.rs.other (show q.block ≠ r by omega) v, h.ne, h.eo, h.ro⟩
def Sh.sp (S : Sh) (lo hi : Int) : Sh := ⟨S.lv, lo, hi, S.cs, S.hd, S.sz, S.l, S.h⟩
theorem SAt.setLo {w W : World} {p : Nat} {S : Sh} {D : Sx} (h : SAt w p S D W) (x : Int) : SAt w p (S.sp x S.hi) D (W.setCell ⟨p, 1, none⟩ (.int .i64 x)) := by
  have g : ∀ (j : Nat) (v : Value), j ≠ 1 → W.cell? ⟨p, j, none⟩ = some v → (W.setCell ⟨p, 1, none⟩ (.int .i64 x)).cell? ⟨p, j, none⟩ = some v := fun j v h3 e => by
    rw [World.cell?_setCell_other _ _ _ _ (addr_ne h3.symm)]; exact e
  have r := (h.sr.offp (p := ⟨p, 1, none⟩) h.off (.int .i64 x)).more (show W.heap.size ≤ (W.setCell ⟨p, 1, none⟩ (.int .i64 x)).heap.size by simp)
  exact ⟨⟨g 0 _ (by decide) h.s8.c0, by rw [World.cell?_setCell_same' _ _ _ (by rw [h.s8.c1]; rfl)]; rfl, g 2 _ (by decide) h.s8.c2, g 3 _ (by decide) h.s8.c3, g 4 _ (by decide) h.s8.c4, g 5 _ (by decide) h.s8.c5, g 6 _ (by decide) h.s8.c6, g 7 _ (by decide) h.s8.c7, fun o => by rw [World.frozen?_setCell]; exact h.s8.fr o, by simpa using h.s8.lt⟩,
    ⟨r.ls, r.el, r.dl⟩, ⟨h.off.o1, h.off.o2, h.off.o3⟩, h.bel.setCell (p := ⟨p, 1, none⟩) h.old _, h.old⟩
theorem SAt.setHi {w W : World} {p : Nat} {S : Sh} {D : Sx} (h : SAt w p S D W) (x : Int) : SAt w p (S.sp S.lo x) D (W.setCell ⟨p, 2, none⟩ (.int .i64 x)) := by
  have g : ∀ (j : Nat) (v : Value), j ≠ 2 → W.cell? ⟨p, j, none⟩ = some v → (W.setCell ⟨p, 2, none⟩ (.int .i64 x)).cell? ⟨p, j, none⟩ = some v := fun j v h3 e => by
    rw [World.cell?_setCell_other _ _ _ _ (addr_ne h3.symm)]; exact e
  have r := (h.sr.offp (p := ⟨p, 2, none⟩) h.off (.int .i64 x)).more (show W.heap.size ≤ (W.setCell ⟨p, 2, none⟩ (.int .i64 x)).heap.size by simp)
  exact ⟨⟨g 0 _ (by decide) h.s8.c0, g 1 _ (by decide) h.s8.c1, by rw [World.cell?_setCell_same' _ _ _ (by rw [h.s8.c2]; rfl)]; rfl, g 3 _ (by decide) h.s8.c3, g 4 _ (by decide) h.s8.c4, g 5 _ (by decide) h.s8.c5, g 6 _ (by decide) h.s8.c6, g 7 _ (by decide) h.s8.c7, fun o => by rw [World.frozen?_setCell]; exact h.s8.fr o, by simpa using h.s8.lt⟩,
    ⟨r.ls, r.el, r.dl⟩, ⟨h.off.o1, h.off.o2, h.off.o3⟩, h.bel.setCell (p := ⟨p, 2, none⟩) h.old _, h.old⟩

set_option maxHeartbeats 8000000 in
set_option maxRecDepth 20000 in
theorem sunite_ok (S F : Sh) (D E : Sx) (w : World) (hs : SR w w.heap.size S D) (hf : SR w w.heap.size F E) (vS : shV S = 0) (vF : shV F = 0) (lS : S.lv = true) (lF : F.lv = true) (h1 : S.hi + 1 = F.lo) (hh0 : 0 ≤ S.hi) (hh1 : S.hi ≤ 65535) (hlo : S.lo ≤ S.hi) (hhi : F.lo ≤ F.hi)
    (n1 : 1 ≤ S.cs.length) (n2 : S.cs.length ≤ 1000) (n4 : S.h.length ≤ 1000)
    (s0 : 0 ≤ S.sz) (s1 : S.sz ≤ 100) (s2 : S.l.length ≤ 100) (f0 : 0 ≤ F.sz) (f1 : F.sz ≤ 100) (f2 : F.l.length ≤ 100) (hr : S.sz + S.l.length + (F.sz + F.l.length) ≤ S.cs.length) (hd : dpB (S.al ++ F.al) = false) (ha : (S.al ++ F.al).length ≤ 1000) :
    Calls Tryz.prog 29 #[sv S D, sv F E] w (SE w (gthF (S.sp S.lo F.hi) F) 0) := by
  have H0 := Lib.hid (GtAt.start hs hf)
  have HUE := Lib.hid (fun W (q : SR W W.heap.size S D ∧ SR W W.heap.size F E) => suerr_ok S F D E W q.1 q.2 vS vF lS lF h1 hh0 hh1 s0 s1 s2 f0 f1 f2 hr hd ha)
  have HCL := Lib.hid (fun W (q : SR W W.heap.size S D ∧ SR W W.heap.size F E) => sclone_any S D W q.1 n1 n2 (by omega) n4)
  have HGA := Lib.hid (fun D' W (q : SR W W.heap.size (S.sp S.lo F.hi) D') (r : SR W W.heap.size F E) => gather_any (S.sp S.lo F.hi) F D' E W q r (by omega) (Nat.le_trans (lsF_le _ _ _) (by decide)))
  have HSP := Lib.hid (show S.sp S.lo F.hi = ⟨S.lv, S.lo, F.hi, S.cs, S.hd, S.sz, S.l, S.h⟩ from rfl)
  obtain ⟨R, hR⟩ : ∃ R, R = gthF (S.sp S.lo F.hi) F := ⟨_, rfl⟩
  rw [← hR] at HGA ⊢
  obtain ⟨S2, hS2⟩ : ∃ S2, S2 = S.sp S.lo F.hi := ⟨_, rfl⟩
  rw [← hS2] at HGA HSP
  have HMM := Lib.hid (show min S.lo F.lo = S.lo ∧ max S.hi F.hi = F.hi by omega)
  clear hR hS2 hs hf vS vF lS lF h1 hh0 hh1 hlo hhi n1 n2 n4 s0 s1 s2 f0 f1 f2 hr hd ha
  go_enter Tryz.func29, Tryz.ntmps29
  obtain ⟨p, hp⟩ : ∃ p, p = w.heap.size := ⟨_, rfl⟩
  obtain ⟨f, hf⟩ : ∃ p, p = w.heap.size + 1 := ⟨_, rfl⟩
  obtain ⟨r, hr⟩ : ∃ p, p = w.heap.size + 1 + 1 := ⟨_, rfl⟩
  go_upto_region 1 with (fail)
  rw [← hr, ← hf, ← hp]
  rw [← hr, ← hf, ← hp] at H0
  have HPW := Lib.hid (show w.heap.size ≤ r by omega)
  clear hp hf hr
  generalize (((w.alloc (.cells #[.bool S.lv, .int .i64 S.lo, .int .i64 S.hi, .slice D.A S.cs.length D.c, .int .i64 S.hd, .int .i64 S.sz, .slice D.A2 S.l.length D.c2, .slice D.A3 S.h.length D.c3] 33)).alloc (.cells #[.bool F.lv, .int .i64 F.lo, .int .i64 F.hi, .slice E.A F.cs.length E.c, .int .i64 F.hd, .int .i64 F.sz, .slice E.A2 F.l.length E.c2, .slice E.A3 F.h.length E.c3] 33)).alloc (.cells #[.bool false, .int .i64 0, .int .i64 0, .slice none 0 0, .int .i64 0, .int .i64 0, .slice none 0 0, .slice none 0 0] 33)) = w1 at *
  obtain ⟨t0, t1, t2, t3, t4, t5, t6, t7, tl⟩ := H0.out.sa.s8.facts
  obtain ⟨y0, y1, y2, y3, y4, y5, y6, y7, yl⟩ := H0.out.fa.s8.facts
  go_wp2_with fail
  clear t0 t1 t2 t3 t4 t5 t6 t7 tl y0 y1 y2 y3 y4 y5 y6 y7 yl
  refine (HUE.out _ H0.out.t2).mono ?_
  rintro e w2 ⟨rfl, hb⟩
  have H2 := Lib.hid (H0.out.below hb)
  clear hb H0
  obtain ⟨t0, t1, t2, t3, t4, t5, t6, t7, tl⟩ := H2.out.sa.s8.facts
  go_wp2_with fail
  clear t0 t1 t2 t3 t4 t5 t6 t7 tl
  refine (HCL.out _ H2.out.t2).mono ?_
  rintro e w3 ⟨D2, rfl, hn2, hr2, hb⟩
  have H3 := Lib.hid ((H2.out.below hb).alloc (.cells #[.bool S.lv, .int .i64 S.lo, .int .i64 S.hi, .slice D2.A S.cs.length D2.c, .int .i64 S.hd, .int .i64 S.sz, .slice D2.A2 S.l.length D2.c2, .slice D2.A3 S.h.length D2.c3] 33))
  have HZ3 := Lib.hid (SAt.start 33 hr2)
  have HRL := Lib.hid (show r < w3.heap.size from (H2.out.below hb).rs.lt)
  have HSO := Lib.hid (show SOff S D w3.heap.size ∧ SOff F E w3.heap.size from ⟨(H2.out.below hb).sa.sr.offs (Nat.le_refl _), (H2.out.below hb).fa.sr.offs (Nat.le_refl _)⟩)
  have HN2 := Lib.hid (show D2.nw (r + 1) from hn2.low H2.out.rs.lt)
  have HB3 := Lib.hid (show Below w.heap.size w w3 from (H2.out.below hb).sa.bel)
  clear hn2 hr2 hb H2
  go_wp2_with fail
  obtain ⟨s, hs⟩ : ∃ p, p = w3.heap.size := ⟨_, rfl⟩
  rw [← hs] at HZ3 HRL HSO ⊢
  have HSW := Lib.hid hs
  clear hs
  generalize w3.alloc (.cells #[.bool S.lv, .int .i64 S.lo, .int .i64 S.hi, .slice D2.A S.cs.length D2.c, .int .i64 S.hd, .int .i64 S.sz, .slice D2.A2 S.l.length D2.c2, .slice D2.A3 S.h.length D2.c3] 33) = w4 at *
  have HX1 := Lib.hid (H3.out.box (q := ⟨s, 1, none⟩) HRL.out HSO.out.1 HSO.out.2 (.int .i64 (min S.lo F.lo)))
  have HX2 := Lib.hid (HX1.out.box (q := ⟨s, 2, none⟩) HRL.out HSO.out.1 HSO.out.2 (.int .i64 (max S.hi F.hi)))
  have HY1 := Lib.hid (H3.out.box (q := ⟨s, 2, none⟩) HRL.out HSO.out.1 HSO.out.2 (.int .i64 (max S.hi F.hi)))
  have HS0 := Lib.hid H3.out.k
  have HS1 := Lib.hid (show K8 p S D w4.drew ∧ K8 f F E w4.drew from H3.out.k)
  have HS2 := Lib.hid (show K8 p S D (w4.setCell ⟨s, 1, none⟩ (.int .i64 (min S.lo F.lo))).drew ∧ K8 f F E (w4.setCell ⟨s, 1, none⟩ (.int .i64 (min S.lo F.lo))).drew from HX1.out.k)
  have HS3 := Lib.hid (show K8 p S D ((w4.setCell ⟨s, 1, none⟩ (.int .i64 (min S.lo F.lo))).setCell ⟨s, 2, none⟩ (.int .i64 (max S.hi F.hi))).drew ∧ K8 f F E ((w4.setCell ⟨s, 1, none⟩ (.int .i64 (min S.lo F.lo))).setCell ⟨s, 2, none⟩ (.int .i64 (max S.hi F.hi))).drew from HX2.out.k)
  have HS4 := Lib.hid (show K8 p S D (w4.setCell ⟨s, 2, none⟩ (.int .i64 (max S.hi F.hi))).drew ∧ K8 f F E (w4.setCell ⟨s, 2, none⟩ (.int .i64 (max S.hi F.hi))).drew from HY1.out.k)
  have HY2 := Lib.hid (HY1.out.box (q := ⟨s, 1, none⟩) HRL.out HSO.out.1 HSO.out.2 (.int .i64 (min S.lo F.lo)))
  go_cut [4] (fun s4 wx => s4 = .pointer (some ⟨r, 0, none⟩) ∧ Hid (GtAt w p f r S F D E wx) ∧ Hid (SAt w3 s S2 D2 wx))
  case first =>
    obtain ⟨⟨z0, z1, z2, z3, z4, z5, z6, z7, zl⟩, ⟨f0, f1, f2, f3, f4, f5, f6, f7⟩⟩ := HZ3.out.s8.all
    go_region_held3 (fun W => K8 p S D W ∧ K8 f F E W)
      (first | with_reducible exact HS0.out | with_reducible exact HS1.out | with_reducible exact HS2.out | with_reducible exact HS3.out | with_reducible exact HS4.out)
      (fail)
    all_goals
      clear z0 z1 z2 z3 z4 z5 z6 z7 zl f0 f1 f2 f3 f4 f5 f6 f7
      go_wp2_with fail
      go_meet
      first
      | exact ⟨rfl, Lib.hid (HX2.out.below (Below.refl _ _).drew), Lib.hid (by rw [HSP.out]; have := ((HZ3.out.setLo (min S.lo F.lo)).setHi (max S.hi F.hi)).below (Below.refl _ _).drew; rw [HMM.out.1, HMM.out.2] at this; rw [HMM.out.1, HMM.out.2]; exact this)⟩
      | exact ⟨rfl, Lib.hid (HY2.out.below (Below.refl _ _).drew), Lib.hid (by rw [HSP.out]; have := ((HZ3.out.setHi (max S.hi F.hi)).setLo (min S.lo F.lo)).below (Below.refl _ _).drew; rw [HMM.out.1, HMM.out.2] at this; rw [HMM.out.1, HMM.out.2]; exact this)⟩
  case rest =>
    clear H3 HZ3 HX1 HX2 HY1 HY2 HS0 HS1 HS2 HS3 HS4
    obtain ⟨rfl, H4, HZ4⟩ := hcut
    obtain ⟨t0, t1, t2, t3, t4, t5, t6, t7, tl⟩ := HZ4.out.s8.facts
    obtain ⟨y0, y1, y2, y3, y4, y5, y6, y7, yl⟩ := H4.out.fa.s8.facts
    go_wp2_with fail
    clear t0 t1 t2 t3 t4 t5 t6 t7 tl y0 y1 y2 y3 y4 y5 y6 y7 yl
    refine (HGA.out D2 _ HZ4.out.sr H4.out.fa.sr).mono ?_
    rintro e w6 ⟨D6, rfl, hf6, hr6, hb⟩
    have H6 := Lib.hid (H4.out.below hb)
    have HF := Lib.hid (show SE w R 0 (.returned (.tuple #[sv R D6, .int .i64 0])) (set8s w6 r R D6) from
      ⟨D6, rfl, (hf6 (r + 1) (by have := H4.out.rs.lt; omega) HN2.out).low (by have := HPW.out; omega), SR.sets ((hf6 (r + 1) (by have := H4.out.rs.lt; omega) HN2.out).off (Nat.lt_succ_self r)) (R.l8 D6) 0 w6 hr6, set8s_below HPW.out H6.out.sa.bel R D6⟩)
    obtain ⟨⟨r0, r1, r2, r3, r4, r5, r6, r7, rl⟩, ⟨g0, g1, g2, g3, g4, g5, g6, g7⟩⟩ := H6.out.rs.all
    clear hf6 hr6 hb
    go_wp2
    exact bodyPost_ret (v := .tuple #[sv R D6, .int .i64 0]) (by simp only [results, Tryz.results29]; go_simp <;> rfl) rfl HF.out
end Go.Proofs.YtkkgfnncdaiooaaGreat
namespace Go.Proofs.YtkkgfnncdaiooaaGreat
open Go.RowKit
set_option linter.unusedVariables false

noncomputable def dvE (S : Sh) (mid : Int) : Int := exS S (wi mid S.lo (S.hi - 1))
noncomputable def dvA (S : Sh) (mid : Int) : Sh := if dvE S mid = 0 then gthF (neS S.cs.length S.lo mid) S else zS
noncomputable def dvB (S : Sh) (mid : Int) : Sh := if dvE S mid = 0 then gthF (neS S.cs.length (mid + 1) S.hi) S else zS
def SE2 (w : World) (A B : Sh) (x : Int) (e : Ending) (w' : World) : Prop := ∃ D1 D2, e = .returned (.tuple #[sv A D1, sv B D2, .int .i64 x]) ∧ D1.nw w.heap.size ∧ D2.nw w.heap.size ∧ SR w' w'.heap.size A D1 ∧ SR w' w'.heap.size B D2 ∧ Below w.heap.size w w'
theorem nl_one (w : World) (a : Rn) (t : TypeId) : Nl (w.alloc (.cells #[.int .i64 a.n, .int .i64 a.lo, .int .i64 a.hi] t)) (w.heap.size + 1) (.slice (some ⟨w.heap.size, 0, none⟩) 1 1) [a] := by
  refine ⟨_, 1, rfl, Nat.le_refl _, by unfold maxLen; omega, by rw [rcs_len], fun _ => ⟨w.heap.size, 0, rfl, Nat.lt_succ_self _, fun j u hu => ?_⟩⟩
  rw [Nat.zero_add, World.cell?_alloc_new]
  simpa [rcs, Rn.l] using hu
structure DvAt (w : World) (p a b : Nat) (S A B : Sh) (D Da Db : Sx) (W : World) : Prop where
  sa : SAt w p S D W
  aa : SAt w a A Da W
  bb : SAt w b B Db W
  na : Da.nw (b + 1)
  nb : Db.nw (b + 1)
  so : SOff S D a ∧ SOff S D b
  ne : p < a ∧ a < b
section
variable {w W W' : World} {p a b : Nat} {S A B : Sh} {D Da Db : Sx}
theorem DvAt.below (h : DvAt w p a b S A B D Da Db W) (hb : Below W.heap.size W W') : DvAt w p a b S A B D Da Db W' := ⟨h.sa.below hb, h.aa.below hb, h.bb.below hb, h.na, h.nb, h.so, h.ne⟩
theorem DvAt.putA {A' : Sh} {Da' : Sx} (h : DvAt w p a b S A B D Da Db W) (hr : SR W W.heap.size A' Da') (hn : Da'.nw (b + 1)) : DvAt w p a b S A' B D Da' Db (set8s W a A' Da') := by
  have hne := h.ne
  exact ⟨h.sa.put_far (show a ≠ p by omega) h.so.1 h.aa.old A' Da', h.aa.put hr (hn.off (by omega)), h.bb.put_far (show a ≠ b by omega) (h.nb.off (by omega)) h.aa.old A' Da', hn, h.nb, h.so, h.ne⟩
theorem DvAt.putB {B' : Sh} {Db' : Sx} (h : DvAt w p a b S A B D Da Db W) (hr : SR W W.heap.size B' Db') (hn : Db'.nw (b + 1)) : DvAt w p a b S A B' D Da Db' (set8s W b B' Db') := by
  have hne := h.ne
  exact ⟨h.sa.put_far (show b ≠ p by omega) h.so.2 h.bb.old B' Db', h.aa.put_far (show b ≠ a by omega) (h.na.off (by omega)) h.bb.old B' Db', h.bb.put hr (hn.off (by omega)), h.na, hn, h.so, h.ne⟩
theorem DvAt.out (h : DvAt w p a b S A B D Da Db W) (x : Int) : SE2 w A B x (.returned (.tuple #[sv A Da, sv B Db, .int .i64 x])) W := by
  have hne := h.ne
  have ho := h.sa.old
  exact ⟨Da, Db, rfl, h.na.low (by omega), h.nb.low (by omega), h.aa.sr, h.bb.sr, h.sa.bel⟩
theorem DvAt.start (hs : SR w w.heap.size S D) : DvAt w w.heap.size (w.heap.size + 1) (w.heap.size + 1 + 1) S zS zS D zX zX (((w.alloc (.cells #[.bool S.lv, .int .i64 S.lo, .int .i64 S.hi, .slice D.A S.cs.length D.c, .int .i64 S.hd, .int .i64 S.sz, .slice D.A2 S.l.length D.c2, .slice D.A3 S.h.length D.c3] 33)).alloc (.cells #[.bool false, .int .i64 0, .int .i64 0, .slice none 0 0, .int .i64 0, .int .i64 0, .slice none 0 0, .slice none 0 0] 33)).alloc (.cells #[.bool false, .int .i64 0, .int .i64 0, .slice none 0 0, .int .i64 0, .int .i64 0, .slice none 0 0, .slice none 0 0] 33)) := by
  have t1 := T2.start hs (SR.zero (W := w) (B := w.heap.size))
  have b1 := t1.fa.bel
  have e2 : ((w.alloc (.cells #[.bool S.lv, .int .i64 S.lo, .int .i64 S.hi, .slice D.A S.cs.length D.c, .int .i64 S.hd, .int .i64 S.sz, .slice D.A2 S.l.length D.c2, .slice D.A3 S.h.length D.c3] 33)).alloc (.cells #[.bool false, .int .i64 0, .int .i64 0, .slice none 0 0, .int .i64 0, .int .i64 0, .slice none 0 0, .slice none 0 0] 33)).heap.size = w.heap.size + 1 + 1 := by simp
  have a3 := SAt.start (w := ((w.alloc (.cells #[.bool S.lv, .int .i64 S.lo, .int .i64 S.hi, .slice D.A S.cs.length D.c, .int .i64 S.hd, .int .i64 S.sz, .slice D.A2 S.l.length D.c2, .slice D.A3 S.h.length D.c3] 33)).alloc (.cells #[.bool false, .int .i64 0, .int .i64 0, .slice none 0 0, .int .i64 0, .int .i64 0, .slice none 0 0, .slice none 0 0] 33))) (S := zS) (D := zX) 33 SR.zero
  rw [e2] at a3
  have b2 := (Below.refl w.heap.size w).trans (b1.trans (a3.bel.mono b1.size))
  exact ⟨t1.sa.alloc _, t1.fa.alloc _, ⟨a3.s8, a3.sr, a3.off, b2, by omega⟩, zX_nw _, zX_nw _, ⟨hs.offs (by omega), hs.offs (by omega)⟩, ⟨by omega, by omega⟩⟩
end
abbrev D24 (p a b : Nat) (S A B : Sh) (D Da Db : Sx) (W : World) : Prop := K8 p S D W ∧ K8 a A Da W ∧ K8 b B Db W
theorem DvAt.k {w W : World} {p a b : Nat} {S A B : Sh} {D Da Db : Sx} (h : DvAt w p a b S A B D Da Db W) : D24 p a b S A B D Da Db W := ⟨h.sa.k8, h.aa.k8, h.bb.k8⟩

set_option maxHeartbeats 8000000 in
set_option maxRecDepth 20000 in
theorem sdivide_any (S : Sh) (D : Sx) (mid : Int) (w : World) (hs : SR w w.heap.size S D) (h0 : 0 ≤ S.hi) (h1 : S.hi ≤ 65535) (m0 : 0 ≤ mid) (m1 : mid ≤ 65535) (h12 : S.l.length ≤ 1000) :
    Calls Tryz.prog 26 #[sv S D, .int .i64 mid] w (SE2 w (dvA S mid) (dvB S mid) (dvE S mid)) := by
  have H0 := Lib.hid (DvAt.start hs)
  have HV := Lib.hid (fun A c W (k : SR W W.heap.size S D) (hn : Nl W W.heap.size (.slice A 1 c) [⟨mid, S.lo, S.hi - 1⟩]) => show Calls Tryz.prog 35 #[sv S D, .slice A 1 c] W (VlT W (dvE S mid)) by
    have := sexam_any S D A 1 c [⟨mid, S.lo, S.hi - 1⟩] W k hn
    rw [show ([⟨mid, S.lo, S.hi - 1⟩] : List Rn).all Rn.ok = wi mid S.lo (S.hi - 1) by simp [Rn.ok]] at this
    exact this)
  have HN := Lib.hid (fun (W : World) => nl_one W ⟨mid, S.lo, S.hi - 1⟩ 78)
  have HCS := Lib.hid (fun W => scap_any S D W)
  have HNA := Lib.hid (fun W => snew_any S.cs.length S.lo mid W)
  have HNB := Lib.hid (fun W => snew_any S.cs.length (mid + 1) S.hi W)
  have HGA := Lib.hid (fun T D' W (q : SR W W.heap.size T D') (r : SR W W.heap.size S D) => gather_any T S D' D W q r h12 (Nat.le_trans (lsF_le _ _ _) (by decide)))
  have hw1 : wrap64 (S.hi - 1) = S.hi - 1 := IntWalk.wrap64_in _ (by omega)
  have hw2 : IntKind.i64.wrap (mid + 1) = mid + 1 := by rw [IntWalk.i64_in _ (by omega)]
  have HRA := Lib.hid (show dvA S mid = if dvE S mid = 0 then gthF (neS S.cs.length S.lo mid) S else zS from rfl)
  have HRB := Lib.hid (show dvB S mid = if dvE S mid = 0 then gthF (neS S.cs.length (mid + 1) S.hi) S else zS from rfl)
  generalize dvA S mid = RA at *
  generalize dvB S mid = RB at *
  generalize dvE S mid = x at *
  clear hs h0 h1 m0 m1 h12
  go_enter Tryz.func26, Tryz.ntmps26
  obtain ⟨p, hp⟩ : ∃ p, p = w.heap.size := ⟨_, rfl⟩
  obtain ⟨a, ha⟩ : ∃ p, p = w.heap.size + 1 := ⟨_, rfl⟩
  obtain ⟨b, hb⟩ : ∃ p, p = w.heap.size + 1 + 1 := ⟨_, rfl⟩
  go_upto_region 1 with (fail)
  rw [← hb, ← ha, ← hp]
  rw [← hb, ← ha, ← hp] at H0
  clear hp ha hb
  generalize (((w.alloc (.cells #[.bool S.lv, .int .i64 S.lo, .int .i64 S.hi, .slice D.A S.cs.length D.c, .int .i64 S.hd, .int .i64 S.sz, .slice D.A2 S.l.length D.c2, .slice D.A3 S.h.length D.c3] 33)).alloc (.cells #[.bool false, .int .i64 0, .int .i64 0, .slice none 0 0, .int .i64 0, .int .i64 0, .slice none 0 0, .slice none 0 0] 33)).alloc (.cells #[.bool false, .int .i64 0, .int .i64 0, .slice none 0 0, .int .i64 0, .int .i64 0, .slice none 0 0, .slice none 0 0] 33)) = w1 at *
  have HA1 := Lib.hid (H0.out.below ((Below.refl _ _).alloc (Nat.le_refl _) (.cells #[.int .i64 mid, .int .i64 S.lo, .int .i64 (S.hi - 1)] 78)))
  have HN1 := Lib.hid (HN.out w1)
  obtain ⟨t0, t1, t2, t3, t4, t5, t6, t7, tl⟩ := H0.out.sa.s8.facts
  go_wp2_with fail
  clear t0 t1 t2 t3 t4 t5 t6 t7 tl
  refine (HV.out _ _ _ HA1.out.sa.sr (by have := HN1.out; simpa using this)).mono ?_
  rintro e w2 ⟨rfl, hb⟩
  have H2 := Lib.hid (HA1.out.below hb)
  clear hb HA1 HN1 H0 HN HV
  by_cases hx : x = 0
  · rw [hx, if_pos rfl] at HRA HRB
    rw [hx]
    have HA := Lib.hid HRA.out
    have HB := Lib.hid HRB.out
    have HX0 := Lib.hid hx
    clear hx HRA HRB
    go_wp2_with fail
    generalize neS S.cs.length S.lo mid = A at *
    generalize neS S.cs.length (mid + 1) S.hi = B at *
    generalize neE S.cs.length S.lo mid = ea at *
    generalize neE S.cs.length (mid + 1) S.hi = eb at *
    have HK0 := Lib.hid H2.out.k
    have HD0 := Lib.hid (H2.out.below (Below.refl _ _).drew)
    have HK1 := Lib.hid HD0.out.k
    obtain ⟨⟨t0, t1, t2, t3, t4, t5, t6, t7, tl⟩, ⟨f0, f1, f2, f3, f4, f5, f6, f7⟩⟩ := H2.out.aa.s8.all
    go_region_held3 (fun W => K8 p S D W)
      (first | with_reducible exact HK1.out.1 | with_reducible exact HK2.out.1 | with_reducible exact HK3.out.1 | with_reducible exact HK4.out.1 | with_reducible exact HK0.out.1)
      (first
      | (go_at_call 78; (with_reducible refine (HCS.out _).mono ?_); rintro e w3 ⟨rfl, hb⟩; have HD3 := Lib.hid (HD0.out.below hb); have HK2 := Lib.hid HD3.out.k; clear hb)
      | (go_at_call 58; (with_reducible refine (HNA.out _).mono ?_); rintro e w4 ⟨D4, rfl, hn4, hr4, hb⟩; have HD4 := Lib.hid (HD3.out.below hb); have HK3 := Lib.hid HD4.out.k; have HD5 := Lib.hid (HD4.out.putA hr4 (hn4.low HD3.out.bb.lt)); have HK4 := Lib.hid HD5.out.k; obtain ⟨⟨t0, t1, t2, t3, t4, t5, t6, t7, tl⟩, ⟨f0, f1, f2, f3, f4, f5, f6, f7⟩⟩ := HD4.out.aa.s8.all; clear hn4 hr4 hb))
    clear t0 t1 t2 t3 t4 t5 t6 t7 tl f0 f1 f2 f3 f4 f5 f6 f7 HD0 HD3 HD4 HK0 HK1 HK2 HK3 HK4 H2 HNA
    have H6 := Lib.hid (show DvAt w p a b S A zS D D4 zX (((((((((w4.setCell ⟨a, 0, none⟩ (.bool A.lv)).setCell ⟨a, 1, none⟩ (.int .i64 A.lo)).setCell ⟨a, 2, none⟩ (.int .i64 A.hi)).setCell ⟨a, 3, none⟩ (.slice D4.A A.cs.length D4.c)).setCell ⟨a, 4, none⟩ (.int .i64 A.hd)).setCell ⟨a, 5, none⟩ (.int .i64 A.sz)).setCell ⟨a, 6, none⟩ (.slice D4.A2 A.l.length D4.c2)).setCell ⟨a, 7, none⟩ (.slice D4.A3 A.h.length D4.c3))) from HD5.out)
    clear HD5
    go_wp2_with fail
    generalize (((((((((w4.setCell ⟨a, 0, none⟩ (.bool A.lv)).setCell ⟨a, 1, none⟩ (.int .i64 A.lo)).setCell ⟨a, 2, none⟩ (.int .i64 A.hi)).setCell ⟨a, 3, none⟩ (.slice D4.A A.cs.length D4.c)).setCell ⟨a, 4, none⟩ (.int .i64 A.hd)).setCell ⟨a, 5, none⟩ (.int .i64 A.sz)).setCell ⟨a, 6, none⟩ (.slice D4.A2 A.l.length D4.c2)).setCell ⟨a, 7, none⟩ (.slice D4.A3 A.h.length D4.c3))) = w6 at *
    have HK0 := Lib.hid H6.out.k
    have HD0 := Lib.hid (H6.out.below (Below.refl _ _).drew)
    have HK1 := Lib.hid HD0.out.k
    obtain ⟨⟨t0, t1, t2, t3, t4, t5, t6, t7, tl⟩, ⟨f0, f1, f2, f3, f4, f5, f6, f7⟩⟩ := H6.out.bb.s8.all
    go_region_held3 (fun W => K8 p S D W)
      (first | with_reducible exact HK1.out.1 | with_reducible exact HK2.out.1 | with_reducible exact HK3.out.1 | with_reducible exact HK4.out.1 | with_reducible exact HK0.out.1)
      (first
      | (go_at_call 78; (with_reducible refine (HCS.out _).mono ?_); rintro e w7 ⟨rfl, hb⟩; have HD3 := Lib.hid (HD0.out.below hb); have HK2 := Lib.hid HD3.out.k; clear hb)
      | (go_at_call 58; (with_reducible refine (HNB.out _).mono ?_); rintro e w8 ⟨D8, rfl, hn8, hr8, hb⟩; have HD4 := Lib.hid (HD3.out.below hb); have HK3 := Lib.hid HD4.out.k; have HD5 := Lib.hid (HD4.out.putB hr8 (hn8.low HD3.out.bb.lt)); have HK4 := Lib.hid HD5.out.k; obtain ⟨⟨t0, t1, t2, t3, t4, t5, t6, t7, tl⟩, ⟨f0, f1, f2, f3, f4, f5, f6, f7⟩⟩ := HD4.out.bb.s8.all; clear hn8 hr8 hb))
    clear t0 t1 t2 t3 t4 t5 t6 t7 tl f0 f1 f2 f3 f4 f5 f6 f7 HD0 HD3 HD4 HK0 HK1 HK2 HK3 HK4 H6 HNB HCS
    have H9 := Lib.hid (show DvAt w p a b S A B D D4 D8 (((((((((w8.setCell ⟨b, 0, none⟩ (.bool B.lv)).setCell ⟨b, 1, none⟩ (.int .i64 B.lo)).setCell ⟨b, 2, none⟩ (.int .i64 B.hi)).setCell ⟨b, 3, none⟩ (.slice D8.A B.cs.length D8.c)).setCell ⟨b, 4, none⟩ (.int .i64 B.hd)).setCell ⟨b, 5, none⟩ (.int .i64 B.sz)).setCell ⟨b, 6, none⟩ (.slice D8.A2 B.l.length D8.c2)).setCell ⟨b, 7, none⟩ (.slice D8.A3 B.h.length D8.c3))) from HD5.out)
    clear HD5
    go_wp2_with fail
    generalize (((((((((w8.setCell ⟨b, 0, none⟩ (.bool B.lv)).setCell ⟨b, 1, none⟩ (.int .i64 B.lo)).setCell ⟨b, 2, none⟩ (.int .i64 B.hi)).setCell ⟨b, 3, none⟩ (.slice D8.A B.cs.length D8.c)).setCell ⟨b, 4, none⟩ (.int .i64 B.hd)).setCell ⟨b, 5, none⟩ (.int .i64 B.sz)).setCell ⟨b, 6, none⟩ (.slice D8.A2 B.l.length D8.c2)).setCell ⟨b, 7, none⟩ (.slice D8.A3 B.h.length D8.c3))) = w9 at *
    have HK0 := Lib.hid H9.out.k
    have HD0 := Lib.hid (H9.out.below (Below.refl _ _).drew)
    have HK1 := Lib.hid HD0.out.k
    obtain ⟨⟨t0, t1, t2, t3, t4, t5, t6, t7, tl⟩, ⟨f0, f1, f2, f3, f4, f5, f6, f7⟩⟩ := H9.out.aa.s8.all
    obtain ⟨⟨y0, y1, y2, y3, y4, y5, y6, y7, yl⟩, ⟨g0, g1, g2, g3, g4, g5, g6, g7⟩⟩ := H9.out.bb.s8.all
    have HAB := Lib.hid (show ¬ a = b ∧ ¬ b = a by have := H9.out.ne; omega)
    obtain ⟨hab, hba⟩ := HAB.out
    obtain ⟨z0, z1, z2, z3, z4, z5, z6, z7, zl⟩ := H9.out.sa.s8.facts
    go_cut [6] (fun s6 wx => s6 = .int .i64 0 ∧ ∃ D10 D11, Hid (DvAt w p a b S RA RB D D10 D11 wx))
    case first =>
      refine wp_region_noPanic ?_
      refine wp_region_held_drew (S := (fun W => K8 p S D W)) (by kernel_rfl) ?hS0 (fun hHeld => ?_)
      case hS0 => (try dsimp only); (first | with_reducible exact HK1.out.1 | with_reducible exact HK2.out.1 | with_reducible exact HK3.out.1 | with_reducible exact HK4.out.1 | with_reducible exact HK5.out.1 | with_reducible exact HK0.out.1)
      refine wpAnyH_take (i := 1) (oi := ?o1) (v := ?v1) ?hi1 (by kernel_rfl) (by kernel_rfl) (by kernel_rfl) (fun _ _ _ h => h) (Or.inl ⟨?hw1, ?hy1⟩) (by assumption) ?_
      case hi1 => simp only [List.getElem?_toArray, List.getElem?_cons_succ, List.getElem?_cons_zero]; exact rfl
      case hw1 => rfl
      case hy1 => intro w hSw; (try dsimp only at hSw); go_simp; all_goals (with_reducible rfl)
      try simp only [Act.put, List.setIfInBounds_toArray, List.set_cons_zero, List.set_cons_succ]
      refine wpAnyH_take (i := 4) (oi := ?o2) (v := ?v2) ?hi2 (by kernel_rfl) (by kernel_rfl) (by kernel_rfl) (fun _ _ _ h => h) (Or.inl ⟨?hw2, ?hy2⟩) (by assumption) ?_
      case hi2 => simp only [List.getElem?_toArray, List.getElem?_cons_succ, List.getElem?_cons_zero]; exact rfl
      case hw2 => rfl
      case hy2 => intro w hSw; (try dsimp only at hSw); go_simp; all_goals (with_reducible rfl)
      try simp only [Act.put, List.setIfInBounds_toArray, List.set_cons_zero, List.set_cons_succ]
      refine wpAnyH_ready (rs := [0, 3]) (by kernel_rfl) (by simp) ?_
      refine AllReadyH.cons (o := ?o4) ?ho4 ?st4 ?mo4
      case ho4 => simp only [List.getElem?_toArray, List.getElem?_cons_zero]; exact rfl
      case st4 =>
        intro K hK
        go_simp
        refine hK.out _ _ ?hS4 (fun hHeld => ?_)
        · (try dsimp only); (first | with_reducible exact HK1.out.1 | with_reducible exact HK2.out.1 | with_reducible exact HK3.out.1 | with_reducible exact HK4.out.1 | with_reducible exact HK5.out.1 | with_reducible exact HK0.out.1)
        clear hK K
        try simp only [Act.put, List.setIfInBounds_toArray, List.set_cons_zero, List.set_cons_succ]
        refine wpAnyH_ready (rs := [2, 3]) (by kernel_rfl) (by simp) ?_
        refine AllReadyH.cons (o := ?o6) ?ho6 ?st6 ?mo6
        case ho6 => simp only [List.getElem?_toArray, List.getElem?_cons_succ, List.getElem?_cons_zero]; exact rfl
        case st6 =>
          intro K hK
          go_simp
          (go_at_call 79; (first | ((with_reducible refine (HGA.out A D4 _ HD0.out.aa.sr HD0.out.sa.sr).mono ?_); rintro e w10 ⟨D10, rfl, hf10, hr10, hb⟩; rw [← HA.out] at hr10; rw [← HA.out]; have HD3 := Lib.hid (HD0.out.below hb); have HK2 := Lib.hid HD3.out.k; have HR10 := Lib.hid hr10; have HN10 := Lib.hid (hf10 (b + 1) HD0.out.bb.lt HD0.out.na); obtain ⟨⟨t0, t1, t2, t3, t4, t5, t6, t7, tl⟩, ⟨f0, f1, f2, f3, f4, f5, f6, f7⟩⟩ := HD3.out.aa.s8.all; obtain ⟨⟨y0, y1, y2, y3, y4, y5, y6, y7, yl⟩, ⟨g0, g1, g2, g3, g4, g5, g6, g7⟩⟩ := HD3.out.bb.s8.all; obtain ⟨z0, z1, z2, z3, z4, z5, z6, z7, zl⟩ := HD3.out.sa.s8.facts; clear hf10 hr10 hb) | ((with_reducible refine (HGA.out B D8 _ HD3.out.bb.sr HD3.out.sa.sr).mono ?_); rintro e w11 ⟨D11, rfl, hf11, hr11, hb⟩; rw [← HB.out] at hr11; rw [← HB.out]; have HD4 := Lib.hid (HD3.out.below hb); have HK3 := Lib.hid HD4.out.k; have HN11 := Lib.hid (hf11 (b + 1) HD3.out.bb.lt HD3.out.nb); have HD5 := Lib.hid (HD4.out.putA (HR10.out.up hb) HN10.out); have HK4 := Lib.hid HD5.out.k; have HD6 := Lib.hid (HD5.out.putB (SR.sets (HN11.out.off (show a < b + 1 by have := HD4.out.ne; omega)) (RA.l8 D10) 0 w11 hr11) HN11.out); have HK5 := Lib.hid HD6.out.k; obtain ⟨⟨t0, t1, t2, t3, t4, t5, t6, t7, tl⟩, ⟨f0, f1, f2, f3, f4, f5, f6, f7⟩⟩ := HD4.out.aa.s8.all; obtain ⟨⟨y0, y1, y2, y3, y4, y5, y6, y7, yl⟩, ⟨g0, g1, g2, g3, g4, g5, g6, g7⟩⟩ := HD4.out.bb.s8.all; obtain ⟨z0, z1, z2, z3, z4, z5, z6, z7, zl⟩ := HD4.out.sa.s8.facts; clear hf11 hr11 hb)))
          first
            | (refine hK.out _ _ ?hS6 (fun hHeld => ?_))
            | (go_wp2_with fail; refine hK.out _ _ ?hT6 (fun hHeld => ?_))
          · (try dsimp only); (first | with_reducible exact HK1.out.1 | with_reducible exact HK2.out.1 | with_reducible exact HK3.out.1 | with_reducible exact HK4.out.1 | with_reducible exact HK5.out.1 | with_reducible exact HK0.out.1)
          clear hK K
          try simp only [Act.put, List.setIfInBounds_toArray, List.set_cons_zero, List.set_cons_succ]
          refine wpAnyH_ready (rs := [3]) (by kernel_rfl) (by simp) ?_
          refine AllReadyH.cons (o := ?o8) ?ho8 ?st8 AllReadyH.nil
          case ho8 => simp only [List.getElem?_toArray, List.getElem?_cons_succ, List.getElem?_cons_zero]; exact rfl
          case st8 =>
            intro K hK
            go_simp
            refine hK.out _ _ ?hS8 (fun hHeld => ?_)
            · (try dsimp only); (first | with_reducible exact HK1.out.1 | with_reducible exact HK2.out.1 | with_reducible exact HK3.out.1 | with_reducible exact HK4.out.1 | with_reducible exact HK5.out.1 | with_reducible exact HK0.out.1)
            clear hK K
            try simp only [Act.put, List.setIfInBounds_toArray, List.set_cons_zero, List.set_cons_succ]
            refine wpAnyH_ready (rs := [5]) (by kernel_rfl) (by simp) ?_
            refine AllReadyH.cons (o := ?o10) ?ho10 ?st10 AllReadyH.nil
            case ho10 => simp only [List.getElem?_toArray, List.getElem?_cons_succ, List.getElem?_cons_zero]; exact rfl
            case st10 =>
              intro K hK
              go_simp
              (go_at_call 79; (first | ((with_reducible refine (HGA.out A D4 _ HD0.out.aa.sr HD0.out.sa.sr).mono ?_); rintro e w10 ⟨D10, rfl, hf10, hr10, hb⟩; rw [← HA.out] at hr10; rw [← HA.out]; have HD3 := Lib.hid (HD0.out.below hb); have HK2 := Lib.hid HD3.out.k; have HR10 := Lib.hid hr10; have HN10 := Lib.hid (hf10 (b + 1) HD0.out.bb.lt HD0.out.na); obtain ⟨⟨t0, t1, t2, t3, t4, t5, t6, t7, tl⟩, ⟨f0, f1, f2, f3, f4, f5, f6, f7⟩⟩ := HD3.out.aa.s8.all; obtain ⟨⟨y0, y1, y2, y3, y4, y5, y6, y7, yl⟩, ⟨g0, g1, g2, g3, g4, g5, g6, g7⟩⟩ := HD3.out.bb.s8.all; obtain ⟨z0, z1, z2, z3, z4, z5, z6, z7, zl⟩ := HD3.out.sa.s8.facts; clear hf10 hr10 hb) | ((with_reducible refine (HGA.out B D8 _ HD3.out.bb.sr HD3.out.sa.sr).mono ?_); rintro e w11 ⟨D11, rfl, hf11, hr11, hb⟩; rw [← HB.out] at hr11; rw [← HB.out]; have HD4 := Lib.hid (HD3.out.below hb); have HK3 := Lib.hid HD4.out.k; have HN11 := Lib.hid (hf11 (b + 1) HD3.out.bb.lt HD3.out.nb); have HD5 := Lib.hid (HD4.out.putA (HR10.out.up hb) HN10.out); have HK4 := Lib.hid HD5.out.k; have HD6 := Lib.hid (HD5.out.putB (SR.sets (HN11.out.off (show a < b + 1 by have := HD4.out.ne; omega)) (RA.l8 D10) 0 w11 hr11) HN11.out); have HK5 := Lib.hid HD6.out.k; obtain ⟨⟨t0, t1, t2, t3, t4, t5, t6, t7, tl⟩, ⟨f0, f1, f2, f3, f4, f5, f6, f7⟩⟩ := HD4.out.aa.s8.all; obtain ⟨⟨y0, y1, y2, y3, y4, y5, y6, y7, yl⟩, ⟨g0, g1, g2, g3, g4, g5, g6, g7⟩⟩ := HD4.out.bb.s8.all; obtain ⟨z0, z1, z2, z3, z4, z5, z6, z7, zl⟩ := HD4.out.sa.s8.facts; clear hf11 hr11 hb)))
              first
                | (refine hK.out _ _ ?hS10 (fun hHeld => ?_))
                | (go_wp2_with fail; refine hK.out _ _ ?hT10 (fun hHeld => ?_))
              · (try dsimp only); (first | with_reducible exact HK1.out.1 | with_reducible exact HK2.out.1 | with_reducible exact HK3.out.1 | with_reducible exact HK4.out.1 | with_reducible exact HK5.out.1 | with_reducible exact HK0.out.1)
              clear hK K
              try simp only [Act.put, List.setIfInBounds_toArray, List.set_cons_zero, List.set_cons_succ]
              refine wpAnyH_ready (rs := [6]) (by kernel_rfl) (by simp) ?_
              refine AllReadyH.cons (o := ?o12) ?ho12 ?st12 AllReadyH.nil
              case ho12 => simp only [List.getElem?_toArray, List.getElem?_cons_succ, List.getElem?_cons_zero]; exact rfl
              case st12 =>
                intro K hK
                go_simp
                refine hK.out _ _ ?hS12 (fun hHeld => ?_)
                · (try dsimp only); (first | with_reducible exact HK1.out.1 | with_reducible exact HK2.out.1 | with_reducible exact HK3.out.1 | with_reducible exact HK4.out.1 | with_reducible exact HK5.out.1 | with_reducible exact HK0.out.1)
                clear hK K
                try simp only [Act.put, List.setIfInBounds_toArray, List.set_cons_zero, List.set_cons_succ]
                refine wpAnyH_ready (rs := [7]) (by kernel_rfl) (by simp) ?_
                refine AllReadyH.cons (o := ?o14) ?ho14 ?st14 AllReadyH.nil
                case ho14 => simp only [List.getElem?_toArray, List.getElem?_cons_succ, List.getElem?_cons_zero]; exact rfl
                case st14 =>
                  intro K hK
                  go_simp
                  refine hK.out _ _ ?hS14 (fun hHeld => ?_)
                  · (try dsimp only); (first | with_reducible exact HK1.out.1 | with_reducible exact HK2.out.1 | with_reducible exact HK3.out.1 | with_reducible exact HK4.out.1 | with_reducible exact HK5.out.1 | with_reducible exact HK0.out.1)
                  clear hK K
                  try simp only [Act.put, List.setIfInBounds_toArray, List.set_cons_zero, List.set_cons_succ]
                  refine wpAnyH_take (i := 8) (oi := ?o15) (v := ?v15) ?hi15 (by kernel_rfl) (by kernel_rfl) (by kernel_rfl) (fun _ _ _ h => h) (Or.inl ⟨?hw15, ?hy15⟩) (by assumption) ?_
                  case hi15 => simp only [List.getElem?_toArray, List.getElem?_cons_succ, List.getElem?_cons_zero]; exact rfl
                  case hw15 => rfl
                  case hy15 => intro w hSw; (try dsimp only at hSw); go_simp; all_goals (with_reducible rfl)
                  try simp only [Act.put, List.setIfInBounds_toArray, List.set_cons_zero, List.set_cons_succ]
                  refine wpAnyH_done (by kernel_rfl) ?_ _
                  refine NoPanic.normal ?_
                  go_wp2_with fail
                  go_meet
                  exact ⟨rfl, D10, D11, HD6⟩
        case mo6 =>
          refine AllReadyH.cons (o := ?o17) ?ho17 ?st17 AllReadyH.nil
          case ho17 => simp only [List.getElem?_toArray, List.getElem?_cons_succ, List.getElem?_cons_zero]; exact rfl
          case st17 =>
            intro K hK
            go_simp
            refine hK.out _ _ ?hS17 (fun hHeld => ?_)
            · (try dsimp only); (first | with_reducible exact HK1.out.1 | with_reducible exact HK2.out.1 | with_reducible exact HK3.out.1 | with_reducible exact HK4.out.1 | with_reducible exact HK5.out.1 | with_reducible exact HK0.out.1)
            clear hK K
            try simp only [Act.put, List.setIfInBounds_toArray, List.set_cons_zero, List.set_cons_succ]
            refine wpAnyH_ready (rs := [2]) (by kernel_rfl) (by simp) ?_
            refine AllReadyH.cons (o := ?o19) ?ho19 ?st19 AllReadyH.nil
            case ho19 => simp only [List.getElem?_toArray, List.getElem?_cons_succ, List.getElem?_cons_zero]; exact rfl
            case st19 =>
              intro K hK
              go_simp
              (go_at_call 79; (first | ((with_reducible refine (HGA.out A D4 _ HD0.out.aa.sr HD0.out.sa.sr).mono ?_); rintro e w10 ⟨D10, rfl, hf10, hr10, hb⟩; rw [← HA.out] at hr10; rw [← HA.out]; have HD3 := Lib.hid (HD0.out.below hb); have HK2 := Lib.hid HD3.out.k; have HR10 := Lib.hid hr10; have HN10 := Lib.hid (hf10 (b + 1) HD0.out.bb.lt HD0.out.na); obtain ⟨⟨t0, t1, t2, t3, t4, t5, t6, t7, tl⟩, ⟨f0, f1, f2, f3, f4, f5, f6, f7⟩⟩ := HD3.out.aa.s8.all; obtain ⟨⟨y0, y1, y2, y3, y4, y5, y6, y7, yl⟩, ⟨g0, g1, g2, g3, g4, g5, g6, g7⟩⟩ := HD3.out.bb.s8.all; obtain ⟨z0, z1, z2, z3, z4, z5, z6, z7, zl⟩ := HD3.out.sa.s8.facts; clear hf10 hr10 hb) | ((with_reducible refine (HGA.out B D8 _ HD3.out.bb.sr HD3.out.sa.sr).mono ?_); rintro e w11 ⟨D11, rfl, hf11, hr11, hb⟩; rw [← HB.out] at hr11; rw [← HB.out]; have HD4 := Lib.hid (HD3.out.below hb); have HK3 := Lib.hid HD4.out.k; have HN11 := Lib.hid (hf11 (b + 1) HD3.out.bb.lt HD3.out.nb); have HD5 := Lib.hid (HD4.out.putA (HR10.out.up hb) HN10.out); have HK4 := Lib.hid HD5.out.k; have HD6 := Lib.hid (HD5.out.putB (SR.sets (HN11.out.off (show a < b + 1 by have := HD4.out.ne; omega)) (RA.l8 D10) 0 w11 hr11) HN11.out); have HK5 := Lib.hid HD6.out.k; obtain ⟨⟨t0, t1, t2, t3, t4, t5, t6, t7, tl⟩, ⟨f0, f1, f2, f3, f4, f5, f6, f7⟩⟩ := HD4.out.aa.s8.all; obtain ⟨⟨y0, y1, y2, y3, y4, y5, y6, y7, yl⟩, ⟨g0, g1, g2, g3, g4, g5, g6, g7⟩⟩ := HD4.out.bb.s8.all; obtain ⟨z0, z1, z2, z3, z4, z5, z6, z7, zl⟩ := HD4.out.sa.s8.facts; clear hf11 hr11 hb)))
              first
                | (refine hK.out _ _ ?hS19 (fun hHeld => ?_))
                | (go_wp2_with fail; refine hK.out _ _ ?hT19 (fun hHeld => ?_))
              · (try dsimp only); (first | with_reducible exact HK1.out.1 | with_reducible exact HK2.out.1 | with_reducible exact HK3.out.1 | with_reducible exact HK4.out.1 | with_reducible exact HK5.out.1 | with_reducible exact HK0.out.1)
              clear hK K
              try simp only [Act.put, List.setIfInBounds_toArray, List.set_cons_zero, List.set_cons_succ]
              refine wpAnyH_ready (rs := [5]) (by kernel_rfl) (by simp) ?_
              refine AllReadyH.cons (o := ?o21) ?ho21 ?st21 AllReadyH.nil
              case ho21 => simp only [List.getElem?_toArray, List.getElem?_cons_succ, List.getElem?_cons_zero]; exact rfl
              case st21 =>
                intro K hK
                go_simp
                (go_at_call 79; (first | ((with_reducible refine (HGA.out A D4 _ HD0.out.aa.sr HD0.out.sa.sr).mono ?_); rintro e w10 ⟨D10, rfl, hf10, hr10, hb⟩; rw [← HA.out] at hr10; rw [← HA.out]; have HD3 := Lib.hid (HD0.out.below hb); have HK2 := Lib.hid HD3.out.k; have HR10 := Lib.hid hr10; have HN10 := Lib.hid (hf10 (b + 1) HD0.out.bb.lt HD0.out.na); obtain ⟨⟨t0, t1, t2, t3, t4, t5, t6, t7, tl⟩, ⟨f0, f1, f2, f3, f4, f5, f6, f7⟩⟩ := HD3.out.aa.s8.all; obtain ⟨⟨y0, y1, y2, y3, y4, y5, y6, y7, yl⟩, ⟨g0, g1, g2, g3, g4, g5, g6, g7⟩⟩ := HD3.out.bb.s8.all; obtain ⟨z0, z1, z2, z3, z4, z5, z6, z7, zl⟩ := HD3.out.sa.s8.facts; clear hf10 hr10 hb) | ((with_reducible refine (HGA.out B D8 _ HD3.out.bb.sr HD3.out.sa.sr).mono ?_); rintro e w11 ⟨D11, rfl, hf11, hr11, hb⟩; rw [← HB.out] at hr11; rw [← HB.out]; have HD4 := Lib.hid (HD3.out.below hb); have HK3 := Lib.hid HD4.out.k; have HN11 := Lib.hid (hf11 (b + 1) HD3.out.bb.lt HD3.out.nb); have HD5 := Lib.hid (HD4.out.putA (HR10.out.up hb) HN10.out); have HK4 := Lib.hid HD5.out.k; have HD6 := Lib.hid (HD5.out.putB (SR.sets (HN11.out.off (show a < b + 1 by have := HD4.out.ne; omega)) (RA.l8 D10) 0 w11 hr11) HN11.out); have HK5 := Lib.hid HD6.out.k; obtain ⟨⟨t0, t1, t2, t3, t4, t5, t6, t7, tl⟩, ⟨f0, f1, f2, f3, f4, f5, f6, f7⟩⟩ := HD4.out.aa.s8.all; obtain ⟨⟨y0, y1, y2, y3, y4, y5, y6, y7, yl⟩, ⟨g0, g1, g2, g3, g4, g5, g6, g7⟩⟩ := HD4.out.bb.s8.all; obtain ⟨z0, z1, z2, z3, z4, z5, z6, z7, zl⟩ := HD4.out.sa.s8.facts; clear hf11 hr11 hb)))
                first
                  | (refine hK.out _ _ ?hS21 (fun hHeld => ?_))
                  | (go_wp2_with fail; refine hK.out _ _ ?hT21 (fun hHeld => ?_))
                · (try dsimp only); (first | with_reducible exact HK1.out.1 | with_reducible exact HK2.out.1 | with_reducible exact HK3.out.1 | with_reducible exact HK4.out.1 | with_reducible exact HK5.out.1 | with_reducible exact HK0.out.1)
                clear hK K
                try simp only [Act.put, List.setIfInBounds_toArray, List.set_cons_zero, List.set_cons_succ]
                refine wpAnyH_ready (rs := [6]) (by kernel_rfl) (by simp) ?_
                refine AllReadyH.cons (o := ?o23) ?ho23 ?st23 AllReadyH.nil
                case ho23 => simp only [List.getElem?_toArray, List.getElem?_cons_succ, List.getElem?_cons_zero]; exact rfl
                case st23 =>
                  intro K hK
                  go_simp
                  refine hK.out _ _ ?hS23 (fun hHeld => ?_)
                  · (try dsimp only); (first | with_reducible exact HK1.out.1 | with_reducible exact HK2.out.1 | with_reducible exact HK3.out.1 | with_reducible exact HK4.out.1 | with_reducible exact HK5.out.1 | with_reducible exact HK0.out.1)
                  clear hK K
                  try simp only [Act.put, List.setIfInBounds_toArray, List.set_cons_zero, List.set_cons_succ]
                  refine wpAnyH_ready (rs := [7]) (by kernel_rfl) (by simp) ?_
                  refine AllReadyH.cons (o := ?o25) ?ho25 ?st25 AllReadyH.nil
                  case ho25 => simp only [List.getElem?_toArray, List.getElem?_cons_succ, List.getElem?_cons_zero]; exact rfl
                  case st25 =>
                    intro K hK
                    go_simp
                    refine hK.out _ _ ?hS25 (fun hHeld => ?_)
                    · (try dsimp only); (first | with_reducible exact HK1.out.1 | with_reducible exact HK2.out.1 | with_reducible exact HK3.out.1 | with_reducible exact HK4.out.1 | with_reducible exact HK5.out.1 | with_reducible exact HK0.out.1)
                    clear hK K
                    try simp only [Act.put, List.setIfInBounds_toArray, List.set_cons_zero, List.set_cons_succ]
                    refine wpAnyH_take (i := 8) (oi := ?o26) (v := ?v26) ?hi26 (by kernel_rfl) (by kernel_rfl) (by kernel_rfl) (fun _ _ _ h => h) (Or.inl ⟨?hw26, ?hy26⟩) (by assumption) ?_
                    case hi26 => simp only [List.getElem?_toArray, List.getElem?_cons_succ, List.getElem?_cons_zero]; exact rfl
                    case hw26 => rfl
                    case hy26 => intro w hSw; (try dsimp only at hSw); go_simp; all_goals (with_reducible rfl)
                    try simp only [Act.put, List.setIfInBounds_toArray, List.set_cons_zero, List.set_cons_succ]
                    refine wpAnyH_done (by kernel_rfl) ?_ _
                    refine NoPanic.normal ?_
                    go_wp2_with fail
                    go_meet
                    exact ⟨rfl, D10, D11, HD6⟩
      case mo4 =>
        refine AllReadyH.cons (o := ?o28) ?ho28 ?st28 AllReadyH.nil
        case ho28 => simp only [List.getElem?_toArray, List.getElem?_cons_succ, List.getElem?_cons_zero]; exact rfl
        case st28 =>
          intro K hK
          go_simp
          refine hK.out _ _ ?hS28 (fun hHeld => ?_)
          · (try dsimp only); (first | with_reducible exact HK1.out.1 | with_reducible exact HK2.out.1 | with_reducible exact HK3.out.1 | with_reducible exact HK4.out.1 | with_reducible exact HK5.out.1 | with_reducible exact HK0.out.1)
          clear hK K
          try simp only [Act.put, List.setIfInBounds_toArray, List.set_cons_zero, List.set_cons_succ]
          refine wpAnyH_ready (rs := [0]) (by kernel_rfl) (by simp) ?_
          refine AllReadyH.cons (o := ?o30) ?ho30 ?st30 AllReadyH.nil
          case ho30 => simp only [List.getElem?_toArray, List.getElem?_cons_zero]; exact rfl
          case st30 =>
            intro K hK
            go_simp
            refine hK.out _ _ ?hS30 (fun hHeld => ?_)
            · (try dsimp only); (first | with_reducible exact HK1.out.1 | with_reducible exact HK2.out.1 | with_reducible exact HK3.out.1 | with_reducible exact HK4.out.1 | with_reducible exact HK5.out.1 | with_reducible exact HK0.out.1)
            clear hK K
            try simp only [Act.put, List.setIfInBounds_toArray, List.set_cons_zero, List.set_cons_succ]
            refine wpAnyH_ready (rs := [2]) (by kernel_rfl) (by simp) ?_
            refine AllReadyH.cons (o := ?o32) ?ho32 ?st32 AllReadyH.nil
            case ho32 => simp only [List.getElem?_toArray, List.getElem?_cons_succ, List.getElem?_cons_zero]; exact rfl
            case st32 =>
              intro K hK
              go_simp
              (go_at_call 79; (first | ((with_reducible refine (HGA.out A D4 _ HD0.out.aa.sr HD0.out.sa.sr).mono ?_); rintro e w10 ⟨D10, rfl, hf10, hr10, hb⟩; rw [← HA.out] at hr10; rw [← HA.out]; have HD3 := Lib.hid (HD0.out.below hb); have HK2 := Lib.hid HD3.out.k; have HR10 := Lib.hid hr10; have HN10 := Lib.hid (hf10 (b + 1) HD0.out.bb.lt HD0.out.na); obtain ⟨⟨t0, t1, t2, t3, t4, t5, t6, t7, tl⟩, ⟨f0, f1, f2, f3, f4, f5, f6, f7⟩⟩ := HD3.out.aa.s8.all; obtain ⟨⟨y0, y1, y2, y3, y4, y5, y6, y7, yl⟩, ⟨g0, g1, g2, g3, g4, g5, g6, g7⟩⟩ := HD3.out.bb.s8.all; obtain ⟨z0, z1, z2, z3, z4, z5, z6, z7, zl⟩ := HD3.out.sa.s8.facts; clear hf10 hr10 hb) | ((with_reducible refine (HGA.out B D8 _ HD3.out.bb.sr HD3.out.sa.sr).mono ?_); rintro e w11 ⟨D11, rfl, hf11, hr11, hb⟩; rw [← HB.out] at hr11; rw [← HB.out]; have HD4 := Lib.hid (HD3.out.below hb); have HK3 := Lib.hid HD4.out.k; have HN11 := Lib.hid (hf11 (b + 1) HD3.out.bb.lt HD3.out.nb); have HD5 := Lib.hid (HD4.out.putA (HR10.out.up hb) HN10.out); have HK4 := Lib.hid HD5.out.k; have HD6 := Lib.hid (HD5.out.putB (SR.sets (HN11.out.off (show a < b + 1 by have := HD4.out.ne; omega)) (RA.l8 D10) 0 w11 hr11) HN11.out); have HK5 := Lib.hid HD6.out.k; obtain ⟨⟨t0, t1, t2, t3, t4, t5, t6, t7, tl⟩, ⟨f0, f1, f2, f3, f4, f5, f6, f7⟩⟩ := HD4.out.aa.s8.all; obtain ⟨⟨y0, y1, y2, y3, y4, y5, y6, y7, yl⟩, ⟨g0, g1, g2, g3, g4, g5, g6, g7⟩⟩ := HD4.out.bb.s8.all; obtain ⟨z0, z1, z2, z3, z4, z5, z6, z7, zl⟩ := HD4.out.sa.s8.facts; clear hf11 hr11 hb)))
              first
                | (refine hK.out _ _ ?hS32 (fun hHeld => ?_))
                | (go_wp2_with fail; refine hK.out _ _ ?hT32 (fun hHeld => ?_))
              · (try dsimp only); (first | with_reducible exact HK1.out.1 | with_reducible exact HK2.out.1 | with_reducible exact HK3.out.1 | with_reducible exact HK4.out.1 | with_reducible exact HK5.out.1 | with_reducible exact HK0.out.1)
              clear hK K
              try simp only [Act.put, List.setIfInBounds_toArray, List.set_cons_zero, List.set_cons_succ]
              refine wpAnyH_ready (rs := [5]) (by kernel_rfl) (by simp) ?_
              refine AllReadyH.cons (o := ?o34) ?ho34 ?st34 AllReadyH.nil
              case ho34 => simp only [List.getElem?_toArray, List.getElem?_cons_succ, List.getElem?_cons_zero]; exact rfl
              case st34 =>
                intro K hK
                go_simp
                (go_at_call 79; (first | ((with_reducible refine (HGA.out A D4 _ HD0.out.aa.sr HD0.out.sa.sr).mono ?_); rintro e w10 ⟨D10, rfl, hf10, hr10, hb⟩; rw [← HA.out] at hr10; rw [← HA.out]; have HD3 := Lib.hid (HD0.out.below hb); have HK2 := Lib.hid HD3.out.k; have HR10 := Lib.hid hr10; have HN10 := Lib.hid (hf10 (b + 1) HD0.out.bb.lt HD0.out.na); obtain ⟨⟨t0, t1, t2, t3, t4, t5, t6, t7, tl⟩, ⟨f0, f1, f2, f3, f4, f5, f6, f7⟩⟩ := HD3.out.aa.s8.all; obtain ⟨⟨y0, y1, y2, y3, y4, y5, y6, y7, yl⟩, ⟨g0, g1, g2, g3, g4, g5, g6, g7⟩⟩ := HD3.out.bb.s8.all; obtain ⟨z0, z1, z2, z3, z4, z5, z6, z7, zl⟩ := HD3.out.sa.s8.facts; clear hf10 hr10 hb) | ((with_reducible refine (HGA.out B D8 _ HD3.out.bb.sr HD3.out.sa.sr).mono ?_); rintro e w11 ⟨D11, rfl, hf11, hr11, hb⟩; rw [← HB.out] at hr11; rw [← HB.out]; have HD4 := Lib.hid (HD3.out.below hb); have HK3 := Lib.hid HD4.out.k; have HN11 := Lib.hid (hf11 (b + 1) HD3.out.bb.lt HD3.out.nb); have HD5 := Lib.hid (HD4.out.putA (HR10.out.up hb) HN10.out); have HK4 := Lib.hid HD5.out.k; have HD6 := Lib.hid (HD5.out.putB (SR.sets (HN11.out.off (show a < b + 1 by have := HD4.out.ne; omega)) (RA.l8 D10) 0 w11 hr11) HN11.out); have HK5 := Lib.hid HD6.out.k; obtain ⟨⟨t0, t1, t2, t3, t4, t5, t6, t7, tl⟩, ⟨f0, f1, f2, f3, f4, f5, f6, f7⟩⟩ := HD4.out.aa.s8.all; obtain ⟨⟨y0, y1, y2, y3, y4, y5, y6, y7, yl⟩, ⟨g0, g1, g2, g3, g4, g5, g6, g7⟩⟩ := HD4.out.bb.s8.all; obtain ⟨z0, z1, z2, z3, z4, z5, z6, z7, zl⟩ := HD4.out.sa.s8.facts; clear hf11 hr11 hb)))
                first
                  | (refine hK.out _ _ ?hS34 (fun hHeld => ?_))
                  | (go_wp2_with fail; refine hK.out _ _ ?hT34 (fun hHeld => ?_))
                · (try dsimp only); (first | with_reducible exact HK1.out.1 | with_reducible exact HK2.out.1 | with_reducible exact HK3.out.1 | with_reducible exact HK4.out.1 | with_reducible exact HK5.out.1 | with_reducible exact HK0.out.1)
                clear hK K
                try simp only [Act.put, List.setIfInBounds_toArray, List.set_cons_zero, List.set_cons_succ]
                refine wpAnyH_ready (rs := [6]) (by kernel_rfl) (by simp) ?_
                refine AllReadyH.cons (o := ?o36) ?ho36 ?st36 AllReadyH.nil
                case ho36 => simp only [List.getElem?_toArray, List.getElem?_cons_succ, List.getElem?_cons_zero]; exact rfl
                case st36 =>
                  intro K hK
                  go_simp
                  refine hK.out _ _ ?hS36 (fun hHeld => ?_)
                  · (try dsimp only); (first | with_reducible exact HK1.out.1 | with_reducible exact HK2.out.1 | with_reducible exact HK3.out.1 | with_reducible exact HK4.out.1 | with_reducible exact HK5.out.1 | with_reducible exact HK0.out.1)
                  clear hK K
                  try simp only [Act.put, List.setIfInBounds_toArray, List.set_cons_zero, List.set_cons_succ]
                  refine wpAnyH_ready (rs := [7]) (by kernel_rfl) (by simp) ?_
                  refine AllReadyH.cons (o := ?o38) ?ho38 ?st38 AllReadyH.nil
                  case ho38 => simp only [List.getElem?_toArray, List.getElem?_cons_succ, List.getElem?_cons_zero]; exact rfl
                  case st38 =>
                    intro K hK
                    go_simp
                    refine hK.out _ _ ?hS38 (fun hHeld => ?_)
                    · (try dsimp only); (first | with_reducible exact HK1.out.1 | with_reducible exact HK2.out.1 | with_reducible exact HK3.out.1 | with_reducible exact HK4.out.1 | with_reducible exact HK5.out.1 | with_reducible exact HK0.out.1)
                    clear hK K
                    try simp only [Act.put, List.setIfInBounds_toArray, List.set_cons_zero, List.set_cons_succ]
                    refine wpAnyH_take (i := 8) (oi := ?o39) (v := ?v39) ?hi39 (by kernel_rfl) (by kernel_rfl) (by kernel_rfl) (fun _ _ _ h => h) (Or.inl ⟨?hw39, ?hy39⟩) (by assumption) ?_
                    case hi39 => simp only [List.getElem?_toArray, List.getElem?_cons_succ, List.getElem?_cons_zero]; exact rfl
                    case hw39 => rfl
                    case hy39 => intro w hSw; (try dsimp only at hSw); go_simp; all_goals (with_reducible rfl)
                    try simp only [Act.put, List.setIfInBounds_toArray, List.set_cons_zero, List.set_cons_succ]
                    refine wpAnyH_done (by kernel_rfl) ?_ _
                    refine NoPanic.normal ?_
                    go_wp2_with fail
                    go_meet
                    exact ⟨rfl, D10, D11, HD6⟩
    case rest =>
      clear t0 t1 t2 t3 t4 t5 t6 t7 tl f0 f1 f2 f3 f4 f5 f6 f7 y0 y1 y2 y3 y4 y5 y6 y7 yl g0 g1 g2 g3 g4 g5 g6 g7 z0 z1 z2 z3 z4 z5 z6 z7 zl HK0 HD0 HK1 H9
      obtain ⟨rfl, D10, D11, H12⟩ := hcut
      obtain ⟨⟨t0, t1, t2, t3, t4, t5, t6, t7, tl⟩, ⟨f0, f1, f2, f3, f4, f5, f6, f7⟩⟩ := H12.out.aa.s8.all
      obtain ⟨⟨y0, y1, y2, y3, y4, y5, y6, y7, yl⟩, ⟨g0, g1, g2, g3, g4, g5, g6, g7⟩⟩ := H12.out.bb.s8.all
      go_wp2
      exact bodyPost_ret (v := .tuple #[sv RA D10, sv RB D11, .int .i64 0]) (by simp only [results, Tryz.results26]; go_simp <;> rfl) rfl (by rw [HX0.out]; exact H12.out.out 0)
  · have hxb : (x != 0) = true := bne_iff_ne.2 hx
    rw [if_neg hx] at HRA HRB
    have HA := Lib.hid HRA.out
    have HB := Lib.hid HRB.out
    clear hx HRA HRB
    have H3 := Lib.hid (H2.out.putA SR.zero (zX_nw _))
    have H4 := Lib.hid (H3.out.putB SR.zero (zX_nw _))
    have HF := Lib.hid (show SE2 w RA RB x (.returned (.tuple #[sv zS zX, sv zS zX, .int .i64 x])) (set8s (set8s w2 a zS zX) b zS zX) from by
      rw [HA.out, HB.out]
      exact H4.out.out x)
    obtain ⟨⟨t0, t1, t2, t3, t4, t5, t6, t7, tl⟩, ⟨f0, f1, f2, f3, f4, f5, f6, f7⟩⟩ := H2.out.aa.s8.all
    obtain ⟨⟨y0, y1, y2, y3, y4, y5, y6, y7, yl⟩, ⟨g0, g1, g2, g3, g4, g5, g6, g7⟩⟩ := H2.out.bb.s8.all
    have HAB := Lib.hid (show ¬ a = b ∧ ¬ b = a by have := H2.out.ne; omega)
    obtain ⟨hab, hba⟩ := HAB.out
    go_wp2
    exact bodyPost_ret (v := .tuple #[.agg #[.bool false, .int .i64 0, .int .i64 0, .slice none 0 0, .int .i64 0, .int .i64 0, .slice none 0 0, .slice none 0 0], .agg #[.bool false, .int .i64 0, .int .i64 0, .slice none 0 0, .int .i64 0, .int .i64 0, .slice none 0 0, .slice none 0 0], .int .i64 x]) (by simp only [results, Tryz.results26]; go_simp <;> rfl) rfl HF.out
end Go.Proofs.YtkkgfnncdaiooaaGreat
/- Plain: the halves of a valid shard, and what uniting them gives. -/
namespace Go.Proofs.YtkkgfnncdaiooaaGreat
open Go.RowKit
set_option linter.unusedVariables false

theorem asc_eq : ∀ {l m : List Le}, Asc Le.id l → Asc Le.id m → l.Perm m → l = m
  | [], m, _, _, p => (List.Perm.eq_nil p.symm).symm
  | a :: l, [], _, _, p => by have := p.length_eq; simp at this
  | a :: l, b :: m, ha, hb, p => by
    have ha' := List.pairwise_cons.1 ha
    have hb' := List.pairwise_cons.1 hb
    have e : a = b := by
      rcases List.mem_cons.1 (p.mem_iff.1 (List.mem_cons_self ..)) with e | e
      · exact e
      · rcases List.mem_cons.1 (p.mem_iff.2 (List.mem_cons_self ..)) with e' | e'
        · exact e'.symm
        · have h1 := ha'.1 b e'
          have h2 := hb'.1 a e
          omega
    subst e
    rw [asc_eq ha'.2 hb'.2 ((List.perm_cons a).1 p)]
theorem gd_one {l : List Msg} (h : Gd l) {M N : Msg} (hM : M ∈ l) (hN : N ∈ l) (e : N.id = M.id) : N = M := by
  obtain ⟨i, hi, rfl⟩ := List.mem_iff_getElem.1 hM
  obtain ⟨j, hj, rfl⟩ := List.mem_iff_getElem.1 hN
  have hp := List.pairwise_iff_getElem.1 ((dup_pair l).1 h.2)
  rcases Nat.lt_trichotomy i j with h1 | h1 | h1
  · exact absurd e.symm (hp i j hi hj h1)
  · subst h1; rfl
  · exact absurd e (hp j i hj hi h1)
theorem filt_perm (l : List Msg) (p q : Msg → Bool) (h : ∀ M ∈ l, q M = !p M) : (l.filter p ++ l.filter q).Perm l := by
  rw [show l.filter q = l.filter (fun M => !p M) from List.filter_congr h]
  exact List.filter_append_perm p l
theorem filt_permL (l : List Le) (p q : Msg → Bool) (h : ∀ x ∈ l, q x.m = !p x.m) : (l.filter (fun x => q x.m) ++ l.filter (fun x => p x.m)).Perm l := by
  rw [show l.filter (fun x => q x.m) = l.filter (fun x => !p x.m) from List.filter_congr h]
  exact List.perm_append_comm.trans (List.filter_append_perm (fun x => p x.m) l)
theorem filt_al (V : Vs) (p : Msg → Bool) : V.al.filter p = V.L.filter p ++ (V.l.filter (fun x => p x.m)).map Le.m := by
  show (V.L ++ V.l.map Le.m).filter p = _
  rw [List.filter_append, List.filter_map]
  rfl

def Vs.part (V : Vs) (lo hi : Int) : Vs := ⟨lo, hi, V.n, 0, [], [], []⟩
section
variable {V : Vs} {lo hi : Int}
theorem part_ok (k : V.Ok) (h : 0 ≤ lo ∧ lo ≤ hi ∧ hi < 65536) : (V.part lo hi).Ok :=
  ⟨k.n1, k.n2, by have := k.n1; show 0 < V.n; omega, TbOk.nil, h, by show 0 + 0 ≤ V.n; omega, ⟨fun M h => (by cases h), fun ⟨i, j, hi, _⟩ => absurd hi (Nat.not_lt_zero _)⟩, fun M h => (by cases h)⟩
theorem part_ne (k : V.Ok) (h : 0 ≤ lo ∧ lo ≤ hi ∧ hi < 65536) : neS V.sh.cs.length lo hi = (V.part lo hi).sh := by
  have e : V.sh.cs.length = V.n := fil_len _ _ _
  obtain ⟨e1, e2⟩ := nwC_fil k.n1 k.n2 0 (by have := k.n1; omega)
  rw [e]
  have hE : neE (V.n : Int) lo hi = 0 := by
    unfold neE
    rw [if_neg (by rw [e2]; simp), if_pos (spB_iff.2 h)]
  unfold neS
  rw [if_pos hE, e1]
  rfl
theorem part_gth (k : V.Ok) (h : 0 ≤ lo ∧ lo ≤ hi ∧ hi < 65536) : ∃ A : Vs, A.Ok ∧ gthF (neS V.sh.cs.length lo hi) V.sh = A.sh ∧ A.lo = lo ∧ A.hi = hi ∧ A.n = V.n ∧ A.L = V.L.filter (V.part lo hi).has ∧ A.l.Perm (V.l.filter (fun x => (V.part lo hi).has x.m)) ∧ A.al.Perm (V.al.filter (V.part lo hi).has) := by
  have hgp : Gd (V.l.map Le.m ++ V.L) := gd_perm (List.perm_append_comm (l₁ := V.L) (l₂ := V.l.map Le.m)) k.gd
  have hg : Gd ((V.l.filter (fun x => (V.part lo hi).has x.m)).map Le.m ++ (V.L.filter (V.part lo hi).has ++ (V.part lo hi).al)) := by
    rw [show (V.part lo hi).al = [] from rfl, List.append_nil]
    exact gd_sub ((List.filter_sublist.map _).append List.filter_sublist) hgp
  have h1 : (V.L.filter (V.part lo hi).has).length ≤ V.L.length := List.length_filter_le _ _
  have h2 : (V.l.filter (fun x => (V.part lo hi).has x.m)).length ≤ V.l.length := List.length_filter_le _ _
  obtain ⟨A, ka, e, q1, q2, q3, q4, q5, q6⟩ := gth_ok (part_ok k h) k hg (by have := k.room; show 0 + 0 + _ + _ ≤ V.n; omega)
  have q5' : A.L = V.L.filter (V.part lo hi).has := by rw [q5]; rfl
  have q6' : A.l.Perm (V.l.filter (fun x => (V.part lo hi).has x.m)) := by
    have := q6; rw [show (V.part lo hi).l = [] from rfl, List.append_nil] at this; exact this
  refine ⟨A, ka, by rw [part_ne k h]; exact e, q1, q2, q3, q5', q6', ?_⟩
  rw [filt_al]
  show (A.L ++ A.l.map Le.m).Perm _
  rw [q5']
  exact (q6'.map _).append_left _
end
theorem stF_vs {V : Vs} (k : V.Ok) : stF V.sh = (V.L.length : Int) + V.l.length := if_pos (by rw [k.ex true]; rfl)
theorem hv_ok {V : Vs} {mid : Int} (k : V.Ok) (m0 : V.lo ≤ mid) (m1 : mid < V.hi) : ∃ A B Y : Vs, (A.Ok ∧ B.Ok ∧ Y.Ok) ∧ (dvE V.sh mid = 0 ∧ dvA V.sh mid = A.sh ∧ dvB V.sh mid = B.sh) ∧ (A.hi + 1 = B.lo ∧ A.n = V.n ∧ A.L.length + A.l.length + (B.L.length + B.l.length) = V.L.length + V.l.length) ∧
    ((∀ M ∈ V.al, (∃ N ∈ A.al, N.id = M.id) ↔ M.rt ≤ mid) ∧ (∀ M ∈ V.al, (∃ N ∈ B.al, N.id = M.id) ↔ ¬ M.rt ≤ mid)) ∧ dpB (A.al ++ B.al) = false ∧ (A.al ++ B.al).length ≤ 1000 ∧ gthF (A.sh.sp A.lo B.hi) B.sh = Y.sh ∧ (Y.lo = V.lo ∧ Y.hi = V.hi ∧ idsF Y.al = idsF V.al ∧ Y.l = V.l) := by
  have hsp := k.sp
  obtain ⟨A, ka, ea, a1, a2, a3, a5, a6, a7⟩ := part_gth k (lo := V.lo) (hi := mid) ⟨by omega, m0, by omega⟩
  obtain ⟨B, kb, eb, b1, b2, b3, b5, b6, b7⟩ := part_gth k (lo := mid + 1) (hi := V.hi) ⟨by omega, by omega, by omega⟩
  have hpA : ∀ M ∈ V.al, ((V.part V.lo mid).has M = true ↔ M.rt ≤ mid) := fun M hM => by
    rw [has_iff]
    have := k.own M hM
    show V.lo ≤ M.rt ∧ M.rt ≤ mid ↔ _
    omega
  have hpB : ∀ M ∈ V.al, ((V.part (mid + 1) V.hi).has M = true ↔ ¬ M.rt ≤ mid) := fun M hM => by
    rw [has_iff]
    have := k.own M hM
    show mid + 1 ≤ M.rt ∧ M.rt ≤ V.hi ↔ _
    omega
  have hno : ∀ M ∈ V.al, (V.part (mid + 1) V.hi).has M = !(V.part V.lo mid).has M := fun M hM => by
    have h1 := hpA M hM
    have h2 := hpB M hM
    cases e1 : (V.part V.lo mid).has M <;> cases e2 : (V.part (mid + 1) V.hi).has M <;> simp_all
  have hp : (A.al ++ B.al).Perm V.al := (a7.append b7).trans (filt_perm V.al _ _ hno)
  have hpl : (B.l ++ A.l).Perm V.l := (b6.append a6).trans (filt_permL V.l _ _ (fun x hx => hno x.m (List.mem_append_right _ (List.mem_map.2 ⟨x, hx, rfl⟩))))
  have hlen : A.L.length + A.l.length + (B.L.length + B.l.length) = V.L.length + V.l.length := by
    have := hp.length_eq
    simp only [List.length_append, Vs.al, List.length_map] at this
    omega
  have hmA : ∀ N, N ∈ A.al ↔ N ∈ V.al ∧ N.rt ≤ mid := fun N => by
    rw [a7.mem_iff, List.mem_filter]
    exact ⟨fun h => ⟨h.1, (hpA N h.1).1 h.2⟩, fun h => ⟨h.1, (hpA N h.1).2 h.2⟩⟩
  have hmB : ∀ N, N ∈ B.al ↔ N ∈ V.al ∧ ¬ N.rt ≤ mid := fun N => by
    rw [b7.mem_iff, List.mem_filter]
    exact ⟨fun h => ⟨h.1, (hpB N h.1).1 h.2⟩, fun h => ⟨h.1, (hpB N h.1).2 h.2⟩⟩
  have hgab : Gd (A.al ++ B.al) := gd_perm hp.symm k.gd
  -- uniting
  have kU : (Vs.mk A.lo B.hi A.n A.hd A.L A.l A.h).Ok := ⟨ka.n1, ka.n2, ka.hh, ka.tb, by rw [a1, b2]; exact hsp, ka.room, ka.gd, fun M hM => by
    have h1 := ka.own M hM
    rw [a1, a2] at h1
    show A.lo ≤ M.rt ∧ M.rt ≤ B.hi
    rw [a1, b2]
    omega⟩
  have hall : ∀ M ∈ B.al, (Vs.mk A.lo B.hi A.n A.hd A.L A.l A.h).has M = true := fun M hM => by
    rw [has_iff]
    have h1 := kb.own M hM
    rw [b1, b2] at h1
    show A.lo ≤ M.rt ∧ M.rt ≤ B.hi
    rw [a1, b2]
    omega
  have f1 : B.L.filter (Vs.mk A.lo B.hi A.n A.hd A.L A.l A.h).has = B.L := List.filter_eq_self.2 fun M hM => hall M (List.mem_append_left _ hM)
  have f2 : B.l.filter (fun x => (Vs.mk A.lo B.hi A.n A.hd A.L A.l A.h).has x.m) = B.l := List.filter_eq_self.2 fun x hx => hall x.m (List.mem_append_right _ (List.mem_map.2 ⟨x, hx, rfl⟩))
  have hq : (A.al ++ B.al).Perm (B.l.map Le.m ++ (B.L ++ A.al)) := by
    show (A.al ++ (B.L ++ B.l.map Le.m)).Perm _
    rw [← List.append_assoc]
    exact List.perm_append_comm.trans ((List.perm_append_comm (l₁ := A.al) (l₂ := B.L)).append_left _)
  obtain ⟨Y, ky, ey, y1, y2, y3, y4, y5, y6⟩ := gth_ok kU kb (by rw [f1, f2]; exact gd_perm hq hgab) (by rw [f1, f2]; have := k.room; show A.L.length + A.l.length + B.L.length + B.l.length ≤ A.n; omega)
  rw [f2] at y6
  rw [f1] at y5
  have hY : Y.al.Perm V.al := by
    refine List.Perm.trans ?_ hp
    show (Y.L ++ Y.l.map Le.m).Perm _
    rw [y5]
    refine (((y6.map Le.m).append_left (A.L ++ B.L))).trans ?_
    rw [List.map_append]
    show (A.L ++ B.L ++ (B.l.map Le.m ++ A.l.map Le.m)).Perm (A.L ++ A.l.map Le.m ++ (B.L ++ B.l.map Le.m))
    rw [List.append_assoc, List.append_assoc]
    refine List.Perm.append_left _ ?_
    rw [← List.append_assoc]
    exact List.perm_append_comm
  have hd : dvE V.sh mid = 0 := by
    unfold dvE
    rw [k.ex]
    exact if_pos (wi_true m0 (show mid ≤ V.hi - 1 by omega))
  refine ⟨A, B, Y, ⟨ka, kb, ky⟩, ⟨?_, ?_, ?_⟩, ⟨by rw [a2, b1], a3, hlen⟩, ⟨fun M hM => ?_, fun M hM => ?_⟩, dpB_no hgab.2, ?_, ey, y1.trans a1, y2.trans b2, idsF_same (hY.map _), asc_eq ky.tb.asc k.tb.asc (y6.trans hpl)⟩
  · exact hd
  · unfold dvA
    rw [if_pos hd]
    exact ea
  · unfold dvB
    rw [if_pos hd]
    exact eb
  · constructor
    · rintro ⟨N, hN, e⟩
      have h := (hmA N).1 hN
      rw [← gd_one k.gd hM h.1 e]; exact h.2
    · intro h; exact ⟨M, (hmA M).2 ⟨hM, h⟩, rfl⟩
  · constructor
    · rintro ⟨N, hN, e⟩
      have h := (hmB N).1 hN
      rw [← gd_one k.gd hM h.1 e]; exact h.2
    · intro h; exact ⟨M, (hmB M).2 ⟨hM, h⟩, rfl⟩
  · have h1 := hp.length_eq
    rw [h1]
    have := k.room
    have := k.n2
    simp only [Vs.al, List.length_append, List.length_map]
    omega
end Go.Proofs.YtkkgfnncdaiooaaGreat
