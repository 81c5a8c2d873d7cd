/- What is proved here: shardqueueref05.Same of two lists that read alike are true; shardqueueref06.SameLeases, Same of two lists, two tables that read alike are true; ref07.Same of two shards of one content is true; ref12.Same says yes to equal arenas; the methods of an atomic number, arena.swap by contracts. -/
import Derived.Test.YtijpflljopckiaaGreatJ19
import Derived.Test.YtijpflljopckiaaGreatJ26
import Derived.Test.YtijpflljopckiaaGreatJ09
import Derived.Deep.QuietTactic
import Derived.BigQuiet
import Derived.Test.YtijpflljopckiaaGreatJ33
import Derived.Test.YtijpflljopckiaaGreatJ10
import Derived.Test.YtijpflljopckiaaGreatJ23
import Derived.Test.YtijpflljopckiaaGreatJ12
import Derived.Test.YtijpflljopckiaaGreatJ13
import Derived.Test.YtijpflljopckiaaGreatJ03
import Derived.Test.YtijpflljopckiaaGreatRows
import Derived.Test.YtijpflljopckiaaGreatJ02
import Derived.WalkKit
import Derived.Outline
import Derived.IntWalk
import Derived.Test.YtijpflljopckiaaGreatJ22
import Derived.Deep.RegionHeld3
import Derived.Deep.DeepCutAuto
import Derived.Laws.LoneSync
namespace Go.Proofs.YtijpflljopckiaaGreat
open Go.RowKit
set_option linter.unusedVariables false

set_option maxHeartbeats 2000000 in
theorem rsame5_yes (A A' : Option Addr) (n n' c c' : Nat) (l : List Du) (w : World) (B B' : Nat) (hv : Dl w B (.slice A n c) l) (hv' : Dl w B' (.slice A' n' c') l) :
    Calls Tryz.prog 58 #[.slice A n c, .slice A' n' c'] w fun e w' => e = .returned (.bool true) ∧ Below w.heap.size w w' := by
  obtain ⟨rfl, hm1, hm2⟩ := hv.len
  obtain ⟨rfl, hm1', hm2'⟩ := hv'.len
  have hL : l.length ≤ 9223372036854775807 := by unfold maxLen at hm2; omega
  have HV := Lib.hid hv
  have HV' := Lib.hid hv'
  have HB := Lib.hid (Below.refl w.heap.size w)
  clear hv hm1 hm2 hv' hm1' hm2'
  go_enter Tryz.func58, Tryz.ntmps58
  go_wp2
  go_loopw [5] (fun i wr => ∃ k : Nat, k ≤ l.length ∧ i = .int .i64 k ∧ Dl wr B (.slice A l.length c) l ∧ Dl wr B' (.slice A' l.length c') l ∧ Below w.heap.size w wr) (fun i _ => l.length - (intOf i).toNat)
  case atStart => exact ⟨0, by omega, rfl, HV.out, HV'.out, HB.out⟩
  case round =>
    obtain ⟨k, hk, rfl, hv, hv', hb⟩ := hrel
    have HV := Lib.hid hv
    have HV' := Lib.hid hv'
    have HB := Lib.hid hb
    clear hv hv' hb
    by_cases hlt : k < l.length
    · obtain ⟨b, o, rfl, hb, c0, c1⟩ := HV.out.atg hlt
      obtain ⟨b', o', rfl, hb', d0, d1⟩ := HV'.out.atg hlt
      generalize ge l k = M at *
      have hne := neqd_no M
      go_wp2
      go_quiet (fail)
      go_wp2
      go_roundw
      case rel => exact ⟨k + 1, by omega, by go_num, HV.out.drewN _, HV'.out.drewN _, bel_drewN HB.out _⟩
      case measure => simp [intOf]; omega
    · go_wp2
      go_ret
      exact ⟨rfl, HB.out⟩

end Go.Proofs.YtijpflljopckiaaGreat
namespace Go.Proofs.YtijpflljopckiaaGreat
open Go.RowKit
set_option linter.unusedVariables false

set_option maxHeartbeats 2000000 in
theorem rsamel_yes (A A' : Option Addr) (n n' c c' : Nat) (l : List Le) (w : World) (B B' : Nat) (hv : El w B (.slice A n c) l) (hv' : El w B' (.slice A' n' c') l) :
    Calls Tryz.prog 57 #[.slice A n c, .slice A' n' c'] w fun e w' => e = .returned (.bool true) ∧ Below w.heap.size w w' := by
  obtain ⟨rfl, hm1, hm2⟩ := hv.len
  obtain ⟨rfl, hm1', hm2'⟩ := hv'.len
  have hL : l.length ≤ 9223372036854775807 := by unfold maxLen at hm2; omega
  have HV := Lib.hid hv
  have HV' := Lib.hid hv'
  have HB := Lib.hid (Below.refl w.heap.size w)
  clear hv hm1 hm2 hv' hm1' hm2'
  go_enter Tryz.func57, Tryz.ntmps57
  go_wp2
  go_loopw [5] (fun i wr => ∃ k : Nat, k ≤ l.length ∧ i = .int .i64 k ∧ El wr B (.slice A l.length c) l ∧ El wr B' (.slice A' l.length c') l ∧ Below w.heap.size w wr) (fun i _ => l.length - (intOf i).toNat)
  case atStart => exact ⟨0, by omega, rfl, HV.out, HV'.out, HB.out⟩
  case round =>
    obtain ⟨k, hk, rfl, hv, hv', hb⟩ := hrel
    have HV := Lib.hid hv
    have HV' := Lib.hid hv'
    have HB := Lib.hid hb
    clear hv hv' hb
    by_cases hlt : k < l.length
    · obtain ⟨b, o, rfl, _⟩ := HV.out.some_ (by omega)
      obtain ⟨b', o', rfl, _⟩ := HV'.out.some_ (by omega)
      obtain ⟨⟨c0, c1, c2, c3, c4, c5, c6, c7⟩, hb⟩ := HV.out.c8 hlt
      obtain ⟨⟨d0, d1, d2, d3, d4, d5, d6, d7⟩, hb'⟩ := HV'.out.c8 hlt
      generalize l[k] = M at *
      have hne := neql M
      go_wp2
      go_quiet (fail)
      go_wp2
      go_roundw
      case rel => exact ⟨k + 1, by omega, by go_num, HV.out.drewN _, HV'.out.drewN _, bel_drewN HB.out _⟩
      case measure => simp [intOf]; omega
    · go_wp2
      go_ret
      exact ⟨rfl, HB.out⟩

set_option maxHeartbeats 2000000 in
theorem rtsame_yes (A A' : Option Addr) (n n' c c' : Nat) (l : List Le) (A2 A2' : Option Addr) (n2 n2' c2 c2' : Nat) (h : List Du) (w : World)
    (hv : El w w.heap.size (.slice A n c) l) (hv' : El w w.heap.size (.slice A' n' c') l) (hd : Dl w w.heap.size (.slice A2 n2 c2) h) (hd' : Dl w w.heap.size (.slice A2' n2' c2') h) :
    Calls Tryz.prog 32 #[tv A n c A2 n2 c2, tv A' n' c' A2' n2' c2'] w fun e w' => e = .returned (.bool true) ∧ Below w.heap.size w w' := by
  have HB := Lib.hid (((Below.refl w.heap.size w).alloc (Nat.le_refl _) (.cells #[.slice A n c, .slice A2 n2 c2] 52)).alloc (by simp) (.cells #[.slice A' n' c', .slice A2' n2' c2'] 52))
  have HE := Lib.hid (fun W (hb : Below w.heap.size w W) => rsamel_yes A A' n n' c c' l W _ _ (hv.below hb) (hv'.below hb))
  have HD := Lib.hid (fun W (hb : Below w.heap.size w W) => rsame5_yes A2 A2' n2 n2' c2 c2' h W _ _ (hd.below hb) (hd'.below hb))
  have HT := Lib.hid ((TB.start w A n c A2 n2 c2 52).below ((Below.refl (w.heap.size + 1) _).alloc (by simp) (.cells #[.slice A' n' c', .slice A2' n2' c2'] 52)) (Nat.lt_succ_self _))
  have HT' := Lib.hid (TB.start (w.alloc (.cells #[.slice A n c, .slice A2 n2 c2] 52)) A' n' c' A2' n2' c2' 52)
  rw [show (w.alloc (.cells #[.slice A n c, .slice A2 n2 c2] 52)).heap.size = w.heap.size + 1 by simp] at HT'
  clear hv hv' hd hd'
  go_enter Tryz.func32, Tryz.ntmps32
  go_wp2_with fail
  obtain ⟨p, hp⟩ : ∃ p, p = w.heap.size := ⟨_, rfl⟩
  obtain ⟨q, hq⟩ : ∃ q, q = w.heap.size + 1 := ⟨_, rfl⟩
  rw [← hq] at HT'
  rw [← hp] at HT
  rw [← hq, ← hp]
  clear hq hp
  generalize (w.alloc (.cells #[.slice A n c, .slice A2 n2 c2] 52)).alloc (.cells #[.slice A' n' c', .slice A2' n2' c2'] 52) = w2 at *
  refine (HE.out _ HB.out).mono ?_
  rintro e w3 ⟨rfl, hb⟩
  obtain ⟨t0, t1, tl⟩ := HT.out.below hb HT.out.2.2
  obtain ⟨s0, s1, sl⟩ := HT'.out.below hb HT'.out.2.2
  have HB3 := Lib.hid (HB.out.trans (hb.mono HB.out.size))
  clear hb
  go_wp2_with fail
  refine (HD.out _ HB3.out).mono ?_
  rintro e w4 ⟨rfl, hb⟩
  have HB4 := Lib.hid (HB3.out.trans (hb.mono HB3.out.size))
  clear hb
  go_wp2
  go_ret
  exact ⟨rfl, HB4.out⟩
end Go.Proofs.YtijpflljopckiaaGreat
namespace Go.Proofs.YtijpflljopckiaaGreat
open Go.RowKit
set_option linter.unusedVariables false

/-- Two boxes of shards, read only. -/
structure TwAt7 (w : World) (p q : Nat) (S : Sh) (D E : Sx) (W : World) : Prop where
  a : SAt w p S D W
  b : SAt w q S E W
theorem TwAt7.below {w W W' : World} {p q : Nat} {S : Sh} {D E : Sx} (h : TwAt7 w p q S D E W) (hb : Below W.heap.size W W') : TwAt7 w p q S D E W' := ⟨h.a.below hb, h.b.below hb⟩
theorem SAt.from7 {w w1 : World} {p : Nat} {S : Sh} {D : Sx} {W : World} (h : SAt w1 p S D W) (hw : Below w.heap.size w w1) : SAt w p S D W := ⟨h.s8, h.sr, h.off, hw.trans (h.bel.mono hw.size), Nat.le_trans hw.size h.old⟩
theorem TwAt7.start (w : World) (S : Sh) (D E : Sx) (hs : SR w w.heap.size S D) (ht : SR w w.heap.size S E) : TwAt7 w w.heap.size (w.heap.size + 1) S D E ((w.alloc (.cells #[.bool S.lv, .int .i64 S.lo, .int .i64 S.hi, .slice D.A S.cs.length D.c, .int .i64 S.hd, .int .i64 S.sz, .slice D.A2 S.l.length D.c2, .slice D.A3 S.h.length D.c3] 54)).alloc (.cells #[.bool S.lv, .int .i64 S.lo, .int .i64 S.hi, .slice E.A S.cs.length E.c, .int .i64 S.hd, .int .i64 S.sz, .slice E.A2 S.l.length E.c2, .slice E.A3 S.h.length E.c3] 54)) := by
  have hb := (Below.refl w.heap.size w).alloc (Nat.le_refl _) (.cells #[.bool S.lv, .int .i64 S.lo, .int .i64 S.hi, .slice D.A S.cs.length D.c, .int .i64 S.hd, .int .i64 S.sz, .slice D.A2 S.l.length D.c2, .slice D.A3 S.h.length D.c3] 54)
  have h1 := SAt.from7 (SAt.start 54 (ht.up hb)) hb
  rw [show (w.alloc (.cells #[.bool S.lv, .int .i64 S.lo, .int .i64 S.hi, .slice D.A S.cs.length D.c, .int .i64 S.hd, .int .i64 S.sz, .slice D.A2 S.l.length D.c2, .slice D.A3 S.h.length D.c3] 54)).heap.size = w.heap.size + 1 by simp] at h1
  exact ⟨(SAt.start 54 hs).alloc _, h1⟩
set_option maxHeartbeats 4000000 in
set_option maxRecDepth 20000 in
theorem rsame7_yes (S : Sh) (D E : Sx) (w : World) (hs : SR w w.heap.size S D) (ht : SR w w.heap.size S E) :
    Calls Tryz.prog 14 #[sv S D, sv S E] w fun e w' => e = .returned (.bool true) ∧ Below w.heap.size w w' := by
  have H0 := Lib.hid (TwAt7.start w S D E hs ht)
  have HG := Lib.hid (fun p q W (h : TwAt7 w p q S D E W) => gsame_yes D.A E.A S.cs.length S.cs.length D.c E.c S.hd S.sz S.cs W W.heap.size W.heap.size (Nat.le_refl _) (Nat.le_refl _) h.a.sr.ls h.b.sr.ls)
  have HT := Lib.hid (fun p q W (h : TwAt7 w p q S D E W) => rtsame_yes D.A2 E.A2 S.l.length S.l.length D.c2 E.c2 S.l D.A3 E.A3 S.h.length S.h.length D.c3 E.c3 S.h W h.a.sr.el h.b.sr.el h.a.sr.dl h.b.sr.dl)
  clear hs ht
  go_enter Tryz.func14, Tryz.ntmps14
  go_wp2_with fail
  obtain ⟨p, hp⟩ : ∃ p, p = w.heap.size := ⟨_, rfl⟩
  obtain ⟨q, hq⟩ : ∃ q, q = w.heap.size + 1 := ⟨_, rfl⟩
  rw [← hq, ← hp] at H0
  rw [← hq, ← hp]
  clear hq hp
  generalize (w.alloc (.cells #[.bool S.lv, .int .i64 S.lo, .int .i64 S.hi, .slice D.A S.cs.length D.c, .int .i64 S.hd, .int .i64 S.sz, .slice D.A2 S.l.length D.c2, .slice D.A3 S.h.length D.c3] 54)).alloc (.cells #[.bool S.lv, .int .i64 S.lo, .int .i64 S.hi, .slice E.A S.cs.length E.c, .int .i64 S.hd, .int .i64 S.sz, .slice E.A2 S.l.length E.c2, .slice E.A3 S.h.length E.c3] 54) = w2 at *
  refine (HG.out _ _ _ H0.out).mono ?_
  rintro e w3 ⟨rfl, hb⟩
  have H1 := Lib.hid (H0.out.below hb)
  clear hb
  obtain ⟨t0, t1, t2, t3, t4, t5, t6, t7, tl⟩ := H1.out.a.s8.facts
  obtain ⟨y0, y1, y2, y3, y4, y5, y6, y7, yl⟩ := H1.out.b.s8.facts
  go_wp2_with fail
  clear t0 t1 t2 t3 t4 t5 t6 t7 tl y0 y1 y2 y3 y4 y5 y6 y7 yl
  refine (HT.out _ _ _ H1.out).mono ?_
  rintro e w4 ⟨rfl, hb⟩
  have HB := Lib.hid (H1.out.below hb).a.bel
  clear hb
  go_wp2
  go_ret
  exact ⟨rfl, HB.out⟩
end Go.Proofs.YtijpflljopckiaaGreat
namespace Go.Proofs.YtijpflljopckiaaGreat
open Go.RowKit
set_option linter.unusedVariables false

/-- The slot at place k. -/
def og (l : List So) (k : Nat) : So := l.getD k ⟨0, zS⟩
theorem og_get {l : List So} {k : Nat} (h : k < l.length) : og l k = l[k] := by simp [og, List.getD, h]
theorem AR.at2 {W : World} {B : Nat} {a : Ar} {Y : Ax} {k : Nat} (h : AR W B a Y) (hk : k < a.sl.length) : ∃ (D : Sx) (b o : Nat), Y.A = some ⟨b, o, none⟩ ∧ b < B ∧ Q9 W b (o + k * 9) ⟨(og a.sl k).ow, (og a.sl k).sh, D⟩ ∧ SR W B (og a.sl k).sh D ∧ Y.q[k]? = some ⟨(og a.sl k).ow, (og a.sl k).sh, D⟩ := by
  obtain ⟨s, b, o, hq, hs, hA, hb, h9, hr⟩ := h.atg hk
  rw [og_get hk]
  obtain ⟨e1, e2⟩ := sl_so hs
  cases s with
  | mk x y z =>
    simp only at e1 e2
    subst e1 e2
    exact ⟨z, b, o, hA, hb, h9, hr, hq⟩
/-- Two equal arenas in boxes. -/
structure Ts12 (w : World) (p q : Nat) (a : Ar) (Y Z : Ax) (W : World) : Prop where
  pb : QB W p a Y
  qb : QB W q a Z
  pr : AR W W.heap.size a Y
  qr : AR W W.heap.size a Z
  bel : Below w.heap.size w W
section
variable {w W W' : World} {p q : Nat} {a : Ar} {Y Z : Ax}
theorem Ts12.below (h : Ts12 w p q a Y Z W) (hb : Below W.heap.size W W') : Ts12 w p q a Y Z W' := ⟨h.pb.up hb, h.qb.up hb, h.pr.up hb, h.qr.up hb, h.bel.trans (hb.mono h.bel.size)⟩
theorem Ts12.drew (h : Ts12 w p q a Y Z W) : Ts12 w p q a Y Z W.drew := h.below (Below.refl _ _).drew
theorem Ts12.start (w : World) (a : Ar) (Y Z : Ax) (hy : AR w w.heap.size a Y) (hz : AR w w.heap.size a Z) : Ts12 w w.heap.size (w.heap.size + 1) a Y Z ((w.alloc (.cells (acl a Y) 36)).alloc (.cells (acl a Z) 36)) := by
  have h1 := QB.start (w.alloc (.cells (acl a Y) 36)) a Z 36
  rw [show (w.alloc (.cells (acl a Y) 36)).heap.size = w.heap.size + 1 by simp] at h1
  exact ⟨(QB.start w a Y _).alloc _, h1, (hy.alloc _).alloc _, (hz.alloc _).alloc _, ((Below.refl _ _).alloc (Nat.le_refl _) _).alloc (by simp) _⟩
end
theorem q9_up {W W' : World} {b o : Nat} {s : Sl} (h : Q9 W b o s) (hl : b < W.heap.size) (hb : Below W.heap.size W W') : Q9 W' b o s := by
  have g : ∀ k, W'.cell? ⟨b, k, none⟩ = W.cell? ⟨b, k, none⟩ := fun k => hb.cell (p := ⟨b, k, none⟩) hl
  obtain ⟨k0, k1, k2, k3, k4, k5, k6, k7, k8⟩ := h
  exact ⟨(g _).trans k0, (g _).trans k1, (g _).trans k2, (g _).trans k3, (g _).trans k4, (g _).trans k5, (g _).trans k6, (g _).trans k7, (g _).trans k8⟩
/-- .. and a slot of each. -/
structure Tv12 (w : World) (p q : Nat) (a : Ar) (Y Z : Ax) (x y b o b' o' : Nat) (s s' : Sl) (W : World) : Prop where
  ts : Ts12 w p q a Y Z W
  ea : Y.A = some ⟨b, o, none⟩
  ez : Z.A = some ⟨b', o', none⟩
  ys : Q9 W b x s
  zs : Q9 W b' y s'
  bl : b < W.heap.size
  bl' : b' < W.heap.size
  sr : SR W W.heap.size s.sh s.sx
  sr' : SR W W.heap.size s'.sh s'.sx
abbrev C20 (p q : Nat) (n c n' c' x y b o b' o' : Nat) (s s' : Sl) (W : World) : Prop := (W.cell? ⟨p, 0, none⟩ = some (.slice (some ⟨b, o, none⟩) n c) ∧ W.cell? ⟨q, 0, none⟩ = some (.slice (some ⟨b', o', none⟩) n' c')) ∧ Q9 W b x s ∧ Q9 W b' y s'
section
variable {w W W' : World} {p q x y b o b' o' : Nat} {a : Ar} {Y Z : Ax} {s s' : Sl}
theorem Tv12.below (h : Tv12 w p q a Y Z x y b o b' o' s s' W) (hb : Below W.heap.size W W') : Tv12 w p q a Y Z x y b o b' o' s s' W' :=
  ⟨h.ts.below hb, h.ea, h.ez, q9_up h.ys h.bl hb, q9_up h.zs h.bl' hb, Nat.lt_of_lt_of_le h.bl hb.size, Nat.lt_of_lt_of_le h.bl' hb.size, h.sr.up hb, h.sr'.up hb⟩
theorem Tv12.drew (h : Tv12 w p q a Y Z x y b o b' o' s s' W) : Tv12 w p q a Y Z x y b o b' o' s s' W.drew := h.below (Below.refl _ _).drew
theorem Tv12.c (h : Tv12 w p q a Y Z x y b o b' o' s s' W) : C20 p q a.sl.length Y.c a.sl.length Z.c x y b o b' o' s s' W :=
  ⟨⟨by rw [← h.ea]; exact h.ts.pb.k.1, by rw [← h.ez]; exact h.ts.qb.k.1⟩, h.ys, h.zs⟩
end
end Go.Proofs.YtijpflljopckiaaGreat
namespace Go.Proofs.YtijpflljopckiaaGreat
open Go.RowKit
set_option linter.unusedVariables false

set_option maxRecDepth 20000 in
theorem atstore_any (b : Nat) (x y : Int) (w : World) (hc : w.cell? ⟨b, 0, none⟩ = some (.int .i64 x)) (hz : w.frozen? ⟨b, 0, none⟩ = false) :
    Calls Tryz.prog 46 #[.pointer (some ⟨b, 0, none⟩), .int .i64 y] w fun e w' => e = .returned (.tuple #[]) ∧ w' = w.setCell ⟨b, 0, none⟩ (.int .i64 y) := by
  have hst := run_call_store (P := Tryz.prog) Tryz.func66 (by kernel_rfl) (by kernel_rfl) (by kernel_rfl) (by kernel_rfl) (k := .i64) (y := y) hc hz
  go_enter Tryz.func46, Tryz.ntmps46
  go_wp2
  first
    | go_end0
    | refine bodyPost_ret (results_none rfl _ _ _) rfl ?_
  all_goals exact ⟨rfl, rfl⟩
set_option maxRecDepth 20000 in
theorem atload_any (b : Nat) (x : Int) (w : World) (hc : w.cell? ⟨b, 0, none⟩ = some (.int .i64 x)) :
    Calls Tryz.prog 48 #[.pointer (some ⟨b, 0, none⟩)] w fun e w' => e = .returned (.int .i64 x) ∧ w' = w := by
  have hst := run_call_load (P := Tryz.prog) Tryz.func68 (by kernel_rfl) (by kernel_rfl) (by kernel_rfl) .i64 (by kernel_rfl) hc
  go_enter Tryz.func48, Tryz.ntmps48
  go_wp2
  go_ret
  exact ⟨rfl, rfl⟩
set_option maxRecDepth 20000 in
theorem atcas_any (b : Nat) (x o y : Int) (w : World) (hc : w.cell? ⟨b, 0, none⟩ = some (.int .i64 x)) (hz : w.frozen? ⟨b, 0, none⟩ = false) :
    Calls Tryz.prog 47 #[.pointer (some ⟨b, 0, none⟩), .int .i64 o, .int .i64 y] w fun e w' => e = .returned (.bool (decide (x = o))) ∧ w' = if x = o then w.setCell ⟨b, 0, none⟩ (.int .i64 y) else w := by
  by_cases h : x = o
  · subst h
    have hst := run_call_cas_hit (P := Tryz.prog) Tryz.func67 (by kernel_rfl) (by kernel_rfl) (by kernel_rfl) .i64 (by kernel_rfl) (y := y) hc hz
    rw [if_pos rfl, decide_eq_true rfl]
    go_enter Tryz.func47, Tryz.ntmps47
    go_wp2
    go_ret
    exact ⟨rfl, rfl⟩
  · have hst := run_call_cas_miss (P := Tryz.prog) Tryz.func67 (by kernel_rfl) (by kernel_rfl) (by kernel_rfl) .i64 (by kernel_rfl) (o := o) (y := y) hc hz h
    rw [if_neg h, decide_eq_false h]
    clear h
    go_enter Tryz.func47, Tryz.ntmps47
    go_wp2
    go_ret
    exact ⟨rfl, rfl⟩
/-- What a swap leaves: a number in a place, all else as it was. -/
def SwP (w : World) (p : Addr) (x o y : Int) (e : Ending) (w' : World) : Prop := e = .returned (.bool (decide (x = o))) ∧ ∃ w1, Below w.heap.size w w1 ∧ w' = w1.setCell p (.int .i64 (if x = o then y else x))
set_option maxHeartbeats 4000000 in
set_option maxRecDepth 20000 in
theorem swap_any (p : Addr) (x o y : Int) (w : World) (hc : w.cell? p = some (.int .i64 x)) (hz : w.frozen? p = false) (hp : p.block < w.heap.size) :
    Calls Tryz.prog 23 #[.pointer (some p), .int .i64 o, .int .i64 y] w (SwP w p x o y) := by
  have HC := Lib.hid (And.intro hc (And.intro hz hp))
  have HB0 := Lib.hid ((Below.refl w.heap.size w).alloc (Nat.le_refl _) (.cells #[.int .i64 0] 106))
  have HQ0 := Lib.hid (show (w.alloc (.cells #[.int .i64 0] 106)).cell? ⟨w.heap.size, 0, none⟩ = some (.int .i64 0) ∧ (w.alloc (.cells #[.int .i64 0] 106)).frozen? ⟨w.heap.size, 0, none⟩ = false from ⟨by simp [go_sem], by simp [go_sem]⟩)
  obtain ⟨q, hq⟩ : ∃ q, q = w.heap.size := ⟨_, rfl⟩
  have HQ := Lib.hid hq
  clear hc hz hp hq
  go_enter Tryz.func23, Tryz.ntmps23
  go_upto_region 2 with (fail)
  rw [← HQ.out] at HQ0 ⊢
  generalize w.alloc (.cells #[.int .i64 0] 106) = w1 at *
  have hc1 := (HB0.out.cell HC.out.2.2).trans HC.out.1
  go_wp2_with fail
  clear hc1
  refine (atstore_any q 0 x _ HQ0.out.1 HQ0.out.2).mono ?_
  rintro e w2 ⟨rfl, hw⟩
  have HB2 := Lib.hid (show Below w.heap.size w w2 from by rw [hw]; exact HB0.out.setCell (p := ⟨q, 0, none⟩) (show w.heap.size ≤ q from by rw [HQ.out]; exact Nat.le_refl _) _)
  have HQ2 := Lib.hid (show w2.cell? ⟨q, 0, none⟩ = some (.int .i64 x) ∧ w2.frozen? ⟨q, 0, none⟩ = false from by
    rw [hw]
    exact ⟨World.cell?_setCell_same' _ _ _ (by rw [HQ0.out.1]; rfl), by rw [World.frozen?_setCell]; exact HQ0.out.2⟩)
  clear hw HB0 HQ0
  go_wp2_with fail
  refine (atcas_any q x o y _ HQ2.out.1 HQ2.out.2).mono ?_
  rintro e w3 ⟨rfl, hw⟩
  obtain ⟨v, hv⟩ : ∃ v, v = if x = o then y else x := ⟨_, rfl⟩
  have HV := Lib.hid hv
  have HB3 := Lib.hid (show Below w.heap.size w w3 from by
    rw [hw]
    split
    · exact HB2.out.setCell (p := ⟨q, 0, none⟩) (show w.heap.size ≤ q from by rw [HQ.out]; exact Nat.le_refl _) _
    · exact HB2.out)
  have HQ3 := Lib.hid (show w3.cell? ⟨q, 0, none⟩ = some (.int .i64 v) from by
    rw [hw, hv]
    split
    · exact World.cell?_setCell_same' _ _ _ (by rw [HQ2.out.1]; rfl)
    · exact HQ2.out.1)
  clear hw hv HB2 HQ2
  obtain ⟨d, hd⟩ : ∃ d, d = decide (x = o) := ⟨_, rfl⟩
  rw [← hd]
  have HDD := Lib.hid hd
  clear hd
  go_wp2_with fail
  refine (atload_any q v _ HQ3.out).mono ?_
  rintro e w4 ⟨rfl, hw⟩
  replace hw := hw.symm
  subst hw
  have hc1 := (HB3.out.cell HC.out.2.2).trans HC.out.1
  have hz1 := (HB3.out.frozen HC.out.2.2).trans HC.out.2.1
  have HF := Lib.hid (show ∃ w1, Below w.heap.size w w1 ∧ w3.setCell p (.int .i64 v) = w1.setCell p (.int .i64 (if x = o then y else x)) from ⟨w3, HB3.out, by rw [HV.out]⟩)
  clear HB3 HQ3 HV
  go_wp2
  go_ret
  exact ⟨by rw [← HDD.out]; rfl, HF.out⟩
end Go.Proofs.YtijpflljopckiaaGreat
