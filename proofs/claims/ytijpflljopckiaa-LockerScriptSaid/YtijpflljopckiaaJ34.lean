/- What is proved here: shardqueueref08.New, sound, Validate, Room, Same by contracts; '==' and '!=' of a lease and itself; shardqueueref05.Same of two lists that read alike are true; shardqueueref06.SameLeases, Same of two lists, two tables that read alike are true; ref07.Same of two shards of one content is true. -/
import Derived.Test.YtijpflljopckiaaJ33
import Derived.Test.YtijpflljopckiaaJ03
import Derived.Test.YtijpflljopckiaaRows
import Derived.Test.YtijpflljopckiaaJ02
import Derived.WalkKit
import Derived.Outline
import Derived.IntWalk
import Derived.Test.YtijpflljopckiaaJ22
import Derived.Test.YtijpflljopckiaaJ08
import Derived.Test.YtijpflljopckiaaJ04
import Derived.Test.YtijpflljopckiaaJ19
import Derived.Test.YtijpflljopckiaaJ26
import Derived.Test.YtijpflljopckiaaJ09
import Derived.Deep.QuietTactic
import Derived.BigQuiet
import Derived.Test.YtijpflljopckiaaJ10
import Derived.Test.YtijpflljopckiaaJ23
import Derived.Test.YtijpflljopckiaaJ12
namespace Go.Proofs.Ytijpflljopckiaa
open Go.RowKit
set_option linter.unusedVariables false

/-- Two stores that are the same. -/
theorem rsame8_yes (cap : Int) (A A' : Option Addr) (n n' c c' : Nat) (l : List Msg) (w : World) (hv : Ls w w.heap.size (.slice A n c) l) (hv' : Ls w w.heap.size (.slice A' n' c') l) :
    Calls Try.prog 54 #[.agg #[.int .i64 cap, .slice A n c], .agg #[.int .i64 cap, .slice A' n' c']] w fun e w' => e = .returned (.bool true) ∧ Below w.heap.size w w' := by
  obtain ⟨rfl, _, _⟩ := hv.len
  obtain ⟨rfl, _, _⟩ := hv'.len
  have H0 := Lib.hid ((VaAt8.start 29 cap hv).alloc (.cells #[.int .i64 cap, .slice A' l.length c'] 29))
  have h1 := VaAt8.start (w := w.alloc (.cells #[.int .i64 cap, .slice A l.length c] 29)) 29 cap ((hv'.alloc (Nat.le_refl _) (.cells #[.int .i64 cap, .slice A l.length c] 29)).more (by simp))
  rw [show (w.alloc (.cells #[.int .i64 cap, .slice A l.length c] 29)).heap.size = w.heap.size + 1 by simp] at h1
  have H1 := Lib.hid h1
  have HS := Lib.hid (fun W (h : Ls W W.heap.size (.slice A l.length c) l) (h' : Ls W W.heap.size (.slice A' l.length c') l) => rsame_yes A A' l.length l.length c c' l W _ _ h h')
  clear hv hv' h1
  obtain ⟨b0, b1, bl⟩ := H0.out.db.facts
  obtain ⟨d0, d1, dl⟩ := H1.out.db.facts
  go_enter Try.func54, Try.ntmps54
  go_wp2_with fail
  refine (HS.out _ H0.out.here H1.out.here).mono ?_
  rintro e w1 ⟨rfl, hb⟩
  have HF := Lib.hid (H0.out.below hb)
  clear hb b0 b1 bl d0 d1 dl
  go_wp2
  go_ret
  exact ⟨rfl, HF.out.bel⟩
end Go.Proofs.Ytijpflljopckiaa
namespace Go.Proofs.Ytijpflljopckiaa
open Go.RowKit
set_option linter.unusedVariables false

theorem eqm_fuel (M : Msg) (f : Nat) (W : World) : (Op.equalIn (f + 2) 151 M.v M.v).run Try.prog W = .ok true W := by
  have u3 := Try.underlying3
  have u9 := Try.underlying9
  have hS : Try.prog.underlying 151 = some (.struct (Try.prog.fieldsOf 151)) := by kernel_rfl
  have hp : Try.prog.stoodInHeld 151 = false := by kernel_rfl
  rw [show f + 2 = (f + 1) + 1 from rfl, run_equalIn_agg W (f + 1) 151 _ _ hS hp]
  simp only [Program.fieldsOf, Try.underlying151]
  go_simp
theorem eql_in (x : Le) (W : World) : (Op.equalIn 10000 154 x.v x.v).run Try.prog W = .ok true W := by
  have u3 := Try.underlying3
  have hS : Try.prog.underlying 154 = some (.struct (Try.prog.fieldsOf 154)) := by kernel_rfl
  have hp : Try.prog.stoodInHeld 154 = false := by kernel_rfl
  have hM := fun W => eqm_fuel x.m 9997 W
  rw [show (10000 : Nat) = 9999 + 1 from rfl, run_equalIn_agg W 9999 154 _ _ hS hp]
  simp only [Program.fieldsOf, Try.underlying154]
  go_simp
theorem eql (x : Le) : ∀ W, (binOp .eql 154 x.v x.v).run Try.prog W = .ok (.bool true) W := fun W => by
  rw [run_eql_struct, eql_in]; rfl
theorem neql (x : Le) : ∀ W, (binOp .neq 154 x.v x.v).run Try.prog W = .ok (.bool false) W := fun W => by
  rw [run_neq_struct, eql_in]; rfl
end Go.Proofs.Ytijpflljopckiaa
namespace Go.Proofs.Ytijpflljopckiaa
open Go.RowKit
set_option linter.unusedVariables false

set_option maxHeartbeats 2000000 in
theorem rsame5_yes (A A' : Option Addr) (n n' c c' : Nat) (l : List Du) (w : World) (B B' : Nat) (hv : Dl w B (.slice A n c) l) (hv' : Dl w B' (.slice A' n' c') l) :
    Calls Try.prog 106 #[.slice A n c, .slice A' n' c'] w fun e w' => e = .returned (.bool true) ∧ Below w.heap.size w w' := by
  obtain ⟨rfl, hm1, hm2⟩ := hv.len
  obtain ⟨rfl, hm1', hm2'⟩ := hv'.len
  have hL : l.length ≤ 9223372036854775807 := by unfold maxLen at hm2; omega
  have HV := Lib.hid hv
  have HV' := Lib.hid hv'
  have HB := Lib.hid (Below.refl w.heap.size w)
  clear hv hm1 hm2 hv' hm1' hm2'
  go_enter Try.func106, Try.ntmps106
  go_wp2
  go_loopw [5] (fun i wr => ∃ k : Nat, k ≤ l.length ∧ i = .int .i64 k ∧ Dl wr B (.slice A l.length c) l ∧ Dl wr B' (.slice A' l.length c') l ∧ Below w.heap.size w wr) (fun i _ => l.length - (intOf i).toNat)
  case atStart => exact ⟨0, by omega, rfl, HV.out, HV'.out, HB.out⟩
  case round =>
    obtain ⟨k, hk, rfl, hv, hv', hb⟩ := hrel
    have HV := Lib.hid hv
    have HV' := Lib.hid hv'
    have HB := Lib.hid hb
    clear hv hv' hb
    by_cases hlt : k < l.length
    · obtain ⟨b, o, rfl, hb, c0, c1⟩ := HV.out.atg hlt
      obtain ⟨b', o', rfl, hb', d0, d1⟩ := HV'.out.atg hlt
      generalize ge l k = M at *
      have hne := neqd_no M
      go_wp2
      go_quiet (fail)
      go_wp2
      go_roundw
      case rel => exact ⟨k + 1, by omega, by go_num, HV.out.drewN _, HV'.out.drewN _, bel_drewN HB.out _⟩
      case measure => simp [intOf]; omega
    · go_wp2
      go_ret
      exact ⟨rfl, HB.out⟩

end Go.Proofs.Ytijpflljopckiaa
namespace Go.Proofs.Ytijpflljopckiaa
open Go.RowKit
set_option linter.unusedVariables false

set_option maxHeartbeats 2000000 in
theorem rsamel_yes (A A' : Option Addr) (n n' c c' : Nat) (l : List Le) (w : World) (B B' : Nat) (hv : El w B (.slice A n c) l) (hv' : El w B' (.slice A' n' c') l) :
    Calls Try.prog 105 #[.slice A n c, .slice A' n' c'] w fun e w' => e = .returned (.bool true) ∧ Below w.heap.size w w' := by
  obtain ⟨rfl, hm1, hm2⟩ := hv.len
  obtain ⟨rfl, hm1', hm2'⟩ := hv'.len
  have hL : l.length ≤ 9223372036854775807 := by unfold maxLen at hm2; omega
  have HV := Lib.hid hv
  have HV' := Lib.hid hv'
  have HB := Lib.hid (Below.refl w.heap.size w)
  clear hv hm1 hm2 hv' hm1' hm2'
  go_enter Try.func105, Try.ntmps105
  go_wp2
  go_loopw [5] (fun i wr => ∃ k : Nat, k ≤ l.length ∧ i = .int .i64 k ∧ El wr B (.slice A l.length c) l ∧ El wr B' (.slice A' l.length c') l ∧ Below w.heap.size w wr) (fun i _ => l.length - (intOf i).toNat)
  case atStart => exact ⟨0, by omega, rfl, HV.out, HV'.out, HB.out⟩
  case round =>
    obtain ⟨k, hk, rfl, hv, hv', hb⟩ := hrel
    have HV := Lib.hid hv
    have HV' := Lib.hid hv'
    have HB := Lib.hid hb
    clear hv hv' hb
    by_cases hlt : k < l.length
    · obtain ⟨b, o, rfl, _⟩ := HV.out.some_ (by omega)
      obtain ⟨b', o', rfl, _⟩ := HV'.out.some_ (by omega)
      obtain ⟨⟨c0, c1, c2, c3, c4, c5, c6, c7⟩, hb⟩ := HV.out.c8 hlt
      obtain ⟨⟨d0, d1, d2, d3, d4, d5, d6, d7⟩, hb'⟩ := HV'.out.c8 hlt
      generalize l[k] = M at *
      have hne := neql M
      go_wp2
      go_quiet (fail)
      go_wp2
      go_roundw
      case rel => exact ⟨k + 1, by omega, by go_num, HV.out.drewN _, HV'.out.drewN _, bel_drewN HB.out _⟩
      case measure => simp [intOf]; omega
    · go_wp2
      go_ret
      exact ⟨rfl, HB.out⟩

set_option maxHeartbeats 2000000 in
theorem rtsame_yes (A A' : Option Addr) (n n' c c' : Nat) (l : List Le) (A2 A2' : Option Addr) (n2 n2' c2 c2' : Nat) (h : List Du) (w : World)
    (hv : El w w.heap.size (.slice A n c) l) (hv' : El w w.heap.size (.slice A' n' c') l) (hd : Dl w w.heap.size (.slice A2 n2 c2) h) (hd' : Dl w w.heap.size (.slice A2' n2' c2') h) :
    Calls Try.prog 87 #[tv A n c A2 n2 c2, tv A' n' c' A2' n2' c2'] w fun e w' => e = .returned (.bool true) ∧ Below w.heap.size w w' := by
  have HB := Lib.hid (((Below.refl w.heap.size w).alloc (Nat.le_refl _) (.cells #[.slice A n c, .slice A2 n2 c2] 83)).alloc (by simp) (.cells #[.slice A' n' c', .slice A2' n2' c2'] 83))
  have HE := Lib.hid (fun W (hb : Below w.heap.size w W) => rsamel_yes A A' n n' c c' l W _ _ (hv.below hb) (hv'.below hb))
  have HD := Lib.hid (fun W (hb : Below w.heap.size w W) => rsame5_yes A2 A2' n2 n2' c2 c2' h W _ _ (hd.below hb) (hd'.below hb))
  have HT := Lib.hid ((TB.start w A n c A2 n2 c2 83).below ((Below.refl (w.heap.size + 1) _).alloc (by simp) (.cells #[.slice A' n' c', .slice A2' n2' c2'] 83)) (Nat.lt_succ_self _))
  have HT' := Lib.hid (TB.start (w.alloc (.cells #[.slice A n c, .slice A2 n2 c2] 83)) A' n' c' A2' n2' c2' 83)
  rw [show (w.alloc (.cells #[.slice A n c, .slice A2 n2 c2] 83)).heap.size = w.heap.size + 1 by simp] at HT'
  clear hv hv' hd hd'
  go_enter Try.func87, Try.ntmps87
  go_wp2_with fail
  obtain ⟨p, hp⟩ : ∃ p, p = w.heap.size := ⟨_, rfl⟩
  obtain ⟨q, hq⟩ : ∃ q, q = w.heap.size + 1 := ⟨_, rfl⟩
  rw [← hq] at HT'
  rw [← hp] at HT
  rw [← hq, ← hp]
  clear hq hp
  generalize (w.alloc (.cells #[.slice A n c, .slice A2 n2 c2] 83)).alloc (.cells #[.slice A' n' c', .slice A2' n2' c2'] 83) = w2 at *
  refine (HE.out _ HB.out).mono ?_
  rintro e w3 ⟨rfl, hb⟩
  obtain ⟨t0, t1, tl⟩ := HT.out.below hb HT.out.2.2
  obtain ⟨s0, s1, sl⟩ := HT'.out.below hb HT'.out.2.2
  have HB3 := Lib.hid (HB.out.trans (hb.mono HB.out.size))
  clear hb
  go_wp2_with fail
  refine (HD.out _ HB3.out).mono ?_
  rintro e w4 ⟨rfl, hb⟩
  have HB4 := Lib.hid (HB3.out.trans (hb.mono HB3.out.size))
  clear hb
  go_wp2
  go_ret
  exact ⟨rfl, HB4.out⟩
end Go.Proofs.Ytijpflljopckiaa
namespace Go.Proofs.Ytijpflljopckiaa
open Go.RowKit
set_option linter.unusedVariables false

/-- Two boxes of shards, read only. -/
structure TwAt7 (w : World) (p q : Nat) (S : Sh) (D E : Sx) (W : World) : Prop where
  a : SAt w p S D W
  b : SAt w q S E W
theorem TwAt7.below {w W W' : World} {p q : Nat} {S : Sh} {D E : Sx} (h : TwAt7 w p q S D E W) (hb : Below W.heap.size W W') : TwAt7 w p q S D E W' := ⟨h.a.below hb, h.b.below hb⟩
theorem SAt.from7 {w w1 : World} {p : Nat} {S : Sh} {D : Sx} {W : World} (h : SAt w1 p S D W) (hw : Below w.heap.size w w1) : SAt w p S D W := ⟨h.s8, h.sr, h.off, hw.trans (h.bel.mono hw.size), Nat.le_trans hw.size h.old⟩
theorem TwAt7.start (w : World) (S : Sh) (D E : Sx) (hs : SR w w.heap.size S D) (ht : SR w w.heap.size S E) : TwAt7 w w.heap.size (w.heap.size + 1) S D E ((w.alloc (.cells #[.bool S.lv, .int .i64 S.lo, .int .i64 S.hi, .slice D.A S.cs.length D.c, .int .i64 S.hd, .int .i64 S.sz, .slice D.A2 S.l.length D.c2, .slice D.A3 S.h.length D.c3] 85)).alloc (.cells #[.bool S.lv, .int .i64 S.lo, .int .i64 S.hi, .slice E.A S.cs.length E.c, .int .i64 S.hd, .int .i64 S.sz, .slice E.A2 S.l.length E.c2, .slice E.A3 S.h.length E.c3] 85)) := by
  have hb := (Below.refl w.heap.size w).alloc (Nat.le_refl _) (.cells #[.bool S.lv, .int .i64 S.lo, .int .i64 S.hi, .slice D.A S.cs.length D.c, .int .i64 S.hd, .int .i64 S.sz, .slice D.A2 S.l.length D.c2, .slice D.A3 S.h.length D.c3] 85)
  have h1 := SAt.from7 (SAt.start 85 (ht.up hb)) hb
  rw [show (w.alloc (.cells #[.bool S.lv, .int .i64 S.lo, .int .i64 S.hi, .slice D.A S.cs.length D.c, .int .i64 S.hd, .int .i64 S.sz, .slice D.A2 S.l.length D.c2, .slice D.A3 S.h.length D.c3] 85)).heap.size = w.heap.size + 1 by simp] at h1
  exact ⟨(SAt.start 85 hs).alloc _, h1⟩
set_option maxHeartbeats 4000000 in
set_option maxRecDepth 20000 in
theorem rsame7_yes (S : Sh) (D E : Sx) (w : World) (hs : SR w w.heap.size S D) (ht : SR w w.heap.size S E) :
    Calls Try.prog 56 #[sv S D, sv S E] w fun e w' => e = .returned (.bool true) ∧ Below w.heap.size w w' := by
  have H0 := Lib.hid (TwAt7.start w S D E hs ht)
  have HG := Lib.hid (fun p q W (h : TwAt7 w p q S D E W) => gsame_yes D.A E.A S.cs.length S.cs.length D.c E.c S.hd S.sz S.cs W W.heap.size W.heap.size (Nat.le_refl _) (Nat.le_refl _) h.a.sr.ls h.b.sr.ls)
  have HT := Lib.hid (fun p q W (h : TwAt7 w p q S D E W) => rtsame_yes D.A2 E.A2 S.l.length S.l.length D.c2 E.c2 S.l D.A3 E.A3 S.h.length S.h.length D.c3 E.c3 S.h W h.a.sr.el h.b.sr.el h.a.sr.dl h.b.sr.dl)
  clear hs ht
  go_enter Try.func56, Try.ntmps56
  go_wp2_with fail
  obtain ⟨p, hp⟩ : ∃ p, p = w.heap.size := ⟨_, rfl⟩
  obtain ⟨q, hq⟩ : ∃ q, q = w.heap.size + 1 := ⟨_, rfl⟩
  rw [← hq, ← hp] at H0
  rw [← hq, ← hp]
  clear hq hp
  generalize (w.alloc (.cells #[.bool S.lv, .int .i64 S.lo, .int .i64 S.hi, .slice D.A S.cs.length D.c, .int .i64 S.hd, .int .i64 S.sz, .slice D.A2 S.l.length D.c2, .slice D.A3 S.h.length D.c3] 85)).alloc (.cells #[.bool S.lv, .int .i64 S.lo, .int .i64 S.hi, .slice E.A S.cs.length E.c, .int .i64 S.hd, .int .i64 S.sz, .slice E.A2 S.l.length E.c2, .slice E.A3 S.h.length E.c3] 85) = w2 at *
  refine (HG.out _ _ _ H0.out).mono ?_
  rintro e w3 ⟨rfl, hb⟩
  have H1 := Lib.hid (H0.out.below hb)
  clear hb
  obtain ⟨t0, t1, t2, t3, t4, t5, t6, t7, tl⟩ := H1.out.a.s8.facts
  obtain ⟨y0, y1, y2, y3, y4, y5, y6, y7, yl⟩ := H1.out.b.s8.facts
  go_wp2_with fail
  clear t0 t1 t2 t3 t4 t5 t6 t7 tl y0 y1 y2 y3 y4 y5 y6 y7 yl
  refine (HT.out _ _ _ H1.out).mono ?_
  rintro e w4 ⟨rfl, hb⟩
  have HB := Lib.hid (H1.out.below hb).a.bel
  clear hb
  go_wp2
  go_ret
  exact ⟨rfl, HB.out⟩
end Go.Proofs.Ytijpflljopckiaa
