/- What is proved here: shardqueuelaw03.MessageChanges returns true for every input and leaves its arguments as they were. No condition. -/
import Derived.Test.YtjiampelmiaflaaAwm
import Derived.Test.YtjiampelmiaflaaSmk
import Derived.Test.YtjiampelmiaflaaOpn
import Derived.Test.YtjiampelmiaflaaEqm
import Derived.Test.YtjiampelmiaflaaMdl
import Derived.Test.YtjiampelmiaflaaSro
import Derived.Test.YtjiampelmiaflaaSrn
import Derived.ProofKit
import Derived.OpenShut
import Derived.ShutString
import Derived.ChangeOld
namespace Go.Proofs.Ytjiampelmiaflaa
open Go.RowKit
set_option linter.unusedVariables false

/-- A message in a block, and a source. -/
abbrev S4 (B : Nat) (w : World) (p : Nat) (M : Msg) (g : Nat) (W : World) : Prop := W.cell? ⟨p, 0, none⟩ = some (.int .i64 M.id) ∧ W.cell? ⟨p, 1, none⟩ = some (.int .i64 M.rt) ∧ W.cell? ⟨p, 2, none⟩ = some (.int .i64 M.ep) ∧ W.cell? ⟨p, 3, none⟩ = some (.int .i64 M.ct) ∧ W.cell? ⟨p, 4, none⟩ = some (.int .i64 M.gn) ∧ W.cell? ⟨p, 5, none⟩ = some (.int .i64 M.st) ∧ W.cell? ⟨p, 6, none⟩ = some (.string M.bd) ∧ Hid (MAt W p M.nth M.bd ∧ SrcAt W B g ∧ (p ≠ g ∧ w.heap.size ≤ g) ∧ Below w.heap.size w W)
section
variable {w W W' : World} {B g p q : Nat} {M X : Msg}
theorem s4_mk (h : MAt W p M.nth M.bd) (h' : SrcAt W B g) (hne : p ≠ g ∧ w.heap.size ≤ g) (hb : Below w.heap.size w W) : S4 B w p M g W := by
  obtain ⟨⟨a0, a1, a2, a3, a4, a5, a6⟩, _⟩ := h.facts
  exact ⟨a0, a1, a2, a3, a4, a5, a6, Lib.hid ⟨h, h', hne, hb⟩⟩
theorem s4_hid (h : S4 B w p M g W) : MAt W p M.nth M.bd ∧ SrcAt W B g ∧ (p ≠ g ∧ w.heap.size ≤ g) ∧ Below w.heap.size w W := h.2.2.2.2.2.2.2.out
theorem s4_src (h : S4 B w p M g W) : SrcAt W B g := (s4_hid h).2.1
theorem s4_bel (h : S4 B w p M g W) : Below w.heap.size w W := (s4_hid h).2.2.2
theorem s4_grown (h : S4 B w p M g W) (hs : SrcAt W' B g) (hg : W.grownBy W' (some g)) : S4 B w p M g W' := by
  obtain ⟨h1, h2, h3, h4⟩ := s4_hid h
  exact s4_mk (h1.grown hg h3.1) hs h3 (below_only h4 hg h3.2 (Nat.le_refl _))
theorem s4_below (h : S4 B w p M g W) (hb : Below W.heap.size W W') : S4 B w p M g W' := by
  obtain ⟨h1, h2, h3, h4⟩ := s4_hid h
  exact s4_mk (h1.below hb h1.1) (h2.below hb) h3 (h4.trans (hb.mono h4.size))
theorem s4_drew (h : S4 B w p M g W) : S4 B w p M g W.drew := s4_below h ((Below.refl _ _).drew)
theorem s4_alloc (h : S4 B w p M g W) (o : Obj) : S4 B w p M g (W.alloc o) := s4_below h ((Below.refl _ _).alloc (Nat.le_refl _) o)
end

/-- Block b holds n messages. -/
def LAt (W : World) (b n : Nat) (Ms : Nat → Msg) : Prop := b < W.heap.size ∧ ∀ k, k < n → (∀ j, j < 6 → W.cell? ⟨b, k * 7 + j, none⟩ = some (.int .i64 ((Ms k).nth j))) ∧ W.cell? ⟨b, k * 7 + 6, none⟩ = some (.string (Ms k).bd)
theorem LAt.below {W W' : World} {b n B : Nat} {Ms : Nat → Msg} (h : LAt W b n Ms) (hb : Below B W W') (hg : b < B) : LAt W' b n Ms :=
  ⟨Nat.lt_of_lt_of_le h.1 hb.size, fun k hk => ⟨fun j hj => (hb.cell (p := ⟨b, k * 7 + j, none⟩) hg).trans ((h.2 k hk).1 j hj), (hb.cell (p := ⟨b, k * 7 + 6, none⟩) hg).trans (h.2 k hk).2⟩⟩
theorem LAt.facts {W : World} {b n : Nat} {Ms : Nat → Msg} (h : LAt W b n Ms) (k : Nat) (hk : k < n) (X : Msg) (hX : X = Ms k) : W.cell? ⟨b, k * 7, none⟩ = some (.int .i64 X.id) ∧ W.cell? ⟨b, k * 7 + 1, none⟩ = some (.int .i64 X.rt) ∧ W.cell? ⟨b, k * 7 + 2, none⟩ = some (.int .i64 X.ep) ∧ W.cell? ⟨b, k * 7 + 3, none⟩ = some (.int .i64 X.ct) ∧ W.cell? ⟨b, k * 7 + 4, none⟩ = some (.int .i64 X.gn) ∧ W.cell? ⟨b, k * 7 + 5, none⟩ = some (.int .i64 X.st) ∧ W.cell? ⟨b, k * 7 + 6, none⟩ = some (.string X.bd) := by
  subst hX
  obtain ⟨h1, h2⟩ := h.2 k hk
  exact ⟨h1 0 (by omega), h1 1 (by omega), h1 2 (by omega), h1 3 (by omega), h1 4 (by omega), h1 5 (by omega), h2⟩
def list3 (M0 M1 M2 : Msg) : Nat → Msg
  | 0 => M0
  | 1 => M1
  | _ => M2
theorem LAt.fresh3 (w : World) (M0 M1 M2 : Msg) (t : TypeId) : LAt (w.alloc (.cells (M0.cs ++ M1.cs ++ M2.cs) t)) w.heap.size 3 (list3 M0 M1 M2) := by
  refine ⟨by simp, fun k hk => ⟨fun j hj => ?_, ?_⟩⟩
  · match k, hk with
    | 0, _ => match j, hj with
      | 0, _ => simp [go_sem, list3, Msg.nth]
      | 1, _ => simp [go_sem, list3, Msg.nth]
      | 2, _ => simp [go_sem, list3, Msg.nth]
      | 3, _ => simp [go_sem, list3, Msg.nth]
      | 4, _ => simp [go_sem, list3, Msg.nth]
      | 5, _ => simp [go_sem, list3, Msg.nth]
    | 1, _ => match j, hj with
      | 0, _ => simp [go_sem, list3, Msg.nth]
      | 1, _ => simp [go_sem, list3, Msg.nth]
      | 2, _ => simp [go_sem, list3, Msg.nth]
      | 3, _ => simp [go_sem, list3, Msg.nth]
      | 4, _ => simp [go_sem, list3, Msg.nth]
      | 5, _ => simp [go_sem, list3, Msg.nth]
    | 2, _ => match j, hj with
      | 0, _ => simp [go_sem, list3, Msg.nth]
      | 1, _ => simp [go_sem, list3, Msg.nth]
      | 2, _ => simp [go_sem, list3, Msg.nth]
      | 3, _ => simp [go_sem, list3, Msg.nth]
      | 4, _ => simp [go_sem, list3, Msg.nth]
      | 5, _ => simp [go_sem, list3, Msg.nth]
  · match k, hk with
    | 0, _ => simp [go_sem, list3]
    | 1, _ => simp [go_sem, list3]
    | 2, _ => simp [go_sem, list3]

/-- A message of a list, two that are alike. -/
abbrev S5 (w : World) (b k : Nat) (Ms : Nat → Msg) (X : Msg) (p q : Nat) (Y : Msg) (W : World) : Prop := W.cell? ⟨b, k * 7, none⟩ = some (.int .i64 X.id) ∧ W.cell? ⟨b, k * 7 + 1, none⟩ = some (.int .i64 X.rt) ∧ W.cell? ⟨b, k * 7 + 2, none⟩ = some (.int .i64 X.ep) ∧ W.cell? ⟨b, k * 7 + 3, none⟩ = some (.int .i64 X.ct) ∧ W.cell? ⟨b, k * 7 + 4, none⟩ = some (.int .i64 X.gn) ∧ W.cell? ⟨b, k * 7 + 5, none⟩ = some (.int .i64 X.st) ∧ W.cell? ⟨b, k * 7 + 6, none⟩ = some (.string X.bd) ∧ W.cell? ⟨p, 0, none⟩ = some (.int .i64 Y.id) ∧ W.cell? ⟨p, 1, none⟩ = some (.int .i64 Y.rt) ∧ W.cell? ⟨p, 2, none⟩ = some (.int .i64 Y.ep) ∧ W.cell? ⟨p, 3, none⟩ = some (.int .i64 Y.ct) ∧ W.cell? ⟨p, 4, none⟩ = some (.int .i64 Y.gn) ∧ W.cell? ⟨p, 5, none⟩ = some (.int .i64 Y.st) ∧ W.cell? ⟨p, 6, none⟩ = some (.string Y.bd) ∧ W.cell? ⟨q, 0, none⟩ = some (.int .i64 Y.id) ∧ W.cell? ⟨q, 1, none⟩ = some (.int .i64 Y.rt) ∧ W.cell? ⟨q, 2, none⟩ = some (.int .i64 Y.ep) ∧ W.cell? ⟨q, 3, none⟩ = some (.int .i64 Y.ct) ∧ W.cell? ⟨q, 4, none⟩ = some (.int .i64 Y.gn) ∧ W.cell? ⟨q, 5, none⟩ = some (.int .i64 Y.st) ∧ W.cell? ⟨q, 6, none⟩ = some (.string Y.bd) ∧ Hid (k < 3 ∧ X = Ms k ∧ LAt W b 3 Ms ∧ MAt W p Y.nth Y.bd ∧ MAt W q Y.nth Y.bd ∧ Below w.heap.size w W)
section
variable {w W W' : World} {b k p q : Nat} {Ms : Nat → Msg} {X Y : Msg}
theorem s5_mk (hk : k < 3) (hX : X = Ms k) (h : LAt W b 3 Ms) (h' : MAt W p Y.nth Y.bd) (h'' : MAt W q Y.nth Y.bd) (hb : Below w.heap.size w W) : S5 w b k Ms X p q Y W := by
  obtain ⟨a0, a1, a2, a3, a4, a5, a6⟩ := h.facts k hk X hX
  obtain ⟨⟨b0, b1, b2, b3, b4, b5, b6⟩, _⟩ := h'.facts
  obtain ⟨⟨c0, c1, c2, c3, c4, c5, c6⟩, _⟩ := h''.facts
  exact ⟨a0, a1, a2, a3, a4, a5, a6, b0, b1, b2, b3, b4, b5, b6, c0, c1, c2, c3, c4, c5, c6, Lib.hid ⟨hk, hX, h, h', h'', hb⟩⟩
theorem s5_hid (h : S5 w b k Ms X p q Y W) : k < 3 ∧ X = Ms k ∧ LAt W b 3 Ms ∧ MAt W p Y.nth Y.bd ∧ MAt W q Y.nth Y.bd ∧ Below w.heap.size w W := h.2.2.2.2.2.2.2.2.2.2.2.2.2.2.2.2.2.2.2.2.2.out
theorem s5_keep (h : S5 w b k Ms X p q Y W) (hb : Below W.heap.size W W') : S5 w b k Ms X p q Y W' := by
  obtain ⟨h0, h1, h2, h3, h4, h5⟩ := s5_hid h
  exact s5_mk h0 h1 (h2.below hb h2.1) (h3.below hb h3.1) (h4.below hb h4.1) (h5.trans (hb.mono h5.size))
theorem s5_drew (h : S5 w b k Ms X p q Y W) : S5 w b k Ms X p q Y W.drew := s5_keep h ((Below.refl _ _).drew)
end

attribute [local go_sem ↓] Go.wp_at_zero Go.wp_at_succ
set_option maxHeartbeats 16000000 in
theorem MessageChanges_walk (w : World) (M : Msg) (hM : M.wf) (a0 : Option Addr) (l0 c0 : Nat) (zs : List Int) (hz : Ns w w.heap.size (.slice a0 l0 c0) zs) (lo : Int) (hlo : (Lit.int .i64 lo).wf = true) (hi : Int) (hhi : (Lit.int .i64 hi).wf = true) :
    Calls Try.prog 5 #[M.v, .slice a0 l0 c0, .int .i64 lo, .int .i64 hi] w fun e w' => e = .returned (.bool true) ∧ Below w.heap.size w w' := by
  obtain ⟨p, hp⟩ : ∃ p, p = w.heap.size := ⟨_, rfl⟩
  have hB0 := (Below.refl w.heap.size w).alloc (Nat.le_refl _) (.cells M.cs 23)
  have HP := Lib.hid (MAt.fresh (f := M.nth) w M.id M.rt M.ep M.ct M.gn M.st M.bd 23 rfl rfl rfl rfl rfl rfl)
  have HN := Lib.hid (new_src a0 l0 c0 zs (w.alloc (.cells M.cs 23)) (by
    obtain ⟨A, c, e1, e2, e3, e4, e5⟩ := hz
    exact ⟨A, c, e1, e2, e3, (e4.below hB0).more (by simp), e5⟩))
  obtain ⟨B, hB⟩ : ∃ B, B = (w.alloc (.cells M.cs 23)).heap.size := ⟨_, rfl⟩
  rw [← hp] at HP
  have hB' : B = w.heap.size + 1 := by rw [hB]; simp
  have HB := Lib.hid hB
  have HB' := Lib.hid hB'
  have HPP := Lib.hid hp
  have HB0 := Lib.hid hB0
  clear hM hz hlo hhi hB hp hB0 hB'
  go_enter Try.func5, Try.ntmps5
  go_wp2_with fail
  refine HN.out.mono ?_
  rintro e w1 ⟨g, rfl, hs, hb⟩
  rw [← HB.out] at hs
  have HS := Lib.hid (s4_mk (p := p) (M := M) (HP.out.below hb HP.out.1) hs (by have := HB'.out; have := HPP.out; have := hs.1; omega) (HB0.out.trans (hb.mono HB0.out.size)))
  clear hs hb
  go_wp2
  rw [← HPP.out]
  go_region_held3 (fun W' => W'.cell? ⟨p, 0, none⟩ = some (.int .i64 M.id) ∧ W'.cell? ⟨p, 1, none⟩ = some (.int .i64 M.rt) ∧ W'.cell? ⟨p, 2, none⟩ = some (.int .i64 M.ep) ∧ W'.cell? ⟨p, 3, none⟩ = some (.int .i64 M.ct) ∧ W'.cell? ⟨p, 4, none⟩ = some (.int .i64 M.gn) ∧ W'.cell? ⟨p, 5, none⟩ = some (.int .i64 M.st) ∧ W'.cell? ⟨p, 6, none⟩ = some (.string M.bd) ∧ Hid (MAt W' p M.nth M.bd ∧ SrcAt W' B g ∧ (p ≠ g ∧ w.heap.size ≤ g) ∧ Below w.heap.size w W'))
    ((first | exact HS.out | (refine s4_grown (B := B) (w := w) (p := p) (M := M) (g := g) ?_ hs hg; assumption) | (refine s4_drew (B := B) (w := w) (p := p) (M := M) (g := g) ?_; assumption) | (refine s4_alloc (B := B) (w := w) (p := p) (M := M) (g := g) ?_ _; assumption)))
    (first
      | (go_at_call 20; refine (odd_any B g _ (s4_src (w := w) (p := p) (M := M) (by assumption)) _ _ _).mono ?_; rintro e w5 ⟨M1, rfl, o1, hs, hg⟩)
      | (go_at_call 21; refine (message_any B g _ (s4_src (w := w) (p := p) (M := M) (by assumption)) _ _ _).mono ?_; rintro e w6 ⟨M2, rfl, o2, o3, o4, o5, o6, o7, o8, hs, hg⟩; clear o2 o3 o4 o5 o6 o7 o8))
  have HW6 := Lib.hid (s4_bel (B := B) (w := w) (p := p) (M := M) (g := g) (by assumption))
  have HL := Lib.hid (LAt.fresh3 w6 M M1 M2 23)
  obtain ⟨b, hb⟩ : ∃ b, b = w6.heap.size := ⟨_, rfl⟩
  rw [← hb] at HL
  have HBB := Lib.hid hb
  generalize list3 M M1 M2 = Ms at *
  clear hb hs hg
  go_wp2
  rw [← HBB.out]
  go_loopw [11] (fun i wr => ∃ k : Nat, k ≤ 3 ∧ i = .int .i64 k ∧ LAt wr b 3 Ms ∧ Below w.heap.size w wr) (fun i _ => 3 - (intOf i).toNat)
  case atStart => exact ⟨0, by omega, rfl, HL.out, HW6.out⟩
  case round =>
    obtain ⟨k, hk, rfl, hl, hbel⟩ := hrel
    have HW := Lib.hid hbel
    have HLr := Lib.hid hl
    clear hbel hl
    by_cases hlt : k < 3
    · obtain ⟨X, hX⟩ : ∃ X, X = Ms k := ⟨_, rfl⟩
      obtain ⟨f0, f1, f2, f3, f4, f5, f6⟩ := HLr.out.facts k hlt X hX
      have HX := Lib.hid hX
      clear hX
      have HD1 := Lib.hid (fun w => deliver_any X w)
      have HD2 := Lib.hid (fun w => rdeliver_any X w)
      generalize dlM X = Y at *
      generalize dlE X = e0 at *
      have HV1 := Lib.hid (fun w => revive_any X w)
      have HV2 := Lib.hid (fun w => rrevive_any X w)
      generalize rvM X = Y2 at *
      have HR1 := Lib.hid (fun w => reroute_any X lo hi w)
      have HR2 := Lib.hid (fun w => rreroute_any X lo hi w)
      generalize roM X lo hi = Y3 at *
      have hq1 := neqm Y
      have hq2 := neqm Y2
      have hq3 := neqm Y3
      have hk3 : (k : Int) < 3 := by omega
      have hk0 : (0 : Int) ≤ (k : Int) := Int.natCast_nonneg _
      go_wp2_with fail
      refine (HD1.out _).mono ?_
      rintro e w7 ⟨rfl, hw7⟩
      have HL7 := Lib.hid ((HLr.out.below hw7 HLr.out.1).below ((Below.refl w7.heap.size w7).alloc (Nat.le_refl _) (.cells Y.cs 23)) (Nat.lt_of_lt_of_le HLr.out.1 hw7.size))
      have HW7 := Lib.hid ((HW.out.trans (hw7.mono HW.out.size)).alloc (HW.out.trans (hw7.mono HW.out.size)).size (.cells Y.cs 23))
      have HP7 := Lib.hid (MAt.fresh (f := Y.nth) w7 Y.id Y.rt Y.ep Y.ct Y.gn Y.st Y.bd 23 rfl rfl rfl rfl rfl rfl)
      obtain ⟨p1, hp1⟩ : ∃ p1, p1 = w7.heap.size := ⟨_, rfl⟩
      rw [← hp1] at HP7
      have HPP1 := Lib.hid hp1
      obtain ⟨g0, g1, g2, g3, g4, g5, g6⟩ := HL7.out.facts k hlt X HX.out
      clear hw7 hp1 f0 f1 f2 f3 f4 f5 f6
      go_wp2_with fail
      rw [← HPP1.out]
      refine (HD2.out _).mono ?_
      rintro e w8 ⟨rfl, hw8⟩
      have HL8 := Lib.hid ((HL7.out.below hw8 HL7.out.1).below ((Below.refl w8.heap.size w8).alloc (Nat.le_refl _) (.cells Y.cs 23)) (Nat.lt_of_lt_of_le HL7.out.1 hw8.size))
      have HW8 := Lib.hid ((HW7.out.trans (hw8.mono HW7.out.size)).alloc (HW7.out.trans (hw8.mono HW7.out.size)).size (.cells Y.cs 23))
      have HP8 := Lib.hid ((HP7.out.below hw8 HP7.out.1).alloc (.cells Y.cs 23))
      have HQ8 := Lib.hid (MAt.fresh (f := Y.nth) w8 Y.id Y.rt Y.ep Y.ct Y.gn Y.st Y.bd 23 rfl rfl rfl rfl rfl rfl)
      obtain ⟨q1, hq⟩ : ∃ q1, q1 = w8.heap.size := ⟨_, rfl⟩
      rw [← hq] at HQ8
      have HQQ1 := Lib.hid hq
      have HS5 := Lib.hid (s5_mk hlt HX.out HL8.out HP8.out HQ8.out HW8.out)
      clear hw8 hq g0 g1 g2 g3 g4 g5 g6
      go_wp2_with fail
      rw [← HQQ1.out]
      generalize w8.alloc (.cells #[.int .i64 Y.id, .int .i64 Y.rt, .int .i64 Y.ep, .int .i64 Y.ct, .int .i64 Y.gn, .int .i64 Y.st, .string Y.bd] 23) = W at *
      go_region_held3 (fun W' => W'.cell? ⟨b, k * 7, none⟩ = some (.int .i64 X.id) ∧ W'.cell? ⟨b, k * 7 + 1, none⟩ = some (.int .i64 X.rt) ∧ W'.cell? ⟨b, k * 7 + 2, none⟩ = some (.int .i64 X.ep) ∧ W'.cell? ⟨b, k * 7 + 3, none⟩ = some (.int .i64 X.ct) ∧ W'.cell? ⟨b, k * 7 + 4, none⟩ = some (.int .i64 X.gn) ∧ W'.cell? ⟨b, k * 7 + 5, none⟩ = some (.int .i64 X.st) ∧ W'.cell? ⟨b, k * 7 + 6, none⟩ = some (.string X.bd) ∧ W'.cell? ⟨p1, 0, none⟩ = some (.int .i64 Y.id) ∧ W'.cell? ⟨p1, 1, none⟩ = some (.int .i64 Y.rt) ∧ W'.cell? ⟨p1, 2, none⟩ = some (.int .i64 Y.ep) ∧ W'.cell? ⟨p1, 3, none⟩ = some (.int .i64 Y.ct) ∧ W'.cell? ⟨p1, 4, none⟩ = some (.int .i64 Y.gn) ∧ W'.cell? ⟨p1, 5, none⟩ = some (.int .i64 Y.st) ∧ W'.cell? ⟨p1, 6, none⟩ = some (.string Y.bd) ∧ W'.cell? ⟨q1, 0, none⟩ = some (.int .i64 Y.id) ∧ W'.cell? ⟨q1, 1, none⟩ = some (.int .i64 Y.rt) ∧ W'.cell? ⟨q1, 2, none⟩ = some (.int .i64 Y.ep) ∧ W'.cell? ⟨q1, 3, none⟩ = some (.int .i64 Y.ct) ∧ W'.cell? ⟨q1, 4, none⟩ = some (.int .i64 Y.gn) ∧ W'.cell? ⟨q1, 5, none⟩ = some (.int .i64 Y.st) ∧ W'.cell? ⟨q1, 6, none⟩ = some (.string Y.bd) ∧ Hid (k < 3 ∧ X = Ms k ∧ LAt W' b 3 Ms ∧ MAt W' p1 Y.nth Y.bd ∧ MAt W' q1 Y.nth Y.bd ∧ Below w.heap.size w W'))
        ((first | exact HS5.out | (refine s5_keep (w := w) (b := b) (k := k) (Ms := Ms) (X := X) (p := p1) (q := q1) (Y := Y) ?_ hb; assumption) | (refine s5_drew (w := w) (b := b) (k := k) (Ms := Ms) (X := X) (p := p1) (q := q1) (Y := Y) ?_; assumption)))
        (first
          | (go_at_call 24; refine (HV1.out _).mono ?_; rintro e1 w5 ⟨rfl, hb⟩)
          | (go_at_call 25; refine (HV2.out _).mono ?_; rintro e1 w5 ⟨rfl, hb⟩)
          | (go_at_call 26; refine (HR1.out _).mono ?_; rintro e1 w5 ⟨rfl, hb⟩)
          | (go_at_call 27; refine (HR2.out _).mono ?_; rintro e1 w5 ⟨rfl, hb⟩))
      have HF := Lib.hid (s5_hid (w := w) (b := b) (k := k) (Ms := Ms) (X := X) (p := p1) (q := q1) (Y := Y) (by assumption))
      go_wp2
      go_roundw
      case rel => exact ⟨k + 1, by omega, by go_num, HF.out.2.2.1, HF.out.2.2.2.2.2⟩
      case measure => simp [intOf]; omega
    · go_wp2_with fail
      refine (awake3_any _).mono ?_
      rintro e w8 ⟨rfl, hw8⟩
      have HW8 := Lib.hid (HW.out.trans (hw8.mono HW.out.size))
      clear hw8
      go_wp2
      go_ret
      exact ⟨rfl, HW8.out⟩

/-! The row's step, as the guide's shell has it. -/
namespace messageChanges
open Go.ChangeShapes Go.WideShapes Go.ChangeAt
open Go.ChangeMaps (open_string shut_string)
theorem own : ownKnob Try.prog.godebug = none := by kernel_rfl
theorem laidOut : laidOutB Try.prog = true := by kernel_rfl

set_option maxRecDepth 100000 in
theorem lifted (os : Os) (started : os.Started) (H : Type) (enc : TypeId × Value → H) :
    ReturnsInHanded {} Try.checked os 5 .any (Rows.messageChangesSpec.pre6 enc Try.prog Try.f5 Rows.messageChangesRow.domain false) (Rows.messageChangesSpec.post enc Try.prog Try.f5 false true false false) := by
  refine returnsInHanded_of_change (C := Try.checked) own started (by kernel_rfl) Try.func5
    (ChangeSpec.witness6 (enc := enc) (C := Try.checked) false ⟨#[], #[.agg #[.int .i64 0, .int .i64 0, .int .i64 0, .int .i64 0, .int .i64 0, .int .i64 0, .string ByteArray.empty], .slice none 0 0, .int .i64 0, .int .i64 0], []⟩ 8 (by kernel_rfl) (by kernel_rfl) (by kernel_rfl) (by kernel_rfl)) ?_
  intro W base args ds gs before hval0 hW hcnd _
  have hval : ∀ (j : Nat) t v, Try.f5.params[j]? = some t → args[j]? = some v → Value.okWide Try.prog W .any base t v := hval0
  have hW' := hW
  obtain ⟨p, q, hA0, hV, rfl, hfz, hnd⟩ := hW
  have hA : DataW.TrodAll enc Try.prog W 0 (fun _ => true) true Try.f5.params.toList args.toList ds p := hA0
  rw [Try.params5] at hA hval
  obtain ⟨v0, vs0, d0, ds0, p0, q0, hargs, rfl, rfl, h0, r0⟩ := trodAll_cons hA
  obtain ⟨v1, vs1, d1, ds1, p1, q1, rfl, rfl, rfl, h1, r1⟩ := trodAll_cons r0
  obtain ⟨v2, vs2, d2, ds2, p2, q2, rfl, rfl, rfl, h2, r2⟩ := trodAll_cons r1
  obtain ⟨v3, vs3, d3, ds3, p3, q3, rfl, rfl, rfl, h3, r3⟩ := trodAll_cons r2
  obtain ⟨rfl, rfl, rfl⟩ := trodAll_nil r3
  obtain rfl : args = #[v0, v1, v2, v3] := by cases args; simp_all
  obtain ⟨rfl, rfl⟩ := trodVars_none hV
  obtain ⟨a0, rfl, rfl, rfl, w0⟩ := open_msg (hval 0 23 v0 rfl rfl) h0
  obtain ⟨a1, len1, cap1, rfl⟩ := okWide_slice Try.underlying32 (hval 1 32 v1 rfl rfl)
  have k1 := h1
  have lt1 : ∀ x ∈ p1, x.block < W.heap.size := by obtain ⟨m, hm⟩ := k1; exact DataW.trod_lt m _ _ _ hm
  obtain ⟨z1, w1⟩ : ∃ zs, Ns W W.heap.size (.slice a1 len1 cap1) zs := by
    obtain ⟨fuel, hf⟩ := h1
    rcases open_ints Try.underlying32 Try.underlying3 (by kernel_rfl) hf with ⟨hcs, _⟩ | ⟨x, l, c, zs, hcs, _, hl, hm, hz, _, hcell, hwz⟩
    · simp [Value.cells] at hcs
      obtain ⟨rfl, rfl, rfl⟩ := hcs
      exact ⟨[], Ns.nil⟩
    · simp [Value.cells] at hcs
      obtain ⟨rfl, rfl, rfl⟩ := hcs
      exact Ns.of_cells hl hm (by simpa using hz) hcell hwz
  obtain ⟨a2, rfl, rfl, rfl, w2⟩ := open_int Try.underlying3 (hval 2 3 v2 rfl rfl) h2
  obtain ⟨a3, rfl, rfl, rfl, w3⟩ := open_int Try.underlying3 (hval 3 3 v3 rfl rfl) h3
  clear hA0 hval0
  refine (MessageChanges_walk W a0 w0 a1 len1 cap1 z1 w1 a2 w2 a3 w3).mono fun e W' ⟨he, bel⟩ => ?_
  subst he
  exact ⟨_, rfl, _, _, _, [], _, [], hW', trodAll_mk1 (shut_bool Try.underlying4 _), (trodAll_cons_mk (shut_msg a0 w0) (trodAll_cons_mk (Below.trod laidOut (by kernel_rfl) (of_decide_eq_true (by kernel_rfl)) k1 bel lt1) (trodAll_cons_mk (shut_int Try.underlying3 w2) (trodAll_cons_mk (shut_int Try.underlying3 w3) trodAll_mk0)))), rfl, bel.frame _, fun h => by cases h⟩

theorem over : Rows.messageChangesRow.holds Try.pinned (OpenSpec.ofChange Rows.messageChangesSpec) :=
  OpenClaim.holds_of_wide 5 Try.f5 rfl rfl rfl rfl rfl rfl rfl ⟨rfl, rfl, rfl, rfl, rfl⟩ rfl rfl rfl rfl rfl (by kernel_rfl) Try.func5 (by kernel_rfl)
    (of_decide_eq_true (by kernel_rfl)) (by unfold Func.isWrapper; first | (rw [if_pos (by decide +kernel)]; kernel_rfl) | (rw [if_neg (by decide +kernel)]; exact ⟨rfl, rfl⟩))
    (fun os started H enc _ => lifted os started H enc)

/-- The statement. -/
theorem proved : Rows.MessageChangesSaid := over
#print axioms proved
end messageChanges
end Go.Proofs.Ytjiampelmiaflaa
