/- What is proved here: shard.Take of a valid live shard; Slv; Bnl; shardqueueref05.swap, up by contracts. -/
import Derived.Test.YtdilgeabcacbdaaGreatJ31
import Derived.Test.YtdilgeabcacbdaaGreatJ30
import Derived.Test.YtdilgeabcacbdaaGreatJ01
import Derived.Test.YtdilgeabcacbdaaGreatJ14
import Derived.Test.YtdilgeabcacbdaaGreatJ16
namespace Go.Proofs.YtdilgeabcacbdaaGreat
open Go.RowKit
set_option linter.unusedVariables false

/-- The work of Take: the shard, the result box, the messages that are leased, the leases. -/
structure TkAt (w : World) (p r B : Nat) (S : Sh) (D : Sx) (A0 : Option Addr) (c0 : Nat) (L : List Msg) (lv : Value) (K : List Le) (W : World) : Prop where
  sa : SAt w p S D W
  rs : SB8 W r zS zX
  l0 : Ls W B (.slice A0 L.length c0) L
  o0 : OffB p L.length A0
  own : W.ownsRow B 75 8 lv K.length (ecs K)
  dj : ∀ q, lv.ownBlock = some q → SOff S D q
  dr : D.nw (r + 1)
  ne : p < r ∧ r < B ∧ B ≤ W.heap.size
section
variable {w W W' : World} {p r B c0 : Nat} {S : Sh} {D : Sx} {A0 : Option Addr} {L : List Msg} {K K' : List Le} {lv : Value}
theorem TkAt.below (h : TkAt w p r B S D A0 c0 L lv K W) (hb : Below W.heap.size W W') : TkAt w p r B S D A0 c0 L lv K W' :=
  ⟨h.sa.below hb, h.rs.up hb, h.l0.below (hb.mono h.ne.2.2), h.o0, own_below h.own hb, h.dj, h.dr, h.ne.1, h.ne.2.1, Nat.le_trans h.ne.2.2 hb.size⟩
/-- Stores into a box behind all lists. -/
theorem TkAt.box (h : TkAt w p r B S D A0 c0 L lv K W) {q : Addr} (hq : B ≤ q.block) (hrow : ∀ x, lv.ownBlock = some x → x ≠ q.block) (ho : SOff S D q.block) (v : Value) : TkAt w p r B S D A0 c0 L lv K (W.setCell q v) := by
  have hne := h.ne
  refine ⟨h.sa.other (by omega) ho (by have := h.sa.old; omega) v, h.rs.other (by omega) v, h.l0.setCell hq v, h.o0, ?_, h.dj, h.dr, hne.1, hne.2.1, by simpa using hne.2.2⟩
  refine ⟨h.own.1, h.own.2.imp_right fun ⟨g, cap, cur, hv, hg, hh, rr⟩ => ⟨g, cap, cur, hv, hg, ?_, rr⟩⟩
  rw [← hh]
  exact Below.heap_setCell W q v g (fun e => hrow g (by rw [hv]; rfl) e)
/-- A lease more. -/
theorem TkAt.app {lv' : Value} (h : TkAt w p r B S D A0 c0 L lv K W) (ho : W'.ownsRow B 75 8 lv' K'.length (ecs K')) (hg : W.grownBy W' lv.ownBlock) (hw : ∀ q, lv'.ownBlock = some q → lv.ownBlock = some q ∨ W.heap.size ≤ q) : TkAt w p r B S D A0 c0 L lv' K' W' := by
  have hne := h.ne
  have hlt : ∀ q, lv.ownBlock = some q → B ≤ q := fun q e => (h.own.lt q e).1
  refine ⟨h.sa.grown hg (fun q e => ⟨h.dj q e, by have := hlt q e; omega⟩), h.rs.grown hg (fun q e => by have := hlt q e; omega), h.l0.grownR hne.2.2 hg (fun q e => ?_), h.o0, ho, fun q e => ?_, h.dr, hne.1, hne.2.1, Nat.le_trans hne.2.2 hg.size⟩
  · exact rd_off h.l0.rd (hlt q e)
  · rcases hw q e with e' | e'
    · exact h.dj q e'
    · exact h.sa.sr.offs e'
end
theorem Ls.setsP {W : World} {p B n c : Nat} {A : Option Addr} {l : List Msg} (ho : OffB p n A) : ∀ (vs : List Value) (m : Nat) (W : World), Ls W B (.slice A n c) l → Ls (W.setCells p m vs) B (.slice A n c) l
  | [], _, _, h => h
  | v :: r, m, W, h => Ls.setsP (W := W) ho r (m + 1) _ (h.offp (p := ⟨p, m, none⟩) ho v)
end Go.Proofs.YtdilgeabcacbdaaGreat
/- Plain: what Take's leases are: Holds, Ack and Nack of them. -/
namespace Go.Proofs.YtdilgeabcacbdaaGreat
open Go.RowKit
set_option linter.unusedVariables false

section
variable {V : Vs} {X : Le} {H : Hn} {now ep lim vis dl id : Int} {mx : Nat}
end
end Go.Proofs.YtdilgeabcacbdaaGreat
/- Plain: what an append onto nil, onto what a call owns leaves. -/
namespace Go.Proofs.YtdilgeabcacbdaaGreat
open Go.RowKit
set_option linter.unusedVariables false

/-- Behind an append onto nil. -/
theorem below_nil {W W' : World} {v : Value} (hg : W.grownBy W' v.ownBlock) (hv : v.ownBlock = none) : Below W.heap.size W W' := (Below.refl _ _).grown hg (Nat.le_refl _) (fun k hk => by rw [hv] at hk; cases hk)
theorem below_own {W0 W W' : World} {n size : Nat} {e : TypeId} {v : Value} {xs : List Value} (hb : Below W0.heap.size W0 W) (ho : W.ownsRow W0.heap.size e size v n xs) (hg : W.grownBy W' v.ownBlock) : Below W0.heap.size W0 W' := hb.grown hg hb.size (fun k hk => (ho.lt k hk).1)
end Go.Proofs.YtdilgeabcacbdaaGreat
namespace Go.Proofs.YtdilgeabcacbdaaGreat
open Go.RowKit
set_option linter.unusedVariables false

theorem DlV.of_own {w W : World} {base : Nat} {l : List Du} {v : Value} (ho : W.ownsRow base 88 2 v l.length (dcs l)) (hb : w.heap.size ≤ base) (hB : Below w.heap.size w W) : DlV w l (.returned v) W := by
  obtain ⟨A', c', rfl⟩ := own_form ho
  exact ⟨A', c', rfl, nwv_of (nwv_own ho hb), Dl.of_own ho, hB⟩
set_option maxHeartbeats 4000000 in
set_option maxRecDepth 20000 in
theorem rswap_any (A : Option Addr) (n c i k : Nat) (l : List Du) (w : World) (hv : Dl w w.heap.size (.slice A n c) l) (hi : i < n) (hk : k < n) (hik : i ≠ k) (h100 : n ≤ 100) :
    Calls Tryz.prog 128 #[.slice A n c, .int .i64 i, .int .i64 k] w (DlV w (swp l i k)) := by
  obtain ⟨rfl, hm1, hm2⟩ := hv.len
  obtain ⟨i0, hi0, hz0⟩ := Option.map_eq_some_iff.1 info_due
  simp only [Prod.mk.injEq] at hz0
  have HI := Lib.hid hi0
  have HZ := Lib.hid hz0
  have HRD := Lib.hid hv.rd
  have HV := Lib.hid hv
  have hi' : (i : Int) < (l.length : Int) := by omega
  have hk' : (k : Int) < (l.length : Int) := by omega
  obtain ⟨b, o, rfl, hb, c0, c1⟩ := hv.atg hi
  obtain ⟨b', o', e', hb', d0, d1⟩ := hv.atg hk
  injection e' with e'
  injection e' with e1 e2
  subst e1; subst e2
  clear hb' hv hi0 hz0
  obtain ⟨X, hX⟩ : ∃ X, ge l i = X := ⟨_, rfl⟩
  obtain ⟨Y, hY⟩ : ∃ Y, ge l k = Y := ⟨_, rfl⟩
  have HX := Lib.hid hX
  have HY := Lib.hid hY
  rw [hX] at c0 c1
  rw [hY] at d0 d1
  have HB := Lib.hid hb
  have HC := Lib.hid (And.intro (And.intro c0 c1) (And.intro d0 d1))
  clear hX hY c0 c1 d0 d1 hb
  go_enter Tryz.func128, Tryz.ntmps128
  go_wp2_with (at_builtin; refine wpList_append_rd _ rfl (.const (.slice none 0 0)) (.tmp 8) 33 rfl w.heap.size 88 i0 _ 2 16 Tryz.underlying33 HI.out HZ.out.1 HZ.out.2.1 HZ.out.2.2 rfl (by omega) (.slice none 0 0) 0 [] rfl (World.ownsRow_nil _ _ _ _) w.heap.size (some ⟨b, o, none⟩) l.length c (dcs l) rfl HRD.out (dcs_one l) (by unfold maxLen; omega) (by omega) (Nat.le_refl _) ?_; intro v1 w1 hown1 hg1 hat1)
  rw [Nat.zero_add, List.nil_append] at hown1
  have HB1 := Lib.hid (show Below w.heap.size w w1 from (Below.refl w.heap.size w).grown hg1 (Nat.le_refl _) (fun k e => by simp [Value.ownBlock] at e))
  obtain ⟨q, cap, rfl, hq, hle, hmx, hrow⟩ := own_row hown1 (by omega)
  have HR := Lib.hid (RwAt.mk (w := w1) hrow rfl (Below.refl q w1))
  have HQ := Lib.hid hq
  have HM := Lib.hid (And.intro hle hmx)
  have hbq : ¬ (b = q) := by have := HB.out; omega
  have hqb : ¬ (q = b) := fun e => hbq e.symm
  clear hown1 hg1 hat1 hq hle hmx hrow
  obtain ⟨y0, y1, f0, f1, hql⟩ := HR.out.row.at_ hi
  obtain ⟨z0, z1, e0, e1, -⟩ := HR.out.row.at_ hk
  rw [HX.out] at y0 y1
  rw [HY.out] at z0 z1
  have c0 := (HB1.out.cell (p := ⟨b, o + i * 2, none⟩) HB.out).trans HC.out.1.1
  have c1 := (HB1.out.cell (p := ⟨b, o + i * 2 + 1, none⟩) HB.out).trans HC.out.1.2
  have d0 := (HB1.out.cell (p := ⟨b, o + k * 2, none⟩) HB.out).trans HC.out.2.1
  have d1 := (HB1.out.cell (p := ⟨b, o + k * 2 + 1, none⟩) HB.out).trans HC.out.2.2
  have n1 : ¬ (i = k) := hik
  have n2 : ¬ (k = i) := fun e => hik e.symm
  go_region
  clear c0 c1 d0 d1 y0 y1 z0 z1 f0 f1 e0 e1 hql
  have HR2 := Lib.hid ((HR.out.swap hi hk).drew)
  rw [HX.out, HY.out] at HR2
  generalize ((((w1.setCell ⟨q, i * 2, none⟩ (.int .i64 Y.dl)).setCell ⟨q, i * 2 + 1, none⟩ (.int .i64 Y.id)).setCell ⟨q, k * 2, none⟩ (.int .i64 X.dl)).setCell ⟨q, k * 2 + 1, none⟩ (.int .i64 X.id)).drew = w2 at *
  have HF := Lib.hid (show DlV w (swp l i k) (.returned (.slice (some ⟨q, 0, none⟩) l.length cap)) w2 from ⟨some ⟨q, 0, none⟩, cap, by rw [swp_len], nw_some HQ.out, by rw [swp_len]; exact HR2.out.row.dl' HR2.out.len HM.out.1 HM.out.2, HB1.out.trans (HR2.out.bel.mono HQ.out)⟩)
  go_wp2
  go_ret
  exact HF.out

/-- A list of elements, from a block on. -/
structure LsAt (w : World) (lo : Nat) (v : Value) (l : List Du) (W : World) : Prop where
  dl : Dl W W.heap.size v l
  nw : NwV lo v
  bel : Below w.heap.size w W
theorem LsAt.below {w W W' : World} {lo : Nat} {v : Value} {l : List Du} (h : LsAt w lo v l W) (hb : Below W.heap.size W W') : LsAt w lo v l W' := ⟨h.dl.up hb, h.nw, h.bel.trans (hb.mono h.bel.size)⟩
theorem LsAt.drewN {w W : World} {lo : Nat} {v : Value} {l : List Du} (h : LsAt w lo v l W) (k : Nat) : LsAt w lo v l (W.drewN k) := ⟨h.dl, h.nw, ⟨h.bel.os, h.bel.tape, h.bel.output, h.bel.size, h.bel.block⟩⟩
/-- A list as a result. -/
def LvP (w : World) (lo : Nat) (l : List Du) (e : Ending) (w' : World) : Prop := ∃ v, e = .returned v ∧ LsAt w lo v l w'

set_option maxHeartbeats 4000000 in
set_option maxRecDepth 20000 in
theorem rup_any (lo : Nat) (A : Option Addr) (n c i : Nat) (l : List Du) (w : World) (hv : Dl w w.heap.size (.slice A n c) l) (hlo : lo ≤ w.heap.size) (hnw : Nw lo A) (hi : i < n) (h100 : n ≤ 100) :
    Calls Tryz.prog 125 #[.slice A n c, .int .i64 i] w (LvP w lo (upF l i)) := by
  obtain ⟨rfl, hm1, hm2⟩ := hv.len
  have H := Lib.hid (show LsAt w lo (.slice A l.length c) l w from ⟨hv, nwv_mk hnw, Below.refl _ _⟩)
  have HLO := Lib.hid hlo
  have hi100 : (i : Int) ≤ 100 := by omega
  have HN := Lib.hid (show l.length ≤ 100 from h100)
  obtain ⟨n, hn⟩ : ∃ n, n = l.length := ⟨_, rfl⟩
  rw [← hn] at H HN hi ⊢
  have HLN := Lib.hid hn
  clear hv hm1 hm2 hnw hlo h100 hn
  go_enter Tryz.func125, Tryz.ntmps125
  go_wp2
  go_loopw [0, 1] (fun hv iv wr => ∃ (j : Nat) (A' : Option Addr) (c' : Nat) (g : List Du), hv = .slice A' n c' ∧ iv = .int .i64 j ∧ j ≤ i ∧ g.length = n ∧ upF g j = upF l i ∧ LsAt w lo (.slice A' n c') g wr) (fun _ iv _ => (intOf iv).toNat)
  case atStart => exact ⟨i, A, c, l, rfl, rfl, Nat.le_refl _, HLN.out.symm, rfl, H.out⟩
  case round =>
    obtain ⟨j, A', c', g, rfl, rfl, hji, hgn, hu, hla⟩ := hrel
    have HL := Lib.hid hla
    have HU := Lib.hid hu
    have HGN := Lib.hid hgn
    clear hla hu hgn
    by_cases hj0 : 0 < j
    · obtain ⟨p, hp⟩ : ∃ p, p = (j - 1) / 2 := ⟨_, rfl⟩
      have HPP := Lib.hid hp
      have hjn : j < n := by omega
      have hpn : p < n := by omega
      have hw1 : IntKind.i64.wrap ((j : Int) - 1) = (j : Int) - 1 := IntWalk.i64_in _ (by omega)
      have hq1 : ((j : Int) - 1).tdiv 2 = (p : Int) := by rw [Int.tdiv_eq_ediv_of_nonneg (by omega)]; omega
      have hw2 : IntKind.i64.wrap (p : Int) = (p : Int) := IntWalk.i64_in _ (by omega)
      clear hp
      obtain ⟨b, o, rfl, hb, c0, c1⟩ := HL.out.dl.atg (k := j) (by rw [HGN.out]; exact hjn)
      obtain ⟨b', o', e', hb', d0, d1⟩ := HL.out.dl.atg (k := p) (by rw [HGN.out]; exact hpn)
      injection e' with e'
      injection e' with e1 e2
      subst e1; subst e2
      clear hb'
      obtain ⟨X, hX⟩ : ∃ X, ge g j = X := ⟨_, rfl⟩
      obtain ⟨Y, hY⟩ : ∃ Y, ge g p = Y := ⟨_, rfl⟩
      have HX := Lib.hid hX
      have HY := Lib.hid hY
      rw [hX] at c0 c1
      rw [hY] at d0 d1
      clear hX hY
      have HF := Lib.hid (fun w1 => rbef_any X Y w1)
      have HSA := Lib.hid (show wr.drew.cell? ⟨b, o + j * 2, none⟩ = some (.int .i64 X.dl) ∧ wr.drew.cell? ⟨b, o + j * 2 + 1, none⟩ = some (.int .i64 X.id) ∧ wr.drew.cell? ⟨b, o + p * 2, none⟩ = some (.int .i64 Y.dl) ∧ wr.drew.cell? ⟨b, o + p * 2 + 1, none⟩ = some (.int .i64 Y.id) from ⟨c0, c1, d0, d1⟩)
      have HSC := Lib.hid (fun w1 (hb1 : Below wr.drew.heap.size wr.drew w1) => show (w1.cell? ⟨b, o + j * 2, none⟩ = some (.int .i64 X.dl) ∧ w1.cell? ⟨b, o + j * 2 + 1, none⟩ = some (.int .i64 X.id) ∧ w1.cell? ⟨b, o + p * 2, none⟩ = some (.int .i64 Y.dl) ∧ w1.cell? ⟨b, o + p * 2 + 1, none⟩ = some (.int .i64 Y.id)) ∧ LsAt w lo (.slice (some ⟨b, o, none⟩) n c') g w1 from ⟨⟨(hb1.cell (p := ⟨b, o + j * 2, none⟩) hb).trans c0, (hb1.cell (p := ⟨b, o + j * 2 + 1, none⟩) hb).trans c1, (hb1.cell (p := ⟨b, o + p * 2, none⟩) hb).trans d0, (hb1.cell (p := ⟨b, o + p * 2 + 1, none⟩) hb).trans d1⟩, HL.out.below (drew_bel hb1)⟩)
      have hj0' : (0 : Int) < (j : Int) := by omega
      have hjn' : (j : Int) < (n : Int) := by omega
      have hpn' : (p : Int) < (n : Int) := by omega
      have hgd : decide ((0 : Int) < (j : Int)) = true := decide_eq_true hj0'
      clear hb
      cases hbf : bef X Y with
      | true =>
        have HSW := Lib.hid (fun w1 hv => rswap_any (some ⟨b, o, none⟩) n c' j p g w1 hv hjn hpn (by have := HPP.out; omega) HN.out)
        have HUU := Lib.hid (show upF (swp g j p) p = upF l i by
          have hb2 : bef (ge g j) (ge g ((j - 1) / 2)) = true := by rw [← HPP.out, HX.out, HY.out]; exact hbf
          rw [HPP.out, ← HU.out, upF_step hj0 hb2])
        rw [hbf] at HF
        clear hbf
        go_wp2
        go_region_held3 (fun W => W.cell? ⟨b, o + j * 2, none⟩ = some (.int .i64 X.dl) ∧ W.cell? ⟨b, o + j * 2 + 1, none⟩ = some (.int .i64 X.id) ∧ W.cell? ⟨b, o + p * 2, none⟩ = some (.int .i64 Y.dl) ∧ W.cell? ⟨b, o + p * 2 + 1, none⟩ = some (.int .i64 Y.id))
          (first | with_reducible exact HSA.out | with_reducible exact HSB.out)
          ((go_at_call 91; (with_reducible refine (HF.out _).mono ?_); rintro e w1 ⟨rfl, hb1⟩; obtain ⟨hs, hbb⟩ := HSC.out _ hb1; have HSB := Lib.hid hs; have HL1 := Lib.hid hbb; clear hb1 hs hbb))
        clear c0 c1 d0 d1
        go_wp2_with fail
        refine (HSW.out _ HL1.out.dl).mono ?_
        rintro e w2 ⟨A2, c2, rfl, hnw2, hl2, hb2⟩
        have hsl : (swp g j p).length = n := by rw [swp_len]; exact HGN.out
        rw [hsl] at hl2 ⊢
        have HL2 := Lib.hid (show LsAt w lo (.slice A2 n c2) (swp g j p) w2 from ⟨hl2, nwv_mk (nw_low hnw2 (Nat.le_trans HLO.out HL1.out.bel.size)), HL1.out.bel.trans (hb2.mono HL1.out.bel.size)⟩)
        have HSL := Lib.hid hsl
        have HPJ := Lib.hid (show p < j by have := HPP.out; omega)
        clear hnw2 hl2 hb2 hsl
        go_wp2
        go_roundw
        case rel => exact ⟨p, A2, c2, swp g j p, rfl, rfl, by have := HPJ.out; omega, HSL.out, HUU.out, HL2.out⟩
        case measure => have := HPJ.out; simp [intOf]; omega
      | false =>
        have HUU := Lib.hid (show upF l i = g by
          have hb2 : bef (ge g j) (ge g ((j - 1) / 2)) = false := by rw [← HPP.out, HX.out, HY.out]; exact hbf
          rw [← HU.out, upF_stop hb2])
        rw [hbf] at HF
        clear hbf
        go_wp2
        go_region_held3 (fun W => W.cell? ⟨b, o + j * 2, none⟩ = some (.int .i64 X.dl) ∧ W.cell? ⟨b, o + j * 2 + 1, none⟩ = some (.int .i64 X.id) ∧ W.cell? ⟨b, o + p * 2, none⟩ = some (.int .i64 Y.dl) ∧ W.cell? ⟨b, o + p * 2 + 1, none⟩ = some (.int .i64 Y.id))
          (first | with_reducible exact HSA.out | with_reducible exact HSB.out)
          ((go_at_call 91; (with_reducible refine (HF.out _).mono ?_); rintro e w1 ⟨rfl, hb1⟩; obtain ⟨hs, hbb⟩ := HSC.out _ hb1; have HSB := Lib.hid hs; have HL1 := Lib.hid hbb; clear hb1 hs hbb))
        clear c0 c1 d0 d1 hw1 hq1 hw2
        go_wp2
        go_ret
        exact ⟨_, rfl, by rw [HUU.out]; exact HL1.out⟩
    · obtain rfl : j = 0 := by omega
      have HUU := Lib.hid (show upF l i = g by rw [← HU.out, upF_zero])
      go_wp2
      go_quiet (fail)
      go_wp2
      go_ret
      exact ⟨_, rfl, by rw [HUU.out]; exact HL.out.drewN _⟩
end Go.Proofs.YtdilgeabcacbdaaGreat
