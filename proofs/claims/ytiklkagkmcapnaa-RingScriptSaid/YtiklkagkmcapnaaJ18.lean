/- What is proved here: shardqueueref02.Route, by one contract for all arguments; Message of the statements' base returns a message with small numbers; (plain) a ring that a source has made; what keeps a list of messages beside a source. -/
import Derived.Test.YtiklkagkmcapnaaJ17
import Derived.Test.YtiklkagkmcapnaaJ16
import Derived.Test.YtiklkagkmcapnaaJ03
import Derived.RegionTactic
import Derived.Deep.RegionWith
import Derived.Test.YtiklkagkmcapnaaJ11
namespace Go.Proofs.Ytiklkagkmcapnaa
open Go.RowKit
set_option linter.unusedVariables false

theorem rroute_no (id : Int) (w : World) (hb : id < 0 ∨ 1073741824 < id) :
    Calls Try.prog 46 #[.int .i64 id] w fun e w' => e = .returned (.int .i64 0) ∧ Below w.heap.size w w' := by
  by_cases b0 : id < 0
  · clear hb
    go_enter Try.func46, Try.ntmps46
    go_wp2
    go_ret
    exact ⟨rfl, Below.refl _ _⟩
  have b1 : 1073741824 < id := by omega
  clear hb
  go_enter Try.func46, Try.ntmps46
  go_wp2
  go_ret
  exact ⟨rfl, Below.refl _ _⟩

theorem rroute_yes (id : Int) (w : World) (h0 : 0 ≤ id) (h1 : id ≤ 1073741824) :
    Calls Try.prog 46 #[.int .i64 id] w fun e w' => e = .returned (.int .i64 (rtx (fnv (be 4 id.toNat)))) ∧ Below w.heap.size w w' := by
  have HC := Lib.hid (rput_all none 0 0 [] id 4 w Bs.nil (by simp))
  have HP := Lib.hid (pt4 id h0 h1)
  have HL := Lib.hid (be_length 4 id.toNat)
  go_enter Try.func46, Try.ntmps46
  go_wp2_with fail
  refine HC.out.mono ?_
  rintro e w1 ⟨v1, rfl, hv, hb⟩
  obtain ⟨e0, e1⟩ := HP.out
  rw [e1] at hv
  rw [e0]
  obtain ⟨A1, c1, rfl, _, _, _⟩ := (show _ from hv)
  have HV := Lib.hid hv
  have HB := Lib.hid hb
  clear hv hb e0 e1
  go_wp2_with fail
  refine (rsum_any _ _ _ _ _ HV.out (by rw [HL.out]; omega)).mono ?_
  rintro e w2 ⟨rfl, rfl⟩
  obtain ⟨h, hh⟩ : ∃ h, h = fnv (be 4 id.toNat) := ⟨_, rfl⟩
  have h32 : h < 4294967296 := by rw [hh]; exact fnv_lt _
  rw [← hh]
  have hx := rtx_bits h h32
  have ha := and_ffff (h : Int)
  have h32' : (h : Int) ≤ 4294967295 := by omega
  have HH := Lib.hid hh
  clear hh h32
  go_wp2
  go_ret
  exact ⟨by rw [← HH.out]; rfl, HB.out⟩

theorem rroute_any (id : Int) (w : World) : Calls Try.prog 46 #[.int .i64 id] w fun e w' => e = .returned (.int .i64 (rtF id)) ∧ Below w.heap.size w w' := by
  by_cases h : 0 ≤ id ∧ id ≤ 1073741824
  · rw [show rtF id = (rtx (fnv (be 4 id.toNat)) : Int) from if_pos h]; exact rroute_yes id w h.1 h.2
  · rw [show rtF id = 0 from if_neg h]; exact rroute_no id w (by omega)
end Go.Proofs.Ytiklkagkmcapnaa
namespace Go.Proofs.Ytiklkagkmcapnaa
open Go.RowKit
set_option linter.unusedVariables false

/-- A message made by a source. -/
def SrMsg (B g : Nat) (id lo hi : Int) (w : World) (e : Ending) (w' : World) : Prop := ∃ M : Msg, e = .returned M.v ∧ M.id = id ∧ M.rt = intoF (rtF id) lo hi ∧ (0 ≤ M.ep ∧ M.ep ≤ 2) ∧ (0 ≤ M.ct ∧ M.ct ≤ 3) ∧ (M.ct ≤ M.gn ∧ M.gn ≤ 65536) ∧ (0 ≤ M.st ∧ M.st ≤ 49) ∧ M.bd.size ≤ 3 ∧ SrcAt w' B g ∧ w.grownBy w' (some g)

theorem src7 {W : World} {B g b : Nat} (h : SrcAt W B g) (hne : b ≠ g) (hB : B ≤ b) (v0 v1 v2 v3 v4 v5 v6 : Value) : SrcAt (((((((W.setCell ⟨b, 0, none⟩ v0).setCell ⟨b, 1, none⟩ v1).setCell ⟨b, 2, none⟩ v2).setCell ⟨b, 3, none⟩ v3).setCell ⟨b, 4, none⟩ v4).setCell ⟨b, 5, none⟩ v5).setCell ⟨b, 6, none⟩ v6) B g :=
  ((((((h.other (p := ⟨b, 0, none⟩) hne hB _).other (p := ⟨b, 1, none⟩) hne hB _).other (p := ⟨b, 2, none⟩) hne hB _).other (p := ⟨b, 3, none⟩) hne hB _).other (p := ⟨b, 4, none⟩) hne hB _).other (p := ⟨b, 5, none⟩) hne hB _).other (p := ⟨b, 6, none⟩) hne hB _
theorem only7 {a W : World} {g b : Nat} (h : a.grownBy W (some g)) (hb : a.heap.size ≤ b) (v0 v1 v2 v3 v4 v5 v6 : Value) : a.grownBy (((((((W.setCell ⟨b, 0, none⟩ v0).setCell ⟨b, 1, none⟩ v1).setCell ⟨b, 2, none⟩ v2).setCell ⟨b, 3, none⟩ v3).setCell ⟨b, 4, none⟩ v4).setCell ⟨b, 5, none⟩ v5).setCell ⟨b, 6, none⟩ v6) (some g) :=
  only_set (only_set (only_set (only_set (only_set (only_set (only_set h (.inr hb) _) (.inr hb) _) (.inr hb) _) (.inr hb) _) (.inr hb) _) (.inr hb) _) (.inr hb) _

set_option maxHeartbeats 8000000 in
set_option maxRecDepth 20000 in
theorem message_any (B g : Nat) (w : World) (h : SrcAt w B g) (id lo hi : Int) : Calls Try.prog 18 #[.pointer (some ⟨g, 0, none⟩), .int .i64 id, .int .i64 lo, .int .i64 hi] w (SrMsg B g id lo hi w) := by
  have H := Lib.hid h
  have hr := MAt.fresh (f := fun _ => 0) w 0 0 0 0 0 0 ByteArray.empty 26 rfl rfl rfl rfl rfl rfl
  obtain ⟨r, hrr⟩ : ∃ r, r = w.heap.size := ⟨_, rfl⟩
  rw [← hrr] at hr
  have HR := Lib.hid hr
  have HRR := Lib.hid hrr
  have HBR := Lib.hid (show B ≤ r by have := h.1; have := h.2.1; omega)
  have HNR := Lib.hid (show r ≠ g by have := h.2.1; omega)
  have HROUTE := Lib.hid (fun w => rroute_any id w)
  have HF := Lib.hid (show rtF id = rtF id from rfl)
  clear h hr hrr
  go_enter Try.func18, Try.ntmps18
  go_wp2_with fail
  refine (HROUTE.out _).mono ?_
  rintro e w1 ⟨rfl, hb⟩
  have HS1 := Lib.hid ((H.out.alloc _).below hb)
  have HR1 := Lib.hid (HR.out.below hb (by rw [HRR.out]; simp))
  have HG1 := Lib.hid (only_below (only_alloc (World.grownBy.refl w (some g)) _) hb)
  clear hb
  go_wp2_with fail
  refine (rinto_any _ _ _ _).mono ?_
  rintro e w2 ⟨rfl, rfl⟩
  generalize hrt : intoF (rtF id) lo hi = rt
  have HRT := Lib.hid hrt
  clear hrt
  go_wp2_with fail
  refine (n_any B g _ HS1.out 3 (by omega) (by omega)).mono ?_
  rintro e w2 ⟨ep, rfl, e1, e2, hs, hg⟩
  have HS2 := Lib.hid hs
  have HR2 := Lib.hid (HR1.out.grown hg HNR.out)
  have HG2 := Lib.hid (HG1.out.trans hg)
  clear hs hg
  go_wp2_with fail
  refine (n_any B g _ HS2.out 4 (by omega) (by omega)).mono ?_
  rintro e w3 ⟨ct, rfl, c1', c2', hs, hg⟩
  have HS3 := Lib.hid hs
  have HR3 := Lib.hid (HR2.out.grown hg HNR.out)
  have HG3 := Lib.hid (HG2.out.trans hg)
  clear hs hg
  go_wp2_with fail
  refine (n_any B g _ HS3.out 50 (by omega) (by omega)).mono ?_
  rintro e w4 ⟨st, rfl, s1, s2, hs, hg⟩
  have HS4 := Lib.hid hs
  have HR4 := Lib.hid (HR3.out.grown hg HNR.out)
  have HG4 := Lib.hid (HG3.out.trans hg)
  clear hs hg
  go_wp2_with fail
  refine (body_any B g _ HS4.out).mono ?_
  rintro e w5 ⟨bd, rfl, b1, hs, hg⟩
  have HS5 := Lib.hid hs
  have HR5 := Lib.hid (HR4.out.grown hg HNR.out)
  have HG5 := Lib.hid (HG4.out.trans hg)
  have hk := MAt.fresh (f := fun | 0 => id | 1 => rt | 2 => ep | 3 => ct | 4 => 0 | _ => st) w5 id rt ep ct 0 st bd 26 rfl rfl rfl rfl rfl rfl
  have HNK := Lib.hid (show w5.heap.size ≠ g by have := hs.2.1; omega)
  have HGW := Lib.hid (show w.heap.size ≤ w5.heap.size from HG5.out.size)
  generalize hkk : w5.heap.size = k at hk HNK HGW
  have HK := Lib.hid hk
  have HB1 := Lib.hid b1
  clear hs hg hk b1
  have hS5 := HS5.out.alloc (.cells #[.int .i64 id, .int .i64 rt, .int .i64 ep, .int .i64 ct, .int .i64 0, .int .i64 st, .string bd] 26)
  have hR5 := HR5.out.alloc (.cells #[.int .i64 id, .int .i64 rt, .int .i64 ep, .int .i64 ct, .int .i64 0, .int .i64 st, .string bd] 26)
  have hG5 := only_alloc HG5.out (.cells #[.int .i64 id, .int .i64 rt, .int .i64 ep, .int .i64 ct, .int .i64 0, .int .i64 st, .string bd] 26)
  have HRQ := Lib.hid HR5.out.1
  have HSQ := HS5
  have HS5 := Lib.hid hS5
  have HR5 := Lib.hid hR5
  have HG5 := Lib.hid hG5
  clear hS5 hR5 hG5
  go_wp2_with fail
  have HKK := Lib.hid hkk
  have HRK := Lib.hid (show r ≠ k by have := HRQ.out; omega)
  have HBK := Lib.hid (show B ≤ k by have := HSQ.out.1; have := HSQ.out.2.1; omega)
  clear hkk
  generalize w5.alloc (.cells #[.int .i64 id, .int .i64 rt, .int .i64 ep, .int .i64 ct, .int .i64 0, .int .i64 st, .string bd] 26) = W at *
  have hl := HK.out.2.1 3 (by omega)
  go_region_with ((go_at_call 15; refine (n_any B g _ (SrcAt.drew HS5.out) 3 (by omega) (by omega)).mono ?_; rintro e w7 ⟨x, rfl, x1, x2, hs, hg⟩; have HS7 := Lib.hid hs; have HG7 := Lib.hid (HG5.out.trans (gdrew hg)); have HK7 := Lib.hid (HK.out.grown (gdrew hg) HNK.out); have HR7 := Lib.hid (HR5.out.grown (gdrew hg) HNR.out); have g3 := HK7.out.2.1 3 (by omega); have g4 := HK7.out.2.1 4 (by omega); have g5 := HK7.out.2.2.2 4 (by omega); have hwx : IntKind.i64.wrap (ct + x) = ct + x := IntWalk.i64_in _ (by omega); clear hs hg))
  all_goals
    obtain ⟨gn, hgn⟩ : ∃ gn, gn = ct + x := ⟨_, rfl⟩
    rw [← hgn]
    have q1 : ct ≤ gn := by omega
    have q2 : gn ≤ 65536 := by omega
    have HS8 := Lib.hid (HS7.out.other (p := ⟨k, 4, none⟩) HNK.out HBK.out (.int .i64 gn))
    have HR8 := Lib.hid (HR7.out.other (p := ⟨k, 4, none⟩) (fun e => HRK.out e.symm) (.int .i64 gn))
    have HK8 := Lib.hid (HK7.out.put 4 (by omega) gn)
    have HG8 := Lib.hid (only_set HG7.out (p := ⟨k, 4, none⟩) (.inr HGW.out) (.int .i64 gn))
    clear g3 g4 g5 hwx hgn x1 x2 hl
    rw [← HRR.out]
    go_wp2_with fail
    refine (n_any B g _ HS8.out 20 (by omega) (by omega)).mono ?_
    rintro e w9 ⟨y, rfl, y1, y2, hs, hg⟩
    have HS9 := Lib.hid hs
    have HG9 := Lib.hid (HG8.out.trans hg)
    have HK9 := Lib.hid (HK8.out.grown hg HNK.out)
    have HR9 := Lib.hid (HR8.out.grown hg HNR.out)
    obtain ⟨⟨a0, a1, a2, a3, a4, a5, a6⟩, b0, b1, b2, b3, b4, b5, b6⟩ := HK9.out.facts
    obtain ⟨⟨c0, c1, c2, c3, c4, c5, c6⟩, d0, d1, d2, d3, d4, d5, d6⟩ := HR9.out.facts
    have hrk := HRK.out
    have hkr : k ≠ r := fun e => hrk e.symm
    simp at a0 a1 a2 a3 a4 a5
    clear hs hg
    by_cases hy : y = 19
    · subst hy
      go_wp2
      exact bodyPost_ret (v := Msg.v ⟨id, rt, ep, ct, 65536, st, bd⟩) (by simp only [results, Try.results18]; go_simp <;> rfl) rfl ⟨_, rfl, rfl, by rw [HRT.out], ⟨e1, e2⟩, ⟨c1', c2'⟩, ⟨by show ct ≤ 65536; omega, by show (65536 : Int) ≤ 65536; omega⟩, ⟨s1, s2⟩, HB1.out, src7 (HS9.out.other (p := ⟨k, 4, none⟩) HNK.out HBK.out _) HNR.out HBR.out _ _ _ _ _ _ _, only7 (only_set HG9.out (p := ⟨k, 4, none⟩) (.inr HGW.out) _) (by rw [HRR.out]; exact Nat.le_refl _) _ _ _ _ _ _ _⟩
    · have hy' : (y == 19) = false := beq_eq_false_iff_ne.2 hy
      go_wp2
      exact bodyPost_ret (v := Msg.v ⟨id, rt, ep, ct, gn, st, bd⟩) (by simp only [results, Try.results18]; go_simp <;> rfl) rfl ⟨_, rfl, rfl, by rw [HRT.out], ⟨e1, e2⟩, ⟨c1', c2'⟩, ⟨q1, q2⟩, ⟨s1, s2⟩, HB1.out, src7 HS9.out HNR.out HBR.out _ _ _ _ _ _ _, only7 HG9.out (by rw [HRR.out]; exact Nat.le_refl _) _ _ _ _ _ _ _⟩
end Go.Proofs.Ytiklkagkmcapnaa
namespace Go.Proofs.Ytiklkagkmcapnaa
open Go.RowKit
set_option linter.unusedVariables false

/-- An address does not lie in a block. -/
def Off (b : Nat) (A : Option Addr) : Prop := ∀ a, A = some a → a.block ≠ b
theorem off_nw {b lo : Nat} {A : Option Addr} (h : Nw lo A) (hb : b < lo) : Off b A := fun a e => by have := h a e; omega
theorem off_ls {W : World} {B n c : Nat} {A : Option Addr} {l : List Msg} (h : Ls W B (.slice A n c) l) (hl : 0 < l.length) {b : Nat} (hb : B ≤ b) : Off b A := fun a e => by
  obtain ⟨b', o, e', hb', _⟩ := h.rd.2 (by rw [h.len.1]; exact hl)
  rw [e'] at e
  injection e with e
  subst e
  show b' ≠ b
  omega
theorem Ls.off' {W : World} {B n c : Nat} {A : Option Addr} {l : List Msg} (h : Ls W B (.slice A n c) l) {p : Addr} (hA : Off p.block A) (v : Value) : Ls (W.setCell p v) B (.slice A n c) l := by
  obtain ⟨A', c', e, hl, hm, hr⟩ := h
  injection e with e1 e2 e3
  subst e1; subst e3
  refine ⟨A, c, by rw [e2], hl, hm, hr.1, fun h0 => ?_⟩
  obtain ⟨b, o, e, hb, hc⟩ := hr.2 h0
  have hlo := hA _ e
  exact ⟨b, o, e, hb, fun j u hu => (World.cell?_setCell_other W p ⟨b, o + j, none⟩ v (fun e' => hlo (congrArg Addr.block e').symm)).trans (hc j u hu)⟩
theorem Ls.grownG {W W' : World} {B n c g : Nat} {A : Option Addr} {l : List Msg} (h : Ls W B (.slice A n c) l) (hg : W.grownBy W' (some g)) (hB : B ≤ W.heap.size) (hA : Off g A) : Ls W' B (.slice A n c) l := by
  obtain ⟨A', c', e, hl, hm, hr⟩ := h
  injection e with e1 e2 e3
  subst e1; subst e3
  refine ⟨A, c, by rw [e2], hl, hm, hr.1, fun h0 => ?_⟩
  obtain ⟨b, o, e, hb, hc⟩ := hr.2 h0
  have hlo := hA _ e
  exact ⟨b, o, e, hb, fun j u hu => (hg.cell_far ⟨b, o + j, none⟩ (Nat.lt_of_lt_of_le hb hB) (fun e' => hlo (by injection e'))).trans (hc j u hu)⟩
theorem RB.grownG {W W' : World} {p n c g : Nat} {A : Option Addr} {hd sz : Int} (h : RB W p A n c hd sz) (hg : W.grownBy W' (some g)) (hp : p ≠ g) : RB W' p A n c hd sz := by
  have e : ∀ o, W'.cell? ⟨p, o, none⟩ = W.cell? ⟨p, o, none⟩ := fun o => hg.cell_far ⟨p, o, none⟩ h.lt (fun e => hp (by injection e))
  exact ⟨Nat.lt_of_lt_of_le h.lt hg.size, (e 0).trans h.c0, (e 1).trans h.c1, (e 2).trans h.c2, fun o => (hg.frozen_far ⟨p, o, none⟩ h.lt (fun e => hp (by injection e))).trans (h.fr o)⟩
theorem into_span (r l h : Int) (r0 : 0 ≤ r) (r1 : r ≤ 65535) (l0 : 0 ≤ l) (h1 : h ≤ 65535) (hlh : l ≤ h) : l ≤ intoF r l h ∧ intoF r l h ≤ h := by
  have hA : areB r l h = true := decide_eq_true ⟨⟨r0, r1⟩, ⟨l0, by omega⟩, ⟨by omega, h1⟩⟩
  have hm0 : 0 ≤ r % (h - l + 1) := Int.emod_nonneg _ (by omega)
  have hm1 : r % (h - l + 1) < h - l + 1 := Int.emod_lt_of_pos _ (by omega)
  unfold intoF
  rw [if_pos ⟨hA, hlh⟩]
  split <;> omega
/-- A message that a source has made is valid. -/
theorem msg_ok {M : Msg} {id lo hi : Int} (h0 : M.id = id) (h1 : M.rt = intoF (rtF id) lo hi) (h2 : 0 ≤ M.ep ∧ M.ep ≤ 2) (h3 : 0 ≤ M.ct ∧ M.ct ≤ 3) (h4 : M.ct ≤ M.gn ∧ M.gn ≤ 65536) (h5 : 0 ≤ M.st ∧ M.st ≤ 49) (h6 : M.bd.size ≤ 3) (i1 : 1 ≤ id) (i2 : id ≤ 1073741824) (l0 : 0 ≤ lo) (l1 : lo ≤ hi) (l2 : hi ≤ 65535) : vf M = 0 := by
  have hr := rtF_lt id
  have := into_span (rtF id) lo hi hr.1 hr.2 l0 l2 l1
  exact ok_vf ⟨by omega, by omega, by omega, by omega, by omega, by omega, by omega⟩

/-- A ring that a source has made. -/
def SrRing (B g : Nat) (n id : Int) (w : World) (e : Ending) (w' : World) : Prop := ∃ (A : Option Addr) (c k hd : Nat) (L : List Msg), e = .returned (.agg #[.slice A k c, .int .i64 hd, .int .i64 L.length]) ∧ Nw w.heap.size A ∧ Ls w' w'.heap.size (.slice A k c) (fil k hd L) ∧ 1 ≤ k ∧ k ≤ 12 ∧ hd < k ∧ L.length ≤ k ∧ (L.length : Int) ≤ n ∧ Gd L ∧ (∀ M ∈ L, id ≤ M.id ∧ M.id < id + L.length) ∧ SrcAt w' B g ∧ w.grownBy w' (some g)
end Go.Proofs.Ytiklkagkmcapnaa
