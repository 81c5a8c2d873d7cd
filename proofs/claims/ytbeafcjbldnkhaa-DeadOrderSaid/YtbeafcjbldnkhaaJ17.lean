/- What is proved here: Message of the statements' base returns a message with small numbers; DeadOf and Dead of the statements' base make valid stores; (plain) a slice that reads as a list of numbers. -/
import Derived.Test.YtbeafcjbldnkhaaJ14
import Derived.Test.YtbeafcjbldnkhaaJ15
import Derived.Test.YtbeafcjbldnkhaaJ16
import Derived.Test.YtbeafcjbldnkhaaJ03
import Derived.RegionTactic
import Derived.Deep.RegionWith
import Derived.Test.YtbeafcjbldnkhaaJ12
import Derived.Deep.RegionLaw
import Derived.Test.YtbeafcjbldnkhaaJ13
namespace Go.Proofs.Ytbeafcjbldnkhaa
open Go.RowKit
set_option linter.unusedVariables false

/-- A message made by a source. -/
def SrMsg (B g : Nat) (id lo hi : Int) (w : World) (e : Ending) (w' : World) : Prop := ∃ M : Msg, e = .returned M.v ∧ M.id = id ∧ M.rt = intoF (rtF id) lo hi ∧ (0 ≤ M.ep ∧ M.ep ≤ 2) ∧ (0 ≤ M.ct ∧ M.ct ≤ 3) ∧ (M.ct ≤ M.gn ∧ M.gn ≤ 65536) ∧ (0 ≤ M.st ∧ M.st ≤ 49) ∧ M.bd.size ≤ 3 ∧ SrcAt w' B g ∧ w.grownBy w' (some g)

theorem src7 {W : World} {B g b : Nat} (h : SrcAt W B g) (hne : b ≠ g) (hB : B ≤ b) (v0 v1 v2 v3 v4 v5 v6 : Value) : SrcAt (((((((W.setCell ⟨b, 0, none⟩ v0).setCell ⟨b, 1, none⟩ v1).setCell ⟨b, 2, none⟩ v2).setCell ⟨b, 3, none⟩ v3).setCell ⟨b, 4, none⟩ v4).setCell ⟨b, 5, none⟩ v5).setCell ⟨b, 6, none⟩ v6) B g :=
  ((((((h.other (p := ⟨b, 0, none⟩) hne hB _).other (p := ⟨b, 1, none⟩) hne hB _).other (p := ⟨b, 2, none⟩) hne hB _).other (p := ⟨b, 3, none⟩) hne hB _).other (p := ⟨b, 4, none⟩) hne hB _).other (p := ⟨b, 5, none⟩) hne hB _).other (p := ⟨b, 6, none⟩) hne hB _
theorem only7 {a W : World} {g b : Nat} (h : a.grownBy W (some g)) (hb : a.heap.size ≤ b) (v0 v1 v2 v3 v4 v5 v6 : Value) : a.grownBy (((((((W.setCell ⟨b, 0, none⟩ v0).setCell ⟨b, 1, none⟩ v1).setCell ⟨b, 2, none⟩ v2).setCell ⟨b, 3, none⟩ v3).setCell ⟨b, 4, none⟩ v4).setCell ⟨b, 5, none⟩ v5).setCell ⟨b, 6, none⟩ v6) (some g) :=
  only_set (only_set (only_set (only_set (only_set (only_set (only_set h (.inr hb) _) (.inr hb) _) (.inr hb) _) (.inr hb) _) (.inr hb) _) (.inr hb) _) (.inr hb) _

set_option maxHeartbeats 8000000 in
set_option maxRecDepth 20000 in
theorem message_any (B g : Nat) (w : World) (h : SrcAt w B g) (id lo hi : Int) : Calls Try.prog 18 #[.pointer (some ⟨g, 0, none⟩), .int .i64 id, .int .i64 lo, .int .i64 hi] w (SrMsg B g id lo hi w) := by
  have H := Lib.hid h
  have hr := MAt.fresh (f := fun _ => 0) w 0 0 0 0 0 0 ByteArray.empty 37 rfl rfl rfl rfl rfl rfl
  obtain ⟨r, hrr⟩ : ∃ r, r = w.heap.size := ⟨_, rfl⟩
  rw [← hrr] at hr
  have HR := Lib.hid hr
  have HRR := Lib.hid hrr
  have HBR := Lib.hid (show B ≤ r by have := h.1; have := h.2.1; omega)
  have HNR := Lib.hid (show r ≠ g by have := h.2.1; omega)
  have HROUTE := Lib.hid (fun w => rroute_any id w)
  have HF := Lib.hid (show rtF id = rtF id from rfl)
  clear h hr hrr
  go_enter Try.func18, Try.ntmps18
  go_wp2_with fail
  refine (HROUTE.out _).mono ?_
  rintro e w1 ⟨rfl, hb⟩
  have HS1 := Lib.hid ((H.out.alloc _).below hb)
  have HR1 := Lib.hid (HR.out.below hb (by rw [HRR.out]; simp))
  have HG1 := Lib.hid (only_below (only_alloc (World.grownBy.refl w (some g)) _) hb)
  clear hb
  go_wp2_with fail
  refine (rinto_any _ _ _ _).mono ?_
  rintro e w2 ⟨rfl, rfl⟩
  generalize hrt : intoF (rtF id) lo hi = rt
  have HRT := Lib.hid hrt
  clear hrt
  go_wp2_with fail
  refine (n_any B g _ HS1.out 3 (by omega) (by omega)).mono ?_
  rintro e w2 ⟨ep, rfl, e1, e2, hs, hg⟩
  have HS2 := Lib.hid hs
  have HR2 := Lib.hid (HR1.out.grown hg HNR.out)
  have HG2 := Lib.hid (HG1.out.trans hg)
  clear hs hg
  go_wp2_with fail
  refine (n_any B g _ HS2.out 4 (by omega) (by omega)).mono ?_
  rintro e w3 ⟨ct, rfl, c1', c2', hs, hg⟩
  have HS3 := Lib.hid hs
  have HR3 := Lib.hid (HR2.out.grown hg HNR.out)
  have HG3 := Lib.hid (HG2.out.trans hg)
  clear hs hg
  go_wp2_with fail
  refine (n_any B g _ HS3.out 50 (by omega) (by omega)).mono ?_
  rintro e w4 ⟨st, rfl, s1, s2, hs, hg⟩
  have HS4 := Lib.hid hs
  have HR4 := Lib.hid (HR3.out.grown hg HNR.out)
  have HG4 := Lib.hid (HG3.out.trans hg)
  clear hs hg
  go_wp2_with fail
  refine (body_any B g _ HS4.out).mono ?_
  rintro e w5 ⟨bd, rfl, b1, hs, hg⟩
  have HS5 := Lib.hid hs
  have HR5 := Lib.hid (HR4.out.grown hg HNR.out)
  have HG5 := Lib.hid (HG4.out.trans hg)
  have hk := MAt.fresh (f := fun | 0 => id | 1 => rt | 2 => ep | 3 => ct | 4 => 0 | _ => st) w5 id rt ep ct 0 st bd 37 rfl rfl rfl rfl rfl rfl
  have HNK := Lib.hid (show w5.heap.size ≠ g by have := hs.2.1; omega)
  have HGW := Lib.hid (show w.heap.size ≤ w5.heap.size from HG5.out.size)
  generalize hkk : w5.heap.size = k at hk HNK HGW
  have HK := Lib.hid hk
  have HB1 := Lib.hid b1
  clear hs hg hk b1
  have hS5 := HS5.out.alloc (.cells #[.int .i64 id, .int .i64 rt, .int .i64 ep, .int .i64 ct, .int .i64 0, .int .i64 st, .string bd] 37)
  have hR5 := HR5.out.alloc (.cells #[.int .i64 id, .int .i64 rt, .int .i64 ep, .int .i64 ct, .int .i64 0, .int .i64 st, .string bd] 37)
  have hG5 := only_alloc HG5.out (.cells #[.int .i64 id, .int .i64 rt, .int .i64 ep, .int .i64 ct, .int .i64 0, .int .i64 st, .string bd] 37)
  have HRQ := Lib.hid HR5.out.1
  have HSQ := HS5
  have HS5 := Lib.hid hS5
  have HR5 := Lib.hid hR5
  have HG5 := Lib.hid hG5
  clear hS5 hR5 hG5
  go_wp2_with fail
  have HKK := Lib.hid hkk
  have HRK := Lib.hid (show r ≠ k by have := HRQ.out; omega)
  have HBK := Lib.hid (show B ≤ k by have := HSQ.out.1; have := HSQ.out.2.1; omega)
  clear hkk
  generalize w5.alloc (.cells #[.int .i64 id, .int .i64 rt, .int .i64 ep, .int .i64 ct, .int .i64 0, .int .i64 st, .string bd] 37) = W at *
  have hl := HK.out.2.1 3 (by omega)
  go_region_with ((go_at_call 14; refine (n_any B g _ (SrcAt.drew HS5.out) 3 (by omega) (by omega)).mono ?_; rintro e w7 ⟨x, rfl, x1, x2, hs, hg⟩; have HS7 := Lib.hid hs; have HG7 := Lib.hid (HG5.out.trans (gdrew hg)); have HK7 := Lib.hid (HK.out.grown (gdrew hg) HNK.out); have HR7 := Lib.hid (HR5.out.grown (gdrew hg) HNR.out); have g3 := HK7.out.2.1 3 (by omega); have g4 := HK7.out.2.1 4 (by omega); have g5 := HK7.out.2.2.2 4 (by omega); have hwx : IntKind.i64.wrap (ct + x) = ct + x := IntWalk.i64_in _ (by omega); clear hs hg))
  all_goals
    obtain ⟨gn, hgn⟩ : ∃ gn, gn = ct + x := ⟨_, rfl⟩
    rw [← hgn]
    have q1 : ct ≤ gn := by omega
    have q2 : gn ≤ 65536 := by omega
    have HS8 := Lib.hid (HS7.out.other (p := ⟨k, 4, none⟩) HNK.out HBK.out (.int .i64 gn))
    have HR8 := Lib.hid (HR7.out.other (p := ⟨k, 4, none⟩) (fun e => HRK.out e.symm) (.int .i64 gn))
    have HK8 := Lib.hid (HK7.out.put 4 (by omega) gn)
    have HG8 := Lib.hid (only_set HG7.out (p := ⟨k, 4, none⟩) (.inr HGW.out) (.int .i64 gn))
    clear g3 g4 g5 hwx hgn x1 x2 hl
    rw [← HRR.out]
    go_wp2_with fail
    refine (n_any B g _ HS8.out 20 (by omega) (by omega)).mono ?_
    rintro e w9 ⟨y, rfl, y1, y2, hs, hg⟩
    have HS9 := Lib.hid hs
    have HG9 := Lib.hid (HG8.out.trans hg)
    have HK9 := Lib.hid (HK8.out.grown hg HNK.out)
    have HR9 := Lib.hid (HR8.out.grown hg HNR.out)
    obtain ⟨⟨a0, a1, a2, a3, a4, a5, a6⟩, b0, b1, b2, b3, b4, b5, b6⟩ := HK9.out.facts
    obtain ⟨⟨c0, c1, c2, c3, c4, c5, c6⟩, d0, d1, d2, d3, d4, d5, d6⟩ := HR9.out.facts
    have hrk := HRK.out
    have hkr : k ≠ r := fun e => hrk e.symm
    simp at a0 a1 a2 a3 a4 a5
    clear hs hg
    by_cases hy : y = 19
    · subst hy
      go_wp2
      exact bodyPost_ret (v := Msg.v ⟨id, rt, ep, ct, 65536, st, bd⟩) (by simp only [results, Try.results18]; go_simp <;> rfl) rfl ⟨_, rfl, rfl, by rw [HRT.out], ⟨e1, e2⟩, ⟨c1', c2'⟩, ⟨by show ct ≤ 65536; omega, by show (65536 : Int) ≤ 65536; omega⟩, ⟨s1, s2⟩, HB1.out, src7 (HS9.out.other (p := ⟨k, 4, none⟩) HNK.out HBK.out _) HNR.out HBR.out _ _ _ _ _ _ _, only7 (only_set HG9.out (p := ⟨k, 4, none⟩) (.inr HGW.out) _) (by rw [HRR.out]; exact Nat.le_refl _) _ _ _ _ _ _ _⟩
    · have hy' : (y == 19) = false := beq_eq_false_iff_ne.2 hy
      go_wp2
      exact bodyPost_ret (v := Msg.v ⟨id, rt, ep, ct, gn, st, bd⟩) (by simp only [results, Try.results18]; go_simp <;> rfl) rfl ⟨_, rfl, rfl, by rw [HRT.out], ⟨e1, e2⟩, ⟨c1', c2'⟩, ⟨q1, q2⟩, ⟨s1, s2⟩, HB1.out, src7 HS9.out HNR.out HBR.out _ _ _ _ _ _ _, only7 HG9.out (by rw [HRR.out]; exact Nat.le_refl _) _ _ _ _ _ _ _⟩
end Go.Proofs.Ytbeafcjbldnkhaa
namespace Go.Proofs.Ytbeafcjbldnkhaa
open Go.RowKit
set_option linter.unusedVariables false

theorem into_span8 (r l h : Int) (r0 : 0 ≤ r) (r1 : r ≤ 65535) (l0 : 0 ≤ l) (h1 : h ≤ 65535) (hlh : l ≤ h) : l ≤ intoF r l h ∧ intoF r l h ≤ h := by
  have hA : areB r l h = true := decide_eq_true ⟨⟨r0, r1⟩, ⟨l0, by omega⟩, ⟨by omega, h1⟩⟩
  have hm0 : 0 ≤ r % (h - l + 1) := Int.emod_nonneg _ (by omega)
  have hm1 : r % (h - l + 1) < h - l + 1 := Int.emod_lt_of_pos _ (by omega)
  unfold intoF
  rw [if_pos ⟨hA, hlh⟩]
  split <;> omega
/-- A message that a source has made is valid. -/
theorem msg_ok8 {M : Msg} {id : Int} (h0 : M.id = id) (h1 : M.rt = intoF (rtF id) 0 65535) (h2 : 0 ≤ M.ep ∧ M.ep ≤ 2) (h3 : 0 ≤ M.ct ∧ M.ct ≤ 3) (h4 : M.ct ≤ M.gn ∧ M.gn ≤ 65536) (h5 : 0 ≤ M.st ∧ M.st ≤ 49) (h6 : M.bd.size ≤ 3) (i1 : 1 ≤ id) (i2 : id ≤ 1073741824) : vf M = 0 := by
  have hr := rtF_lt id
  have := into_span8 (rtF id) 0 65535 hr.1 hr.2 (by omega) (by omega) (by omega)
  exact ok_vf ⟨by omega, by omega, by omega, by omega, by omega, by omega, by omega⟩
/-- A store that a source has made. -/
def SrDead (B g : Nat) (w : World) (e : Ending) (w' : World) : Prop := ∃ (cap : Int) (A : Option Addr) (c : Nat) (L : List Msg), e = .returned (.agg #[.int .i64 cap, .slice A L.length c]) ∧ Ok8 cap L ∧ Nw w.heap.size A ∧ Ls w' w'.heap.size (.slice A L.length c) L ∧ SrcAt w' B g ∧ w.grownBy w' (some g)
/-- The work of DeadOf. -/
structure Sd8 (w : World) (B g r q Bq : Nat) (cap : Int) (A : Option Addr) (c : Nat) (L : List Msg) (W : World) : Prop where
  src : SrcAt W B g
  qb : DB W q cap A L.length c
  rs : DB W r 0 none 0 0
  own : W.ownsRow Bq 37 7 (.slice A L.length c) L.length (lcs L)
  grow : w.grownBy W (some g)
  old : g < w.heap.size ∧ w.heap.size ≤ r ∧ r < q ∧ q < Bq ∧ Bq ≤ W.heap.size ∧ B ≤ g
section
variable {w W W' : World} {B g r q Bq c : Nat} {cap : Int} {A : Option Addr} {L : List Msg}
theorem Sd8.below (h : Sd8 w B g r q Bq cap A c L W) (hb : Below W.heap.size W W') : Sd8 w B g r q Bq cap A c L W' :=
  ⟨h.src.below hb, h.qb.up hb, h.rs.up hb, own8_below h.own hb, only_below h.grow hb, h.old.1, h.old.2.1, h.old.2.2.1, h.old.2.2.2.1, Nat.le_trans h.old.2.2.2.2.1 hb.size, h.old.2.2.2.2.2⟩
theorem Sd8.alloc (h : Sd8 w B g r q Bq cap A c L W) (o : Obj) : Sd8 w B g r q Bq cap A c L (W.alloc o) := h.below ((Below.refl _ _).alloc (Nat.le_refl _) o)
theorem Sd8.drew (h : Sd8 w B g r q Bq cap A c L W) : Sd8 w B g r q Bq cap A c L W.drew := ⟨h.src.drew, h.qb.drew, h.rs.drew, h.own, only_drew h.grow, h.old⟩
theorem Sd8.turn (h : Sd8 w B g r q Bq cap A c L W) (hs : SrcAt W' B g) (hg : W.grownBy W' (some g)) : Sd8 w B g r q Bq cap A c L W' := by
  have ho := h.old
  refine ⟨hs, h.qb.grown hg (fun e => by injection e; omega), h.rs.grown hg (fun e => by injection e; omega), h.own.kept hg ?_, h.grow.trans hg, ho.1, ho.2.1, ho.2.2.1, ho.2.2.2.1, Nat.le_trans ho.2.2.2.2.1 hg.size, ho.2.2.2.2.2⟩
  cases e : Value.ownBlock (.slice A L.length c) with
  | none => exact .inl rfl
  | some x => right; intro e'; have := (h.own.lt x e).1; injection e' with e'; omega
/-- A message more. -/
theorem Sd8.app {A1 : Option Addr} {c1 : Nat} {L1 : List Msg} (h : Sd8 w B g r q Bq cap A c L W) (ho : W'.ownsRow Bq 37 7 (.slice A1 L1.length c1) L1.length (lcs L1)) (hg : W.grownBy W' (Value.ownBlock (.slice A L.length c))) :
    (W'.cell? ⟨q, 1, none⟩ = some (.slice A L.length c) ∧ W'.frozen? ⟨q, 1, none⟩ = false) ∧ Sd8 w B g r q Bq cap A1 c1 L1 (W'.setCell ⟨q, 1, none⟩ (.slice A1 L1.length c1)) := by
  have hold := h.old
  have hlt : ∀ x, Value.ownBlock (.slice A L.length c) = some x → Bq ≤ x := fun x e => (h.own.lt x e).1
  have hq := h.qb.grown hg (fun e => by have := hlt q e.symm; omega)
  have hr := h.rs.grown hg (fun e => by have := hlt r e.symm; omega)
  have hs : SrcAt W' B g := by
    refine h.src.keep hg.size (fun o => hg.cell_far ⟨g, o, none⟩ h.src.2.1 (fun e => by have := hlt g e.symm; omega)) (fun o => hg.frozen_far ⟨g, o, none⟩ h.src.2.1 (fun e => by have := hlt g e.symm; omega)) (fun x hx => hg.cell_far x (by have := h.src.2.1; omega) (fun e => by have := hlt _ e.symm; omega))
  have hw : w.grownBy W' (some g) := by
    refine ⟨hg.os.trans h.grow.os, hg.tape.trans h.grow.tape, hg.output.trans h.grow.output, Nat.le_trans h.grow.size hg.size, fun x hx hne => ?_⟩
    rw [hg.block x (Nat.lt_of_lt_of_le hx h.grow.size) (fun e => by have := hlt x e.symm; omega), h.grow.block x hx hne]
  refine ⟨⟨hq.c1, hq.fr 1⟩, hs.other (p := ⟨q, 1, none⟩) (show q ≠ g by omega) (show B ≤ q by omega) _, hq.setL _ _ _, hr.other (a := ⟨q, 1, none⟩) (show q ≠ r by omega) _, own8_set ho (q := ⟨q, 1, none⟩) (show q < Bq by omega) _, only_set hw (.inr (show w.heap.size ≤ q by omega)) _, hold.1, hold.2.1, hold.2.2.1, hold.2.2.2.1, ?_, hold.2.2.2.2.2⟩
  have := hg.size
  simp; omega
theorem Sd8.out (h : Sd8 w B g r q Bq cap A c L W) : Nw w.heap.size A ∧ Ls ((W.setCell ⟨r, 0, none⟩ (.int .i64 cap)).setCell ⟨r, 1, none⟩ (.slice A L.length c)) ((W.setCell ⟨r, 0, none⟩ (.int .i64 cap)).setCell ⟨r, 1, none⟩ (.slice A L.length c)).heap.size (.slice A L.length c) L ∧
    SrcAt ((W.setCell ⟨r, 0, none⟩ (.int .i64 cap)).setCell ⟨r, 1, none⟩ (.slice A L.length c)) B g ∧ w.grownBy ((W.setCell ⟨r, 0, none⟩ (.int .i64 cap)).setCell ⟨r, 1, none⟩ (.slice A L.length c)) (some g) := by
  have hold := h.old
  have hn : Nw Bq A := nw_own h.own (Nat.le_refl _)
  refine ⟨nw_low hn (by omega), ?_, (h.src.other (p := ⟨r, 0, none⟩) (show r ≠ g by omega) (show B ≤ r by omega) _).other (p := ⟨r, 1, none⟩) (show r ≠ g by omega) (show B ≤ r by omega) _, only_set (only_set h.grow (p := ⟨r, 0, none⟩) (.inr (show w.heap.size ≤ r by omega)) _) (p := ⟨r, 1, none⟩) (.inr (show w.heap.size ≤ r by omega)) _⟩
  have := ((Ls.of_own h.own).offo (p := ⟨r, 0, none⟩) (ob_nw hn (show r < Bq by omega)) (.int .i64 cap)).offo (p := ⟨r, 1, none⟩) (ob_nw hn (show r < Bq by omega)) (.slice A L.length c)
  simpa using this
end
/-- The messages so far: valid, with IDs above a bound, each once. -/
structure Gd8 (b : Int) (L : List Msg) : Prop where
  all : ∀ M ∈ L, vf M = 0 ∧ b < M.id
  dup : ¬ dupP L
theorem Gd8.snoc {b : Int} {L : List Msg} (h : Gd8 b L) {M : Msg} (hM : vf M = 0) (hi : M.id = b) : Gd8 (b - 1) (L ++ [M]) := by
  refine ⟨fun N hN => ?_, ?_⟩
  · rcases List.mem_append.1 hN with h' | h'
    · have := h.all N h'; exact ⟨this.1, by omega⟩
    · simp at h'; subst h'; exact ⟨hM, by omega⟩
  · rintro ⟨i, j, hi', hj, hij, e⟩
    have hil : i < L.length := by simp at hj; omega
    rw [List.getElem_append_left hil] at e
    by_cases hjl : j < L.length
    · rw [List.getElem_append_left hjl] at e
      exact h.dup ⟨i, j, hil, hjl, hij, e⟩
    · have hj0 : j = L.length := by simp at hj; omega
      subst hj0
      simp at e
      have := (h.all _ (List.getElem_mem hil)).2
      omega
set_option maxHeartbeats 8000000 in
set_option maxRecDepth 20000 in
theorem deadof_any (B g : Nat) (cap : Int) (w : World) (h : SrcAt w B g) (c1 : 1 ≤ cap) (c2 : cap ≤ 24) :
    Calls Try.prog 31 #[.pointer (some ⟨g, 0, none⟩), .int .i64 cap] w (SrDead B g w) := by
  have hwt := wi_true c1 c2
  have HN := Lib.hid (fun W => show Calls Try.prog 8 #[.int .i64 cap] W (N8 W cap 0) by
    have := rnew8_any cap W
    rwa [show nw8 cap = cap from if_pos hwt, show nw8E cap = 0 from if_pos hwt] at this)
  obtain ⟨i0, hi0, hz0⟩ := Option.map_eq_some_iff.1 info_m8
  simp only [Prod.mk.injEq] at hz0
  have HI := Lib.hid hi0
  have HZ := Lib.hid hz0
  have H := Lib.hid h
  have HC := Lib.hid (And.intro c1 c2)
  clear hi0 hz0 hwt
  go_enter Try.func31, Try.ntmps31
  go_wp2_with fail
  have HR0 := Lib.hid (DB.fresh w 0 none 0 0 24)
  refine (HN.out _).mono ?_
  rintro e w1 ⟨rfl, hb⟩
  have H1 := Lib.hid (show Sd8 w B g w.heap.size w1.heap.size (w1.heap.size + 1) cap none 0 [] (w1.alloc (.cells #[.int .i64 cap, .slice none 0 0] 24)) from by
    have hs := (HR0.out.up hb).lt
    exact ⟨((H.out.alloc _).below hb).alloc _, DB.fresh w1 cap none 0 0 _, (HR0.out.up hb).alloc _, World.ownsRow_nil _ _ _ _, only_alloc (only_below (only_alloc (World.grownBy.refl w (some g)) _) hb) _, H.out.2.1, Nat.le_refl _, hs, by omega, by simp, H.out.1⟩)
  clear hb HR0 h
  obtain ⟨q0, q1, ql⟩ := H1.out.qb.facts
  go_wp2_with fail
  clear q0 q1 ql
  obtain ⟨r, hr⟩ : ∃ r, r = w.heap.size := ⟨_, rfl⟩
  obtain ⟨q, hq⟩ : ∃ q, q = w1.heap.size := ⟨_, rfl⟩
  obtain ⟨Bq, hBq⟩ : ∃ Bq, Bq = w1.heap.size + 1 := ⟨_, rfl⟩
  rw [← hBq, ← hq, ← hr] at H1
  rw [← hq, ← hr]
  clear hr hq hBq
  generalize w1.alloc (.cells #[.int .i64 cap, .slice none 0 0] 24) = w2 at *
  refine (n_any B g _ H1.out.src (cap + 1) (by omega) (by omega)).mono ?_
  rintro e w3 ⟨x, rfl, hx0, hx1, hs, hg⟩
  obtain ⟨x, rfl⟩ := Int.eq_ofNat_of_zero_le hx0
  have H2 := Lib.hid (H1.out.turn hs hg)
  have HX := Lib.hid (show (x : Int) ≤ cap by omega)
  clear hs hg hx0 hx1 H1
  go_wp2
  go_loopw [7] (fun iv wr => ∃ (j : Nat) (A : Option Addr) (c : Nat) (L : List Msg), iv = .int .i64 j ∧ j + L.length = x ∧ Gd8 (50 + j) L ∧ Sd8 w B g r q Bq cap A c L wr) (fun iv _ => (intOf iv).toNat)
  case atStart => exact ⟨x, none, 0, [], rfl, rfl, ⟨by simp, by rintro ⟨i, _, h, _⟩; simp at h⟩, H2.out⟩
  case round =>
    obtain ⟨j, A, c, L, rfl, hjL, hgd, hh⟩ := hrel
    have HH := Lib.hid hh
    have HG := Lib.hid hgd
    have HJ := Lib.hid hjL
    clear hh hgd H2 hjL
    by_cases hj0 : 0 < j
    · have hj0' : (0 : Int) < (j : Int) := by omega
      have hj24 : (j : Int) ≤ 24 := by have := HX.out; have := HJ.out; omega
      have hL24 : L.length ≤ 24 := by have := HX.out; have := HJ.out; omega
      have HM := Lib.hid (fun W (h : Sd8 w B g r q Bq cap A c L W) => message_any B g W h.src (50 + (j : Int)) 0 65535)
      have HD := Lib.hid HH.out.drew
      have HLL := Lib.hid hL24
      obtain ⟨q0, q1, ql⟩ := HH.out.qb.facts
      have hwr : IntKind.i64.wrap (50 + (j : Int)) = 50 + (j : Int) := IntWalk.i64_in _ (by omega)
      clear hL24
      go_wp2_with fail
      go_region_law (first
        | (go_simp; go_at_call 18; (with_reducible refine (HM.out _ HD.out).mono ?_); rintro e w4 ⟨M, rfl, m1, m2, m3, m4, m5, m6, m7, hs, hg⟩; have HM7 := Lib.hid (show vf M = 0 ∧ M.id = 50 + (j : Int) from ⟨msg_ok8 m1 m2 m3 m4 m5 m6 m7 (by omega) (by omega), m1⟩); have HD4 := Lib.hid (HD.out.turn hs hg); have HD5 := Lib.hid (HD4.out.alloc (.cells M.cs 37)); obtain ⟨y0, y1, yl⟩ := HD4.out.qb.facts; clear m1 m2 m3 m4 m5 m6 m7 hs hg)
        | (refine step_append_lies _ (by rfl) _ _ _ (by rfl) Bq 37 i0 _ 7 64 Try.underlying22 HI.out HZ.out.1 HZ.out.2.1 HZ.out.2.2 rfl (by omega) (.slice A L.length c) L.length (lcs L) (by rfl) HD5.out.own ⟨w4.heap.size, 0, none⟩ 1 1 M.l (by rfl) (by simp [Msg.l_len]) (World.news_of_block (cs := M.cs) (t := 37) (fr := (0, 0)) (heap_alloc_new w4 _)) M.l_one (by omega) (by have := HLL.out; unfold maxLen; omega) (by have := HLL.out; omega) HD5.out.old.2.2.2.2.1 _ rfl ?_; intro g1 cp1 w8 hown1 hgrow1 hat1 hlt1; have HP8 := Lib.hid (HD5.out.app (L1 := L ++ [M]) (own8_end' hown1) hgrow1); obtain ⟨z1, z2⟩ := HP8.out.1; clear hown1 hgrow1 hat1 hlt1))
      all_goals
        have HP9 := Lib.hid HP8.out.2
        have HGN := Lib.hid (HG.out.snoc HM7.out.1 HM7.out.2)
        clear HP8 z1 z2 q0 q1 ql y0 y1 yl hwr HD HD4 HD5
        go_wp2
        go_roundw
        case rel => exact ⟨j - 1, _, _, L ++ [M], by rw [show ((j - 1 : Nat) : Int) = (j : Int) - 1 by omega], by have := HJ.out; simp; omega, by have := HGN.out; rwa [show (50 : Int) + ((j - 1 : Nat) : Int) = 50 + (j : Int) - 1 by omega], by simpa using HP9.out⟩
        case measure => simp [intOf]; omega
    · obtain rfl : j = 0 := by omega
      have HOK := Lib.hid (show Ok8 cap L from ⟨HC.out.1, HC.out.2, by have := HX.out; have := HJ.out; omega, fun M hM => (HG.out.all M hM).1, HG.out.dup⟩)
      obtain ⟨q0, q1, ql⟩ := HH.out.qb.facts
      obtain ⟨r0, r1, rl, g0, g1⟩ := HH.out.rs.all
      obtain ⟨hqr, hrq⟩ : ¬ q = r ∧ ¬ r = q := by have := HH.out.old; omega
      go_wp2
      exact bodyPost_ret (v := .agg #[.int .i64 cap, .slice A L.length c]) (by simp only [results, Try.results31]; go_simp <;> rfl) rfl ⟨cap, A, c, L, rfl, HOK.out, HH.out.out⟩
set_option maxHeartbeats 2000000 in
theorem dead_any (B g : Nat) (w : World) (h : SrcAt w B g) : Calls Try.prog 13 #[.pointer (some ⟨g, 0, none⟩)] w (SrDead B g w) := by
  have H := Lib.hid h
  have HR0 := Lib.hid (DB.fresh w 0 none 0 0 24)
  have HS0 := Lib.hid (h.alloc (.cells #[.int .i64 0, .slice none 0 0] 24))
  have HGR := Lib.hid (only_alloc (World.grownBy.refl w (some g)) (.cells #[.int .i64 0, .slice none 0 0] 24))
  clear h
  go_enter Try.func13, Try.ntmps13
  go_wp2_with fail
  obtain ⟨r, hr⟩ : ∃ r, r = w.heap.size := ⟨_, rfl⟩
  have HRW := Lib.hid hr
  rw [← hr] at HR0
  rw [← hr]
  clear hr
  generalize w.alloc (.cells #[.int .i64 0, .slice none 0 0] 24) = w1 at *
  refine (range_any B g _ HS0.out 1 8 (by omega) (by omega) (by omega)).mono ?_
  rintro e w2 ⟨cap, rfl, c1, c2, hs, hg⟩
  have HS2 := Lib.hid hs
  have HR2 := Lib.hid (HR0.out.grown hg (fun e => by injection e with e; have := HRW.out; have := H.out.2.1; omega))
  have HG2 := Lib.hid (HGR.out.trans hg)
  clear hs hg
  go_wp2_with fail
  refine (deadof_any B g cap _ HS2.out c1 (by omega)).mono ?_
  rintro e w3 ⟨cap, A, c, L, rfl, hok, hn, hl, hs, hg⟩
  have HR3 := Lib.hid (HR2.out.grown hg (fun e => by injection e with e; have := HRW.out; have := H.out.2.1; omega))
  have HF := Lib.hid (show Nw w.heap.size A ∧ Ls ((w3.setCell ⟨r, 0, none⟩ (.int .i64 cap)).setCell ⟨r, 1, none⟩ (.slice A L.length c)) ((w3.setCell ⟨r, 0, none⟩ (.int .i64 cap)).setCell ⟨r, 1, none⟩ (.slice A L.length c)).heap.size (.slice A L.length c) L ∧ SrcAt ((w3.setCell ⟨r, 0, none⟩ (.int .i64 cap)).setCell ⟨r, 1, none⟩ (.slice A L.length c)) B g ∧ w.grownBy ((w3.setCell ⟨r, 0, none⟩ (.int .i64 cap)).setCell ⟨r, 1, none⟩ (.slice A L.length c)) (some g) from by
    have hrw := HRW.out
    have hgw := H.out.2.1
    have hB := H.out.1
    have hr2 : r < w2.heap.size := HR2.out.lt
    refine ⟨nw_low hn (by have := HG2.out.size; omega), ?_, (hs.other (p := ⟨r, 0, none⟩) (show r ≠ g by omega) (show B ≤ r by omega) _).other (p := ⟨r, 1, none⟩) (show r ≠ g by omega) (show B ≤ r by omega) _, only_set (only_set (HG2.out.trans hg) (p := ⟨r, 0, none⟩) (.inr (show w.heap.size ≤ r by omega)) _) (p := ⟨r, 1, none⟩) (.inr (show w.heap.size ≤ r by omega)) _⟩
    have := (hl.offo (p := ⟨r, 0, none⟩) (ob_nw hn hr2) (.int .i64 cap)).offo (p := ⟨r, 1, none⟩) (ob_nw hn hr2) (.slice A L.length c)
    simpa using this)
  have HOK := Lib.hid hok
  clear hok hn hl hs hg
  obtain ⟨r0, r1, rl, g0, g1⟩ := HR3.out.all
  go_wp2
  exact bodyPost_ret (v := .agg #[.int .i64 cap, .slice A L.length c]) (by simp only [results, Try.results13]; go_simp <;> rfl) rfl ⟨cap, A, c, L, rfl, HOK.out, HF.out⟩
end Go.Proofs.Ytbeafcjbldnkhaa
namespace Go.Proofs.Ytbeafcjbldnkhaa
open Go.RowKit
set_option linter.unusedVariables false

/-- A value that is a slice, reads as the numbers zs and lies below B. -/
def Ns (w : World) (B : Nat) (v : Value) (zs : List Int) : Prop := ∃ A c, v = .slice A zs.length c ∧ zs.length ≤ c ∧ c ≤ maxLen ∧ Rd w B 1 A zs.length (zs.map i64v) ∧ ∀ z ∈ zs, -9223372036854775808 ≤ z ∧ z ≤ 9223372036854775807

section
variable {w w' : World} {B B' : Nat} {v : Value} {zs : List Int}
theorem Ns.nil : Ns w B (.slice none 0 0) [] := ⟨none, 0, rfl, Nat.le_refl _, Nat.zero_le _, Rd.nil none, by simp⟩
theorem Ns.below (h : Ns w B v zs) (hb : Below B w w') : Ns w' B v zs := by
  obtain ⟨A, c, e, hl, hm, h, hz⟩ := h; exact ⟨A, c, e, hl, hm, h.below hb, hz⟩
theorem Ns.parts {A : Option Addr} {n c : Nat} (h : Ns w B (.slice A n c) zs) : n = zs.length ∧ n ≤ c ∧ c ≤ maxLen ∧ Rd w B 1 A n (zs.map i64v) ∧ ∀ z ∈ zs, -9223372036854775808 ≤ z ∧ z ≤ 9223372036854775807 := by
  obtain ⟨A', c', e, hl, hm, h, hz⟩ := h
  injection e with e1 e2 e3
  subst e1; subst e2; subst e3
  exact ⟨rfl, hl, hm, h, hz⟩
/-- From the way in which the guide opens a slice of numbers that came in. -/
theorem Ns.of_cells {a : Addr} {l c : Nat} {zs : List Int} (hl : l ≤ c) (hm : c ≤ maxLen) (hz : zs.length = c) (hc : ∀ i, i < zs.length → w.cell? (a.add i) = some (.int .i64 (zs.getD i 0))) (hw : ∀ n ∈ zs, (Lit.int .i64 n).wf = true) :
    ∃ ys, Ns w w.heap.size (.slice (some a) l c) ys := by
  have hlen : (zs.take l).length = l := by simp; omega
  refine ⟨zs.take l, some a, c, by rw [hlen], by omega, hm, ⟨by simp, fun hn => ?_⟩, fun z hz' => ?_⟩
  · rw [hlen] at hn
    obtain ⟨b, o, spot⟩ := a
    have h0 := hc 0 (by omega)
    have hspot : spot = none := by simpa [Addr.add] using World.cell?_spot h0
    subst hspot
    refine ⟨b, o, rfl, World.block_lt_of_cell? w ⟨b, o, none⟩ (by simpa [Addr.add] using h0), fun j u hu => ?_⟩
    simp only [List.getElem?_map, Option.map_eq_some_iff] at hu
    obtain ⟨x, hx, rfl⟩ := hu
    obtain ⟨hj, rfl⟩ := List.getElem?_eq_some_iff.1 hx
    have hj' : j < zs.length := by simp at hj; omega
    have h := hc j hj'
    rw [add_mk] at h
    rw [h]
    simp [i64v, List.getD, hj']
  · have := hw z (List.mem_of_mem_take hz')
    simp only [Lit.wf, Bool.and_eq_true, decide_eq_true_eq] at this
    exact this
end
end Go.Proofs.Ytbeafcjbldnkhaa
