/- What is proved here: what a loop holds that builds a new directory in a box; directory.New by a contract; in the statements of layer 10, awake is true. -/
import Derived.Test.YtdobenkkkkaipaaJ06
import Derived.Test.YtdobenkkkkaipaaJ07
import Derived.Test.YtdobenkkkkaipaaJ03
import Derived.Deep.AppendLies
import Derived.Test.YtdobenkkkkaipaaJ04
namespace Go.Proofs.Ytdobenkkkkaipaa
open Go.RowKit
set_option linter.unusedVariables false

/-- The first k spans of n. -/
def nwL (n k : Nat) : List Sp := (List.range k).map fun (i : Nat) => ⟨(i : Int) * 65536 / n, ((i : Int) + 1) * 65536 / n - 1, i⟩
theorem nwL_succ (n k : Nat) : nwL n (k + 1) = nwL n k ++ [⟨(k : Int) * 65536 / n, ((k : Int) + 1) * 65536 / n - 1, k⟩] := by simp [nwL, List.range_succ]
theorem nwL_len (n k : Nat) : (nwL n k).length = k := by simp [nwL]
def nwE (s l : Int) : Int := if 1 ≤ s ∧ s ≤ 6 ∧ 1 ≤ l ∧ l ≤ s then 0 else 1
def nwD (s l : Int) : Dd := if nwE s l = 0 then ⟨1, nwL l.toNat l.toNat, List.replicate s.toNat (-1)⟩ else zD

/-- A result box, and a box of a directory whose lists the call owns. -/
structure NA (w : World) (r y : Nat) (d : Dd) (X : Dx) (W : World) : Prop where
  rb : DB W r zD zDx
  xb : DB W y d X
  ol : W.ownsRow (r + 1) 43 3 (.slice X.A d.l.length X.c) d.l.length (scs d.l)
  of : W.ownsRow (r + 1) 3 1 (.slice X.A2 d.F.length X.c2) d.F.length (ics d.F)
  d1 : ∀ k, (Value.slice X.A d.l.length X.c).ownBlock = some k → (Value.slice X.A2 d.F.length X.c2).ownBlock ≠ some k
  d2 : ∀ k, (Value.slice X.A d.l.length X.c).ownBlock = some k → k ≠ y
  d3 : ∀ k, (Value.slice X.A2 d.F.length X.c2).ownBlock = some k → k ≠ y
  ne : r = w.heap.size ∧ r < y
  bel : Below w.heap.size w W
theorem DB.grownO {W W' : World} {p : Nat} {d : Dd} {X : Dx} {ob : Option Nat} (h : DB W p d X) (hg : W.grownBy W' ob) (hne : ob ≠ some p) : DB W' p d X :=
  h.keep (fun o => hg.cell_far ⟨p, o, none⟩ h.lt (fun e => hne e.symm)) (fun o => hg.frozen_far ⟨p, o, none⟩ h.lt (fun e => hne e.symm)) hg.size
theorem own_farO {W W' : World} {base size n : Nat} {ob : Option Nat} {t : TypeId} {v : Value} {xs : List Value} (h : W.ownsRow base t size v n xs) (hg : W.grownBy W' ob) (hne : ∀ k, v.ownBlock = some k → ob ≠ some k) : W'.ownsRow base t size v n xs :=
  ⟨h.1, h.2.imp_right fun ⟨k, cap, cur, hv, hk, hh, rr⟩ => ⟨k, cap, cur, hv, hk, (hg.block k (Array.getElem?_eq_some_iff.1 hh).1 (by
    have := hne k (by rw [hv]; rfl)
    exact fun e => this e.symm)).trans hh, rr⟩⟩
section
variable {w W W' : World} {r y : Nat} {d : Dd} {X : Dx}
theorem NA.below (h : NA w r y d X W) (hb : Below W.heap.size W W') : NA w r y d X W' :=
  ⟨h.rb.up hb, h.xb.up hb, own_up h.ol hb, own_up h.of hb, h.d1, h.d2, h.d3, h.ne, h.bel.trans (hb.mono h.bel.size)⟩
theorem NA.drew (h : NA w r y d X W) : NA w r y d X W.drew := h.below (Below.refl _ _).drew
theorem NA.alloc (h : NA w r y d X W) (o : Obj) : NA w r y d X (W.alloc o) := h.below ((Below.refl _ _).alloc (Nat.le_refl _) o)
theorem NA.start {F : List Int} {A2 : Option Addr} {c2 : Nat} (hr : r = w.heap.size) (hb : Below w.heap.size w W) (hd : DB W r zD zDx) (hf : W.ownsRow (r + 1) 3 1 (.slice A2 F.length c2) F.length (ics F)) (t : TypeId) :
    NA w r W.heap.size ⟨1, [], F⟩ ⟨none, 0, A2, c2⟩ (W.alloc (.cells #[.int .i64 1, .slice none 0 0, .slice A2 F.length c2] t)) := by
  have hlt := hd.lt
  have hs := hb.size
  have hk : ∀ k, (Value.slice A2 F.length c2).ownBlock = some k → k ≠ W.heap.size := fun k e => by have := (hf.lt k e).2; omega
  exact ⟨hd.alloc _, DB.start W ⟨1, [], F⟩ ⟨none, 0, A2, c2⟩ t, World.ownsRow_nil _ _ _ _, own_up hf ((Below.refl _ _).alloc (Nat.le_refl _) _), fun k e => by simp [Value.ownBlock] at e, fun k e => by simp [Value.ownBlock] at e, hk, ⟨hr, hlt⟩, hb.alloc hs _⟩
theorem NA.nw (h : NA w r y d X W) : X.nw w.heap.size := by
  have := h.ne
  exact ⟨nwv_of (nwv_own h.ol (by omega)), nwv_of (nwv_own h.of (by omega))⟩
theorem NA.dr (h : NA w r y d X W) : DR W W.heap.size d X := ⟨Pl.of_own h.ol, Fl.of_own h.of⟩
/-- A span is appended. -/
theorem NA.app (h : NA w r y d X W) {S : Sp} {g cap : Nat} (ho : W'.ownsRow (r + 1) 43 3 (.slice (some ⟨g, 0, none⟩) (d.l.length + 1) cap) (d.l.length + 1) (scs d.l ++ S.l)) (hg : W.grownBy W' (Value.slice X.A d.l.length X.c).ownBlock) (hat : (Value.slice X.A d.l.length X.c).ownBlock = some g ∨ g = W.heap.size) :
    (W'.cell? ⟨y, 1, none⟩ = some (.slice X.A d.l.length X.c) ∧ W'.frozen? ⟨y, 1, none⟩ = false ∧ y < W'.heap.size) ∧ NA w r y ⟨d.vn, d.l ++ [S], d.F⟩ ⟨some ⟨g, 0, none⟩, cap, X.A2, X.c2⟩ (W'.setCell ⟨y, 1, none⟩ (.slice (some ⟨g, 0, none⟩) (d.l.length + 1) cap)) := by
  have hn := h.ne
  have hrl := h.rb.lt
  have hor : (Value.slice X.A d.l.length X.c).ownBlock ≠ some r := fun e => by have := (h.ol.lt r e).1; omega
  have hoy : (Value.slice X.A d.l.length X.c).ownBlock ≠ some y := fun e => h.d2 y e rfl
  have hx := h.xb.grownO hg hoy
  have hr := h.rb.grownO hg hor
  have hf := own_farO h.of hg fun k hk e => h.d1 k e hk
  have hgy : g ≠ y := by
    rcases hat with e | e
    · exact h.d2 g e
    · have := h.xb.lt; omega
  have hb : Below w.heap.size w W' := h.bel.grown hg h.bel.size fun k hk => by have := (h.ol.lt k hk).1; omega
  refine ⟨⟨hx.c1, hx.fr 1, hx.lt⟩, hr.other (a := ⟨y, 1, none⟩) (by show y ≠ r; omega) _, ⟨?_, ?_, ?_, fun o => ?_, ?_⟩, ?_, own_oth hf (fun k hk => h.d3 k hk) _, fun k hk e => ?_, fun k hk => ?_, h.d3, h.ne, hb.setCell (p := ⟨y, 1, none⟩) (show w.heap.size ≤ y by omega) _⟩
  · simpa [go_sem] using hx.c0
  · simp [go_sem, hx.c1]
  · simpa [go_sem] using hx.c2
  · simpa [go_sem] using hx.fr o
  · simpa using hx.lt
  · have k := own_oth ho (a := ⟨y, 1, none⟩) (fun k hk => by simp [Value.ownBlock] at hk; subst hk; exact hgy) (.slice (some ⟨g, 0, none⟩) (d.l.length + 1) cap)
    have e1 : scs (d.l ++ [S]) = scs d.l ++ S.l := by simp [scs]
    show World.ownsRow _ _ _ _ (.slice (some ⟨g, 0, none⟩) (d.l ++ [S]).length cap) (d.l ++ [S]).length (scs (d.l ++ [S]))
    rw [e1, List.length_append, List.length_singleton]
    exact k
  · simp [Value.ownBlock] at hk
    subst hk
    rcases hat with e2 | e2
    · exact h.d1 _ e2 e
    · have := (h.of.lt _ e).2; omega
  · simp [Value.ownBlock] at hk
    subst hk
    exact hgy
theorem NA.out (h : NA w r y d X W) : DE w.heap.size w d 0 (.returned (.tuple #[dv d X, .int .i64 0])) (((W.setCell ⟨r, 0, none⟩ (.int .i64 d.vn)).setCell ⟨r, 1, none⟩ (.slice X.A d.l.length X.c)).setCell ⟨r, 2, none⟩ (.slice X.A2 d.F.length X.c2)) := by
  have hp := h.ne
  have hl : Pl W r.succ (.slice X.A d.l.length X.c) d.l ∨ True := .inr trivial
  have n1 : X.nw (r + 1) := ⟨nwv_of (nwv_own h.ol (Nat.le_refl _)), nwv_of (nwv_own h.of (Nat.le_refl _))⟩
  have f : ∀ o, DOff d X (⟨r, o, none⟩ : Addr).block := fun o => n1.off (Nat.lt_succ_self r)
  exact ⟨X, rfl, h.nw, (((h.dr.offp (q := ⟨r, 0, none⟩) (f 0) _).offp (q := ⟨r, 1, none⟩) (f 1) _).offp (q := ⟨r, 2, none⟩) (f 2) _).more (by simp), ((h.bel.setCell (p := ⟨r, 0, none⟩) (show w.heap.size ≤ r by omega) _).setCell (p := ⟨r, 1, none⟩) (show w.heap.size ≤ r by omega) _).setCell (p := ⟨r, 2, none⟩) (show w.heap.size ≤ r by omega) _⟩
end
/-- The answer 'no'. -/
theorem new_out0 {w W : World} {r : Nat} (hr : r = w.heap.size) (hb : Below w.heap.size w W) (x : Int) : DE w.heap.size w zD x (.returned (.tuple #[.agg #[.int .i64 0, .slice none 0 0, .slice none 0 0], .int .i64 x])) (((W.setCell ⟨r, 0, none⟩ (.int .i64 0)).setCell ⟨r, 1, none⟩ (.slice none 0 0)).setCell ⟨r, 2, none⟩ (.slice none 0 0)) :=
  ⟨zDx, rfl, zDx_nw _, DR.zero, ((hb.setCell (p := ⟨r, 0, none⟩) (show w.heap.size ≤ r by omega) _).setCell (p := ⟨r, 1, none⟩) (show w.heap.size ≤ r by omega) _).setCell (p := ⟨r, 2, none⟩) (show w.heap.size ≤ r by omega) _⟩
end Go.Proofs.Ytdobenkkkkaipaa
namespace Go.Proofs.Ytdobenkkkkaipaa
open Go.RowKit
set_option linter.unusedVariables false

theorem ints_lit : True := trivial
set_option maxHeartbeats 4000000 in
set_option maxRecDepth 20000 in
theorem dnew_any (s l : Int) (w : World) : Calls Try.prog 9 #[.int .i64 s, .int .i64 l] w (DE w.heap.size w (nwD s l) (nwE s l)) := by
  have HWI := Lib.hid (fun n lo hi W => rwithin_any n lo hi W)
  obtain ⟨r, hr⟩ : ∃ r, r = w.heap.size := ⟨_, rfl⟩
  by_cases h : 1 ≤ s ∧ s ≤ 6 ∧ 1 ≤ l ∧ l ≤ s
  · obtain ⟨n, hn⟩ : ∃ n : Nat, s = n := ⟨s.toNat, by omega⟩
    obtain ⟨m, hm⟩ : ∃ m : Nat, l = m := ⟨l.toNat, by omega⟩
    subst hn
    subst hm
    have e1 : nwE n m = 0 := by unfold nwE; rw [if_pos h]
    have e2 : nwD n m = ⟨1, nwL m m, List.replicate n (-1)⟩ := by unfold nwD; rw [e1]; simp
    have HM := Lib.hid (show (1 ≤ n ∧ n ≤ 6) ∧ (1 ≤ m ∧ m ≤ n) by omega)
    have q1 : wiR n 1 6 = true := by simp [wiR]; omega
    have q2 : wiR m 1 n = true := by simp [wiR]; omega
    rw [e1, e2]
    clear e1 e2 h
    obtain ⟨F, hF⟩ : ∃ F, F = List.replicate n (-1 : Int) := ⟨_, rfl⟩
    rw [← hF]
    obtain ⟨i0, hi0, hz0⟩ := Option.map_eq_some_iff.1 info_sp
    simp only [Prod.mk.injEq] at hz0
    have HI := Lib.hid hi0
    have HZ := Lib.hid hz0
    clear hi0 hz0
    have HRP := Lib.hid (fun xb W => repeat_one xb n W HM.out.1.1 HM.out.1.2)
    rw [← hF] at HRP
    clear hF
    have HR0 := Lib.hid hr
    go_enter Try.func9, Try.ntmps9
    go_wp2_with fail
    refine (HWI.out _ _ _ _).mono ?_
    rintro e w1 ⟨rfl, hw1⟩
    rw [q1]
    go_wp2_with fail
    refine (HWI.out _ _ _ _).mono ?_
    rintro e w2 ⟨rfl, hw2⟩
    rw [q2]
    go_wp2_with fail
    subst hw2
    have HW1 := Lib.hid (show DB w1 r zD zDx ∧ w1.heap.size = r + 1 ∧ Below w.heap.size w w1 from by
      rw [← hw1, hr]
      exact ⟨DB.zero w _, by simp, (Below.refl _ _).alloc (Nat.le_refl _) _⟩)
    rw [← hr]
    clear hw1 hr
    refine (HRP.out _ _ (by simp [go_sem]) (by simp)).mono ?_
    rintro e w3 ⟨v, rfl, ho, hb⟩
    obtain ⟨A2, c2, rfl⟩ := own_form ho
    have HN := Lib.hid (NA.start (w := w) HR0.out ((HW1.out.2.2.alloc HW1.out.2.2.size (.cells #[.int .i64 (-1)] 3)).trans (hb.mono (by have := HW1.out.2.2.size; simp; omega))) ((HW1.out.1.alloc (.cells #[.int .i64 (-1)] 3)).up hb) (own_low ho (by have := HW1.out.2.1; simp; omega)) 25)
    obtain ⟨y, hy⟩ : ∃ y, y = w3.heap.size := ⟨_, rfl⟩
    clear ho hb HRP HW1
    go_wp2_with fail
    rw [← hy] at HN ⊢
    generalize w3.alloc (.cells #[.int .i64 1, .slice none 0 0, .slice A2 F.length c2] 25) = w4 at *
    clear hy
    go_loopw [23] (fun iv wr => ∃ (k : Nat) (A : Option Addr) (c : Nat), iv = .int .i64 k ∧ k ≤ m ∧ Hid (NA w r y ⟨1, nwL m k, F⟩ ⟨A, c, A2, c2⟩ wr)) (fun iv _ => m - (intOf iv).toNat)
    case atStart => exact ⟨0, none, 0, rfl, Nat.zero_le _, HN⟩
    case round =>
      obtain ⟨k, A, c, rfl, hkm, HA⟩ := hrel
      by_cases hk : k < m
      · obtain ⟨L, hL⟩ : ∃ L, L = nwL m k := ⟨_, rfl⟩
        rw [← hL] at HA
        have HL := Lib.hid (show L.length = k ∧ nwL m (k + 1) = L ++ [⟨(k : Int) * 65536 / m, ((k : Int) + 1) * 65536 / m - 1, k⟩] from ⟨by rw [hL, nwL_len], by rw [hL]; exact nwL_succ m k⟩)
        clear hL
        have hk' : (k : Int) < (m : Int) := by omega
        clear hkm hk
        have h56 : k ≤ 5 ∧ m ≤ 6 := by have := HM.out; omega
        have HL6 := Lib.hid h56
        have hw1 : IntKind.i64.wrap ((k : Int) * 65536) = (k : Int) * 65536 := IntWalk.i64_in _ (by omega)
        have hw2 : IntKind.i64.wrap ((k : Int) + 1) = (k : Int) + 1 := IntWalk.i64_in _ (by omega)
        have hw3 : IntKind.i64.wrap (((k : Int) + 1) * 65536) = ((k : Int) + 1) * 65536 := IntWalk.i64_in _ (by omega)
        obtain ⟨a, ha⟩ : ∃ a, a = ((k : Int) * 65536) / (m : Int) := ⟨_, rfl⟩
        obtain ⟨b, hb⟩ : ∃ b, b = (((k : Int) + 1) * 65536) / (m : Int) := ⟨_, rfl⟩
        have ht1 : ((k : Int) * 65536).tdiv (m : Int) = a := by rw [ha]; exact Int.tdiv_eq_ediv_of_nonneg (by omega)
        have ht2 : (((k : Int) + 1) * 65536).tdiv (m : Int) = b := by rw [hb]; exact Int.tdiv_eq_ediv_of_nonneg (by omega)
        have hra : 0 ≤ a ∧ a ≤ 400000 := by
          rw [ha]
          exact ⟨Int.ediv_nonneg (by omega) (by omega), Int.le_trans (Int.ediv_le_self _ (by omega)) (by omega)⟩
        have hrb : 0 ≤ b ∧ b ≤ 400000 := by
          rw [hb]
          exact ⟨Int.ediv_nonneg (by omega) (by omega), Int.le_trans (Int.ediv_le_self _ (by omega)) (by omega)⟩
        have hw4 : IntKind.i64.wrap a = a := IntWalk.i64_in _ (by omega)
        have hw5 : IntKind.i64.wrap b = b := IntWalk.i64_in _ (by omega)
        have hw6 : IntKind.i64.wrap (b - 1) = b - 1 := IntWalk.i64_in _ (by omega)
        rw [← ha, ← hb] at HL
        have hm0 : ¬ (m : Int) = 0 := by omega
        have hm1 : ((m : Int) == 0) = false := by simpa using hm0
        have hm2 : ¬ m = 0 := by omega
        have hm3 : ((m == 0) : Bool) = false := by simpa using hm2
        clear ha hb h56
        obtain ⟨⟨x0, x1, x2, xl⟩, f0, f1, f2⟩ := HA.out.xb.all
        dsimp only at x0 x1 x2
        clear x0 x2 f0 f2
        go_wp2
        go_region_law (refine step_append_lies _ (by rfl) _ _ _ (by rfl) (r + 1) 43 i0 _ 3 24 Try.underlying22 HI.out HZ.out.1 HZ.out.2.1 HZ.out.2.2 rfl (by omega) (.slice A L.length c) L.length (scs L) (by rfl) (HA.out.drew.alloc _).ol ⟨wr.heap.size, 0, none⟩ 1 1 (Sp.mk a (b - 1) k).l (by rfl) (by rfl) (World.news_of_block (cs := (Sp.mk a (b - 1) k).l.toArray) (t := 43) (fr := (0, 0)) (heap_alloc_new wr.drew _)) (Sp.l_one _) (by omega) (by have := HL.out; have := HL6.out; unfold maxLen; omega) (by have := HL.out; have := HL6.out; omega) (Nat.succ_le_of_lt (HA.out.drew.alloc _).rb.lt) _ rfl ?_; intro g1 cp1 w8 hown1 hgrow1 hat1 hlt1; have HP8 := Lib.hid ((HA.out.drew.alloc _).app (S := Sp.mk a (b - 1) k) hown1 hgrow1 hat1); obtain ⟨z1, f1, xl⟩ := HP8.out.1; clear hown1 hgrow1 hat1 hlt1)
        all_goals
          go_wp2
          exact ⟨⟨k + 1, _, _, by rw [Int.natCast_add]; rfl, by omega, Lib.hid (by rw [HL.out.2]; exact HP8.out.2)⟩, by simp [intOf]; omega⟩
      · have hke : k = m := by omega
        subst hke
        have HO := Lib.hid HA.out.out
        obtain ⟨⟨x0, x1, x2, xl⟩, f0, f1, f2⟩ := HA.out.xb.all
        obtain ⟨⟨r0, r1, r2, rl⟩, g0, g1, g2⟩ := HA.out.rb.all
        have hry : ¬ r = y ∧ ¬ y = r := by have := HA.out.ne; omega
        obtain ⟨hry1, hry2⟩ := hry
        dsimp only at x0 x1 x2
        clear hkm hk
        go_wp2
        exact bodyPost_ret (v := .tuple #[dv ⟨1, nwL k k, F⟩ ⟨A, c, A2, c2⟩, .int .i64 0]) (by simp only [results, Try.results9]; go_simp <;> rfl) rfl HO.out
  · have HEE := Lib.hid (show nwE s l = 1 ∧ nwD s l = zD from by
      have e1 : nwE s l = 1 := by unfold nwE; rw [if_neg h]
      exact ⟨e1, by unfold nwD; rw [e1]; rfl⟩)
    obtain ⟨E1, hE1⟩ : ∃ E1, E1 = nwE s l := ⟨_, rfl⟩
    obtain ⟨D1, hD1⟩ : ∃ D1, D1 = nwD s l := ⟨_, rfl⟩
    rw [← hE1, ← hD1] at HEE
    rw [← hE1, ← hD1]
    clear hE1 hD1
    have HO := Lib.hid (fun W hb => new_out0 (w := w) (W := W) rfl hb 1)
    have hq : wiR s 1 6 = false ∨ (wiR s 1 6 = true ∧ wiR l 1 s = false) := by
      simp only [wiR, decide_eq_false_iff_not, decide_eq_true_eq]; omega
    clear h hr
    rcases hq with q1 | ⟨q1, q2⟩
    · go_enter Try.func9, Try.ntmps9
      go_wp2_with fail
      refine (HWI.out _ _ _ _).mono ?_
      rintro e w1 ⟨rfl, hw1⟩
      rw [q1]
      have HO1 := Lib.hid (HO.out w1 (by rw [← hw1]; exact (Below.refl _ _).alloc (Nat.le_refl _) _))
      have HD := Lib.hid (show DB w1 w.heap.size zD zDx from by rw [← hw1]; exact DB.zero w _)
      clear hw1
      obtain ⟨⟨r0, r1, r2, rl⟩, g0, g1, g2⟩ := HD.out.all
      go_wp2
      exact bodyPost_ret (v := .tuple #[.agg #[.int .i64 0, .slice none 0 0, .slice none 0 0], .int .i64 1]) (by simp only [results, Try.results9]; go_simp <;> rfl) rfl (by rw [HEE.out.1, HEE.out.2]; exact HO1.out)
    · go_enter Try.func9, Try.ntmps9
      go_wp2_with fail
      refine (HWI.out _ _ _ _).mono ?_
      rintro e w1 ⟨rfl, hw1⟩
      rw [q1]
      go_wp2_with fail
      refine (HWI.out _ _ _ _).mono ?_
      rintro e w2 ⟨rfl, hw2⟩
      subst hw2
      rw [q2]
      have HO1 := Lib.hid (HO.out w1 (by rw [← hw1]; exact (Below.refl _ _).alloc (Nat.le_refl _) _))
      have HD := Lib.hid (show DB w1 w.heap.size zD zDx from by rw [← hw1]; exact DB.zero w _)
      clear hw1
      obtain ⟨⟨r0, r1, r2, rl⟩, g0, g1, g2⟩ := HD.out.all
      go_wp2
      exact bodyPost_ret (v := .tuple #[.agg #[.int .i64 0, .slice none 0 0, .slice none 0 0], .int .i64 1]) (by simp only [results, Try.results9]; go_simp <;> rfl) rfl (by rw [HEE.out.1, HEE.out.2]; exact HO1.out)
end Go.Proofs.Ytdobenkkkkaipaa
namespace Go.Proofs.Ytdobenkkkkaipaa
open Go.RowKit
set_option linter.unusedVariables false

theorem vaD_dec {d : Dd} (h1 : rgD d) (h2 : cvD 0 d.l = true) (h3 : msD d.F.length d.l = true) (h4 : ∀ j, j < d.l.length → ∀ i, i < j → (sg d.l i).sh ≠ (sg d.l j).sh) (h5 : ∀ i, i < d.F.length → (-1 ≤ ig d.F i ∧ ig d.F i < d.F.length) ∧ (hasS d.l (i : Int) → ig d.F i = -1))
    (h6 : ∀ i, i < d.F.length → fwD d.F d.F.length (i : Int) < 0) : vaD d = 0 := by
  refine vaD_ok h1 h2 h3 ?_ ?_
  · have : ¬ duD d.l := fun ⟨i, j, hij, hj, he⟩ => h4 j hj i hij he
    simp [duB, this]
  · have : foD d.l d.F := ⟨h5, h6⟩
    simp [foB, this]
theorem aD_4 : (nwD 3 2).l.length = 2 ∧ (nwD 3 2).F.length = 3 ∧ nwE 3 2 = 0 := by decide +kernel
theorem aD_0 : vaD (nwD 3 2) = 0 := vaD_dec (by unfold rgD; decide +kernel) (by decide +kernel) (by decide +kernel) (by decide +kernel) (by decide +kernel) (by decide +kernel)
theorem aD_1 : ownD (nwD 3 2) 32767 = 0 := by unfold ownD; rw [if_pos aD_0]; decide +kernel
theorem aD_2 : ownD (nwD 3 2) 32768 = 1 := by unfold ownD; rw [if_pos aD_0]; decide +kernel
theorem aD_3 : homD (nwD 3 2) 2 = -1 := by unfold homD; rw [if_pos ⟨aD_0, by unfold slotP; decide +kernel⟩]; decide +kernel
/-- A directory in a box, with its lists. -/
structure DD (w : World) (p : Nat) (d : Dd) (X : Dx) (W : World) : Prop where
  db : DB W p d X
  dr : DR W W.heap.size d X
  old : w.heap.size ≤ p
  bel : Below w.heap.size w W
theorem DD.up {w W W' : World} {p : Nat} {d : Dd} {X : Dx} (h : DD w p d X W) (hb : Below W.heap.size W W') : DD w p d X W' := ⟨h.db.up hb, h.dr.up hb, h.old, h.bel.trans (hb.mono h.bel.size)⟩
theorem DD.start {w W : World} {d : Dd} {X : Dx} (hr : DR W W.heap.size d X) (hb : Below w.heap.size w W) (t : TypeId) : DD w W.heap.size d X (W.alloc (.cells #[.int .i64 d.vn, .slice X.A d.l.length X.c, .slice X.A2 d.F.length X.c2] t)) :=
  ⟨DB.start W d X t, hr.alloc _, hb.size, hb.alloc hb.size _⟩

set_option maxHeartbeats 2000000 in
theorem awake10_any (w : World) : Calls Try.prog 13 #[] w fun e w' => e = .returned (.bool true) ∧ Below w.heap.size w w' := by
  obtain ⟨D, hD⟩ : ∃ D, D = nwD 3 2 := ⟨_, rfl⟩
  have HN := Lib.hid (fun W => show Calls Try.prog 9 #[.int .i64 3, .int .i64 2] W (DE W.heap.size W D 0) from by
    have h := dnew_any 3 2 W
    rw [aD_4.2.2, ← hD] at h
    exact h)
  have HO1 := Lib.hid (fun X W (k : DR W W.heap.size D X) => show Calls Try.prog 21 #[dv D X, .int .i64 32767] W (VlR W 0) from by
    have h := downer_any D X 32767 W k
    rw [hD, aD_1, ← hD] at h
    exact h)
  have HO2 := Lib.hid (fun X W (k : DR W W.heap.size D X) => show Calls Try.prog 21 #[dv D X, .int .i64 32768] W (VlR W 1) from by
    have h := downer_any D X 32768 W k
    rw [hD, aD_2, ← hD] at h
    exact h)
  have HH := Lib.hid (fun X W (k : DR W W.heap.size D X) => show Calls Try.prog 24 #[dv D X, .int .i64 2] W (VlR W (-1)) from by
    have h := dhome_any D X 2 W k (by rw [hD, aD_4.2.1]; omega)
    rw [hD, aD_3, ← hD] at h
    exact h)
  have hl1 : ((D.l.length : Int) == 2) = true := by rw [hD, aD_4.1]; rfl
  have hl2 : (D.l.length == 2) = true := by rw [hD, aD_4.1]; rfl
  clear hD
  go_enter Try.func13, Try.ntmps13
  go_wp2_with fail
  refine (HN.out _).mono ?_
  rintro e w1 ⟨X, rfl, -, hdr, hb⟩
  have H1 := Lib.hid (DD.start (w := w) hdr hb 25)
  clear hdr hb
  go_wp2_with fail
  generalize w1.heap.size = p at *
  generalize w1.alloc (.cells #[.int .i64 D.vn, .slice X.A D.l.length X.c, .slice X.A2 D.F.length X.c2] 25) = w2 at *
  refine (HO1.out X _ H1.out.dr).mono ?_
  rintro e w3 ⟨rfl, hb⟩
  have H2 := Lib.hid (H1.out.up hb)
  clear hb H1
  obtain ⟨⟨x0, x1, x2, xl⟩, -, -, -⟩ := H2.out.db.all
  go_wp2_with fail
  clear x0 x1 x2 xl
  refine (HO2.out X _ H2.out.dr).mono ?_
  rintro e w4 ⟨rfl, hb⟩
  have H3 := Lib.hid (H2.out.up hb)
  clear hb H2
  obtain ⟨⟨x0, x1, x2, xl⟩, -, -, -⟩ := H3.out.db.all
  go_wp2_with fail
  clear x0 x1 x2 xl
  refine (HH.out X _ H3.out.dr).mono ?_
  rintro e w5 ⟨rfl, hb⟩
  have HB := Lib.hid (H3.out.up hb).bel
  clear hb H3
  go_wp2
  go_ret
  exact ⟨rfl, HB.out⟩
end Go.Proofs.Ytdobenkkkkaipaa
