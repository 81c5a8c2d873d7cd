/- What is proved here: ref10.New by a contract; Directory of the statements' base makes a valid directory; what a statement about built directories holds: a source, a directory in a box, its lists copied and changed in one place; a directory's box, a walk's box and the row of the visits in memory (WalkVisits); (plain) nothing old is turned by draws. -/
import Derived.Test.YtkecnihgjepfeaaJ06
import Derived.Deep.AppendLies
import Derived.WalkSpells
import Derived.Deep.RegionHeld3
import Derived.Test.YtkecnihgjepfeaaJ09
import Derived.Test.YtkecnihgjepfeaaJ13
import Derived.Deep.DeepCutAuto
import Derived.Test.YtkecnihgjepfeaaJ07
import Derived.Test.YtkecnihgjepfeaaJ03
import Derived.Test.YtkecnihgjepfeaaJ04
import Derived.Below
import Derived.WalkKit
import Derived.Deep.QuietTactic
namespace Go.Proofs.Ytkecnihgjepfeaa
open Go.RowKit
set_option linter.unusedVariables false

section
variable {w W W' : World} {r y : Nat} {d : Dd} {X : Dx}
/-- A number is appended. -/
theorem NA.appF (h : NA w r y d X W) {v : Int} {g cap : Nat} (ho : W'.ownsRow (r + 1) 3 1 (.slice (some ⟨g, 0, none⟩) (d.F.length + 1) cap) (d.F.length + 1) (ics d.F ++ [.int .i64 v])) (hg : W.grownBy W' (Value.slice X.A2 d.F.length X.c2).ownBlock) (hat : (Value.slice X.A2 d.F.length X.c2).ownBlock = some g ∨ g = W.heap.size) :
    (W'.cell? ⟨y, 2, none⟩ = some (.slice X.A2 d.F.length X.c2) ∧ W'.frozen? ⟨y, 2, none⟩ = false ∧ y < W'.heap.size) ∧ NA w r y ⟨d.vn, d.l, d.F ++ [v]⟩ ⟨X.A, X.c, some ⟨g, 0, none⟩, cap⟩ (W'.setCell ⟨y, 2, none⟩ (.slice (some ⟨g, 0, none⟩) (d.F.length + 1) cap)) := by
  have hn := h.ne
  have hrl := h.rb.lt
  have hor : (Value.slice X.A2 d.F.length X.c2).ownBlock ≠ some r := fun e => by have := (h.of.lt r e).1; omega
  have hoy : (Value.slice X.A2 d.F.length X.c2).ownBlock ≠ some y := fun e => h.d3 y e rfl
  have hx := h.xb.grownO hg hoy
  have hr := h.rb.grownO hg hor
  have hf := own_farO h.ol hg fun k hk e => h.d1 k hk e
  have hgy : g ≠ y := by
    rcases hat with e | e
    · exact h.d3 g e
    · have := h.xb.lt; omega
  have hb : Below w.heap.size w W' := h.bel.grown hg h.bel.size fun k hk => by have := (h.of.lt k hk).1; omega
  refine ⟨⟨hx.c2, hx.fr 2, hx.lt⟩, hr.other (a := ⟨y, 2, none⟩) (by show y ≠ r; omega) _, ⟨?_, ?_, ?_, fun o => ?_, ?_⟩, own_oth hf (fun k hk => h.d2 k hk) _, ?_, fun k hk e => ?_, h.d2, fun k hk => ?_, h.ne, hb.setCell (p := ⟨y, 2, none⟩) (show w.heap.size ≤ y by omega) _⟩
  · simpa [go_sem] using hx.c0
  · simpa [go_sem] using hx.c1
  · simp [go_sem, hx.c2]
  · simpa [go_sem] using hx.fr o
  · simpa using hx.lt
  · have k := own_oth ho (a := ⟨y, 2, none⟩) (fun k hk => by simp [Value.ownBlock] at hk; subst hk; exact hgy) (.slice (some ⟨g, 0, none⟩) (d.F.length + 1) cap)
    have e1 : ics (d.F ++ [v]) = ics d.F ++ [.int .i64 v] := by simp [ics, i64v]
    show World.ownsRow _ _ _ _ (.slice (some ⟨g, 0, none⟩) (d.F ++ [v]).length cap) (d.F ++ [v]).length (ics (d.F ++ [v]))
    rw [e1, List.length_append, List.length_singleton]
    exact k
  · simp [Value.ownBlock] at e
    subst e
    rcases hat with e2 | e2
    · exact h.d1 _ hk e2
    · have := (h.ol.lt _ hk).2; omega
  · simp [Value.ownBlock] at hk
    subst hk
    exact hgy
end

set_option maxHeartbeats 4000000 in
set_option maxRecDepth 20000 in
theorem rnew10_any (s l : Int) (w : World) : Calls Try.prog 21 #[.int .i64 s, .int .i64 l] w (DE w.heap.size w (nwD s l) (nwE10 s l)) := by
  obtain ⟨r, hr⟩ : ∃ r, r = w.heap.size := ⟨_, rfl⟩
  by_cases h : 1 ≤ s ∧ s ≤ 6 ∧ 1 ≤ l ∧ l ≤ s
  · obtain ⟨n, hn⟩ : ∃ n : Nat, s = n := ⟨s.toNat, by omega⟩
    obtain ⟨m, hm⟩ : ∃ m : Nat, l = m := ⟨l.toNat, by omega⟩
    subst hn
    subst hm
    have e1 : nwE10 n m = 0 := by unfold nwE10; rw [if_pos h]
    have e2 : nwD n m = ⟨1, nwL m m, List.replicate n (-1)⟩ := by unfold nwD; rw [e1]; simp
    have HM := Lib.hid (show (1 ≤ n ∧ n ≤ 6) ∧ (1 ≤ m ∧ m ≤ n) by omega)
    rw [e1, e2]
    have qc1 : ¬ (m : Int) < 1 := by omega
    have qc2 : ¬ (n : Int) < (m : Int) := by omega
    have qc3 : ¬ (6 : Int) < (n : Int) := by omega
    clear e1 e2 h
    obtain ⟨i0, hi0, hz0⟩ := Option.map_eq_some_iff.1 info_sp
    simp only [Prod.mk.injEq] at hz0
    have HI := Lib.hid hi0
    have HZ := Lib.hid hz0
    clear hi0 hz0
    obtain ⟨j0, hi0, hz0⟩ := Option.map_eq_some_iff.1 info_ni
    simp only [Prod.mk.injEq] at hz0
    have HJ := Lib.hid hi0
    have HY := Lib.hid hz0
    clear hi0 hz0
    have HR0 := Lib.hid hr
    obtain ⟨y, hy⟩ : ∃ y, y = w.heap.size + 1 := ⟨_, rfl⟩
    have HN := Lib.hid (show NA w r y ⟨1, [], []⟩ ⟨none, 0, none, 0⟩ ((w.alloc (.cells #[.int .i64 0, .slice none 0 0, .slice none 0 0] 40)).alloc (.cells #[.int .i64 1, .slice none 0 0, .slice none 0 0] 40)) from by
      have k := NA.start (w := w) (W := w.alloc (.cells #[.int .i64 0, .slice none 0 0, .slice none 0 0] 40)) (F := []) (A2 := none) (c2 := 0) hr ((Below.refl _ _).alloc (Nat.le_refl _) _) (by rw [hr]; exact Db10.zero w _) (World.ownsRow_nil _ _ _ _) 40
      have hs : (w.alloc (.cells #[.int .i64 0, .slice none 0 0, .slice none 0 0] 40)).heap.size = y := by rw [hy]; simp
      rw [hs] at k
      exact k)
    go_enter Try.func21, Try.ntmps21
    go_wp2_with fail
    rw [← hy, ← hr]
    generalize (w.alloc (.cells #[.int .i64 0, .slice none 0 0, .slice none 0 0] 40)).alloc (.cells #[.int .i64 1, .slice none 0 0, .slice none 0 0] 40) = w4 at *
    clear hr hy
    go_loopw [7] (fun iv wr => ∃ (k : Nat) (A : Option Addr) (c : Nat), iv = .int .i64 k ∧ k ≤ m ∧ Hid (NA w r y ⟨1, nwL m k, []⟩ ⟨A, c, none, 0⟩ wr)) (fun iv _ => m - (intOf iv).toNat)
    case atStart => exact ⟨0, none, 0, rfl, Nat.zero_le _, HN⟩
    case round =>
      obtain ⟨k, A, c, rfl, hkm, HA⟩ := hrel
      by_cases hk : k < m
      · obtain ⟨L, hL⟩ : ∃ L, L = nwL m k := ⟨_, rfl⟩
        rw [← hL] at HA
        have HL := Lib.hid (show L.length = k ∧ nwL m (k + 1) = L ++ [⟨(k : Int) * 65536 / m, ((k : Int) + 1) * 65536 / m - 1, k⟩] from ⟨by rw [hL, nwL_len], by rw [hL]; exact nwL_succ m k⟩)
        clear hL
        have hk' : (k : Int) < (m : Int) := by omega
        clear hkm hk
        have h56 : k ≤ 5 ∧ m ≤ 6 := by have := HM.out; omega
        have HL6 := Lib.hid h56
        have hw1 : IntKind.i64.wrap ((k : Int) * 65536) = (k : Int) * 65536 := IntWalk.i64_in _ (by omega)
        have hw2 : IntKind.i64.wrap ((k : Int) + 1) = (k : Int) + 1 := IntWalk.i64_in _ (by omega)
        have hw3 : IntKind.i64.wrap (((k : Int) + 1) * 65536) = ((k : Int) + 1) * 65536 := IntWalk.i64_in _ (by omega)
        obtain ⟨a, ha⟩ : ∃ a, a = ((k : Int) * 65536) / (m : Int) := ⟨_, rfl⟩
        obtain ⟨b, hb⟩ : ∃ b, b = (((k : Int) + 1) * 65536) / (m : Int) := ⟨_, rfl⟩
        have ht1 : ((k : Int) * 65536).tdiv (m : Int) = a := by rw [ha]; exact Int.tdiv_eq_ediv_of_nonneg (by omega)
        have ht2 : (((k : Int) + 1) * 65536).tdiv (m : Int) = b := by rw [hb]; exact Int.tdiv_eq_ediv_of_nonneg (by omega)
        have hra : 0 ≤ a ∧ a ≤ 400000 := by
          rw [ha]
          exact ⟨Int.ediv_nonneg (by omega) (by omega), Int.le_trans (Int.ediv_le_self _ (by omega)) (by omega)⟩
        have hrb : 0 ≤ b ∧ b ≤ 400000 := by
          rw [hb]
          exact ⟨Int.ediv_nonneg (by omega) (by omega), Int.le_trans (Int.ediv_le_self _ (by omega)) (by omega)⟩
        have hw4 : IntKind.i64.wrap a = a := IntWalk.i64_in _ (by omega)
        have hw5 : IntKind.i64.wrap b = b := IntWalk.i64_in _ (by omega)
        have hw6 : IntKind.i64.wrap (b - 1) = b - 1 := IntWalk.i64_in _ (by omega)
        rw [← ha, ← hb] at HL
        have hm0 : ¬ (m : Int) = 0 := by omega
        have hm1 : ((m : Int) == 0) = false := by simpa using hm0
        have hm2 : ¬ m = 0 := by omega
        have hm3 : ((m == 0) : Bool) = false := by simpa using hm2
        clear ha hb h56
        obtain ⟨⟨x0, x1, x2, xl⟩, f0, f1, f2⟩ := HA.out.xb.all
        dsimp only at x0 x1 x2
        clear x0 x2 f0 f2
        go_wp2
        go_region_law (refine step_append_lies _ (by rfl) _ _ _ (by rfl) (r + 1) 44 i0 _ 3 24 Try.underlying38 HI.out HZ.out.1 HZ.out.2.1 HZ.out.2.2 rfl (by omega) (.slice A L.length c) L.length (scs L) (by rfl) (HA.out.drew.alloc _).ol ⟨wr.heap.size, 0, none⟩ 1 1 (Sp.mk a (b - 1) k).l (by rfl) (by rfl) (World.news_of_block (cs := (Sp.mk a (b - 1) k).l.toArray) (t := 44) (fr := (0, 0)) (heap_alloc_new wr.drew _)) (Sp.l_one _) (by omega) (by have := HL.out; have := HL6.out; unfold maxLen; omega) (by have := HL.out; have := HL6.out; omega) (Nat.succ_le_of_lt (HA.out.drew.alloc _).rb.lt) _ rfl ?_; intro g1 cp1 w8 hown1 hgrow1 hat1 hlt1; have HP8 := Lib.hid ((HA.out.drew.alloc _).app (S := Sp.mk a (b - 1) k) hown1 hgrow1 hat1); obtain ⟨z1, f1, xl⟩ := HP8.out.1; clear hown1 hgrow1 hat1 hlt1)
        all_goals
          go_wp2
          exact ⟨⟨k + 1, _, _, by rw [Int.natCast_add]; rfl, by omega, Lib.hid (by rw [HL.out.2]; exact HP8.out.2)⟩, by simp [intOf]; omega⟩
      · have hke : k = m := by omega
        subst hke
        have hkk : ¬ (k : Int) < (k : Int) := by omega
        obtain ⟨L, hL⟩ : ∃ L, L = nwL k k := ⟨_, rfl⟩
        have HA0 := Lib.hid (show NA w r y ⟨1, L, []⟩ ⟨A, c, none, 0⟩ wr by rw [hL]; exact HA.out)
        have HL := Lib.hid hL
        clear hkm hk HA hL
        go_wp2
        generalize wr = w5 at *
        go_loopw [8] (fun iv wr => ∃ (j : Nat) (A2 : Option Addr) (c2 : Nat), iv = .int .i64 j ∧ j ≤ n ∧ Hid (NA w r y ⟨1, L, List.replicate j (-1)⟩ ⟨A, c, A2, c2⟩ wr)) (fun iv _ => n - (intOf iv).toNat)
        case atStart => exact ⟨0, none, 0, rfl, Nat.zero_le _, HA0⟩
        case round =>
          obtain ⟨j, A2, c2, rfl, hjn, HB⟩ := hrel
          by_cases hj : j < n
          · obtain ⟨F, hF⟩ : ∃ F, F = List.replicate j (-1 : Int) := ⟨_, rfl⟩
            rw [← hF] at HB
            have HF := Lib.hid (show F.length = j ∧ List.replicate (j + 1) (-1 : Int) = F ++ [-1] from ⟨by rw [hF]; simp, by rw [hF]; exact List.replicate_succ'⟩)
            clear hF
            have HL6 := Lib.hid (show j ≤ 5 by have := HM.out; omega)
            have hj' : (j : Int) < (n : Int) := by omega
            have hw2 : IntKind.i64.wrap ((j : Int) + 1) = (j : Int) + 1 := IntWalk.i64_in _ (by omega)
            clear hjn hj
            obtain ⟨⟨x0, x1, x2, xl⟩, f0, f1, f2⟩ := HB.out.xb.all
            dsimp only at x0 x1 x2
            clear x0 x1 f0 f1
            go_wp2_with (at_builtin; refine wpList_append_lies _ rfl _ _ _ rfl (r + 1) 3 j0 _ 1 8 Try.underlying24 HJ.out HY.out.1 HY.out.2.1 HY.out.2.2 rfl (by omega) (.slice A2 F.length c2) F.length (ics F) (by rfl) (HB.out.alloc _).of ⟨wr.heap.size, 0, none⟩ 1 1 [.int .i64 (-1)] (by rfl) (by rfl) (World.news_of_block (cs := #[.int .i64 (-1)]) (t := 3) (fr := (0, 0)) (heap_alloc_new wr _)) (fun u hu => by simp at hu; subst hu; rfl) (by omega) (by have := HF.out; have := HL6.out; unfold maxLen; omega) (by have := HF.out; have := HL6.out; omega) (Nat.succ_le_of_lt (HB.out.alloc _).rb.lt) _ rfl ?_; intro g1 cp1 w8 hown1 hgrow1 hat1 hlt1; have HP8 := Lib.hid ((HB.out.alloc _).appF (v := -1) hown1 hgrow1 hat1); obtain ⟨z1, f2, xl⟩ := HP8.out.1; clear hown1 hgrow1 hat1 hlt1)
            exact ⟨⟨j + 1, _, _, by rw [Int.natCast_add]; rfl, by omega, Lib.hid (by rw [HF.out.2]; exact HP8.out.2)⟩, by simp [intOf]; omega⟩
          · have hje : j = n := by omega
            subst hje
            have hjj : ¬ (j : Int) < (j : Int) := by omega
            obtain ⟨F, hF⟩ : ∃ F, F = List.replicate j (-1 : Int) := ⟨_, rfl⟩
            rw [← hF] at HB
            have HO := Lib.hid (show DE w.heap.size w ⟨1, nwL k k, List.replicate j (-1)⟩ 0 (.returned (.tuple #[dv ⟨1, L, F⟩ ⟨A, c, A2, c2⟩, .int .i64 0])) _ from by rw [← hF, ← HL.out]; exact HB.out.out)
            obtain ⟨⟨x0, x1, x2, xl⟩, f0, f1, f2⟩ := HB.out.xb.all
            obtain ⟨⟨r0, r1, r2, rl⟩, g0, g1, g2⟩ := HB.out.rb.all
            have hry : ¬ r = y ∧ ¬ y = r := by have := HB.out.ne; omega
            obtain ⟨hry1, hry2⟩ := hry
            dsimp only at x0 x1 x2
            clear hjn hj hF
            go_wp2
            exact bodyPost_ret (v := .tuple #[dv ⟨1, L, F⟩ ⟨A, c, A2, c2⟩, .int .i64 0]) (by simp only [results, Try.results21]; go_simp <;> rfl) rfl HO.out
  · have HEE := Lib.hid (show nwE10 s l = 1 ∧ nwD s l = zD10 from by
      have e1 : nwE10 s l = 1 := by unfold nwE10; rw [if_neg h]
      exact ⟨e1, by unfold nwD; rw [e1]; rfl⟩)
    obtain ⟨E1, hE1⟩ : ∃ E1, E1 = nwE10 s l := ⟨_, rfl⟩
    obtain ⟨D1, hD1⟩ : ∃ D1, D1 = nwD s l := ⟨_, rfl⟩
    rw [← hE1, ← hD1] at HEE
    rw [← hE1, ← hD1]
    clear hE1 hD1
    have HO1 := Lib.hid (new_out0 (w := w) (W := w.alloc (.cells #[.int .i64 0, .slice none 0 0, .slice none 0 0] 40)) rfl ((Below.refl _ _).alloc (Nat.le_refl _) _) 1)
    have hq : l < 1 ∨ (1 ≤ l ∧ s < l) ∨ (1 ≤ l ∧ l ≤ s ∧ 6 < s) := by omega
    clear h hr
    rcases hq with q1 | ⟨q1, q2⟩ | ⟨q1, q2, q3⟩
    all_goals
      go_enter Try.func21, Try.ntmps21
      go_wp2
      exact bodyPost_ret (v := .tuple #[.agg #[.int .i64 0, .slice none 0 0, .slice none 0 0], .int .i64 1]) (by simp only [results, Try.results21]; go_simp <;> rfl) rfl (by rw [HEE.out.1, HEE.out.2]; simpa [go_sem] using HO1.out)
end Go.Proofs.Ytkecnihgjepfeaa
namespace Go.Proofs.Ytkecnihgjepfeaa
open Go.RowKit
set_option linter.unusedVariables false

/-- A source turned and a valid directory in new lists as a result. -/
def SrDir (B g : Nat) (w : World) (e : Ending) (w' : World) : Prop := ∃ (D : Dd) (X : Dx), e = .returned (dv D X) ∧ vaD D = 0 ∧ DR w' w'.heap.size D X ∧ X.nw w.heap.size ∧ SrcAt w' B g ∧ w.grownBy w' (some g)
/-- A source and a directory in a box of the call's own, its lists new. -/
structure DgAt (w : World) (B g r p : Nat) (d : Dd) (X : Dx) (W : World) : Prop where
  src : SrcAt W B g
  db : Db10 W p d X
  dr : DR W W.heap.size d X
  op : DOff d X p
  nw : X.nw (r + 1)
  ne : g < w.heap.size ∧ w.heap.size ≤ r ∧ r < p
  rb : Db10 W r zD10 zDx
  gr : w.grownBy W (some g)
section
variable {w W W' : World} {B g r p : Nat} {d : Dd} {X : Dx}
theorem DgAt.og (h : DgAt w B g r p d X W) : DOff d X g := h.nw.off (by have := h.ne; omega)
theorem DgAt.below (h : DgAt w B g r p d X W) (hb : Below W.heap.size W W') : DgAt w B g r p d X W' :=
  ⟨h.src.below hb, h.db.up hb, h.dr.up hb, h.op, h.nw, h.ne, h.rb.up hb, only_below h.gr hb⟩
theorem DgAt.turn (h : DgAt w B g r p d X W) (hs : SrcAt W' B g) (hg : W.grownBy W' (some g)) : DgAt w B g r p d X W' :=
  ⟨hs, h.db.grown hg (by have := h.ne; omega), (h.dr.grownO h.og (Nat.le_refl _) hg).more hg.size, h.op, h.nw, h.ne, h.rb.grown hg (by have := h.ne; omega), h.gr.trans hg⟩
/-- Another directory is stored. -/
theorem DgAt.put (h : DgAt w B g r p d X W) {d' : Dd} {Y : Dx} (hr : DR W W.heap.size d' Y) (o1 : DOff d' Y p) (hn : Y.nw (r + 1)) :
    DgAt w B g r p d' Y (((W.setCell ⟨p, 0, none⟩ (.int .i64 d'.vn)).setCell ⟨p, 1, none⟩ (.slice Y.A d'.l.length Y.c)).setCell ⟨p, 2, none⟩ (.slice Y.A2 d'.F.length Y.c2)) := by
  have hne := h.ne
  have hg : p ≠ g := by omega
  have hB : B ≤ p := by have := h.src.1; omega
  have hP : w.heap.size ≤ p := by omega
  exact ⟨((h.src.other (p := ⟨p, 0, none⟩) hg hB _).other (p := ⟨p, 1, none⟩) hg hB _).other (p := ⟨p, 2, none⟩) hg hB _, h.db.set d' Y, (((hr.offp (q := ⟨p, 0, none⟩) o1 _).offp (q := ⟨p, 1, none⟩) o1 _).offp (q := ⟨p, 2, none⟩) o1 _).more (by simp), o1, hn, h.ne, ((h.rb.other (a := ⟨p, 0, none⟩) (show p ≠ r by omega) _).other (a := ⟨p, 1, none⟩) (show p ≠ r by omega) _).other (a := ⟨p, 2, none⟩) (show p ≠ r by omega) _,
    only_set (only_set (only_set h.gr (p := ⟨p, 0, none⟩) (.inr hP) _) (p := ⟨p, 1, none⟩) (.inr hP) _) (p := ⟨p, 2, none⟩) (.inr hP) _⟩
theorem DgAt.other (h : DgAt w B g r p d X W) {a : Addr} (h1 : a.block ≠ p) (h2 : a.block ≠ g) (h3 : DOff d X a.block) (h4 : w.heap.size ≤ a.block) (h5 : a.block ≠ r) (v : Value) : DgAt w B g r p d X (W.setCell a v) :=
  ⟨h.src.other h2 (by have := h.src.1; have := h.ne; omega) v, h.db.other h1 v, (h.dr.offp (q := a) h3 v).more (by simp), h.op, h.nw, h.ne, h.rb.other h5 v, only_set h.gr (p := a) (.inr h4) v⟩
end
/-- .. and the box of the next directory, once it is made. -/
structure DgN (w : World) (B g r p : Nat) (d : Dd) (X : Dx) (oz : Option Nat) (W : World) : Prop where
  ds : DgAt w B g r p d X W
  zb : ∀ z, oz = some z → Db10 W z zD10 zDx ∧ z ≠ g ∧ z ≠ p ∧ w.heap.size ≤ z ∧ DOff d X z ∧ z ≠ r
section
variable {w W W' : World} {B g r p : Nat} {d : Dd} {X : Dx} {oz : Option Nat}
theorem DgN.start (h : DgAt w B g r p d X W) : DgN w B g r p d X none W := ⟨h, by simp⟩
theorem DgN.below (h : DgN w B g r p d X oz W) (hb : Below W.heap.size W W') : DgN w B g r p d X oz W' := ⟨h.ds.below hb, fun z e => ⟨(h.zb z e).1.up hb, (h.zb z e).2⟩⟩
theorem DgN.drew (h : DgN w B g r p d X oz W) : DgN w B g r p d X oz W.drew := h.below (Below.refl _ _).drew
theorem DgN.turn (h : DgN w B g r p d X oz W) (hs : SrcAt W' B g) (hg : W.grownBy W' (some g)) : DgN w B g r p d X oz W' := ⟨h.ds.turn hs hg, fun z e => ⟨(h.zb z e).1.grown hg (h.zb z e).2.1, (h.zb z e).2⟩⟩
theorem DgN.ax (h : DgN w B g r p d X none W) (t : TypeId) : DgN w B g r p d X (some W.heap.size) (W.alloc (.cells #[.int .i64 0, .slice none 0 0, .slice none 0 0] t)) := by
  refine ⟨h.ds.below ((Below.refl _ _).alloc (Nat.le_refl _) _), fun z e => ?_⟩
  injection e with e
  subst e
  have h1 := h.ds.src.2.1
  have h2 := h.ds.db.lt
  have h3 := h.ds.ne
  have h4 := h.ds.gr.size
  exact ⟨Db10.zero W t, by omega, by omega, h4, h.ds.dr.offs (Nat.le_refl _), by omega⟩
theorem DgN.xf {z : Nat} (h : DgN w B g r p d X (some z) W) : Db10 W z zD10 zDx ∧ z ≠ g ∧ z ≠ p := ⟨(h.zb z rfl).1, (h.zb z rfl).2.1, (h.zb z rfl).2.2.1⟩
theorem DgN.k3 (h : DgN w B g r p d X oz W) {u : World} (hb : Below (p + 1) W u) : K3 p d X u := by
  obtain ⟨⟨x0, x1, x2, xl⟩, -⟩ := h.ds.db.all
  exact ⟨(hb.cell (p := ⟨p, 0, none⟩) (Nat.lt_succ_self p)).trans x0, (hb.cell (p := ⟨p, 1, none⟩) (Nat.lt_succ_self p)).trans x1, (hb.cell (p := ⟨p, 2, none⟩) (Nat.lt_succ_self p)).trans x2⟩
end
/-- .. with the next directory in it. -/
structure DgY (w : World) (B g r p z : Nat) (d : Dd) (X : Dx) (d' : Dd) (Y : Dx) (W : World) : Prop where
  ds : DgAt w B g r p d X W
  xb : Db10 W z d' Y
  xr : DR W W.heap.size d' Y
  o1 : DOff d' Y p
  xn : Y.nw (r + 1)
  zn : z ≠ g ∧ z ≠ p
section
variable {w W W' : World} {B g r p : Nat} {d d' : Dd} {X Y : Dx}
theorem dgy_1 (h : DgN w B g r p d X none W) (hr : DR W W.heap.size d' Y) (o1 : DOff d' Y p) (hn : Y.nw (r + 1)) (t : TypeId) : DgY w B g r p W.heap.size d X d' Y (W.alloc (.cells #[.int .i64 d'.vn, .slice Y.A d'.l.length Y.c, .slice Y.A2 d'.F.length Y.c2] t)) := by
  have h1 := h.ds.src.2.1
  have h2 := h.ds.db.lt
  exact ⟨h.ds.below ((Below.refl _ _).alloc (Nat.le_refl _) _), Db10.start W d' Y t, hr.alloc _, o1, hn, by omega, by omega⟩
theorem dgy_2 {z : Nat} (h : DgN w B g r p d X (some z) W) (hr : DR W W.heap.size d' Y) (o1 : DOff d' Y p) (hn : Y.nw (r + 1)) (o3 : DOff d' Y z) : DgY w B g r p z d X d' Y (((W.setCell ⟨z, 0, none⟩ (.int .i64 d'.vn)).setCell ⟨z, 1, none⟩ (.slice Y.A d'.l.length Y.c)).setCell ⟨z, 2, none⟩ (.slice Y.A2 d'.F.length Y.c2)) := by
  obtain ⟨hz, hg, hp, hw, hd, hr5⟩ := h.zb z rfl
  exact ⟨((h.ds.other (a := ⟨z, 0, none⟩) hp hg hd hw hr5 _).other (a := ⟨z, 1, none⟩) hp hg hd hw hr5 _).other (a := ⟨z, 2, none⟩) hp hg hd hw hr5 _, hz.set d' Y, (((hr.offp (q := ⟨z, 0, none⟩) o3 _).offp (q := ⟨z, 1, none⟩) o3 _).offp (q := ⟨z, 2, none⟩) o3 _).more (by simp), o1, hn, hg, hp⟩
end
theorem DgAt.start {w W : World} {B g r : Nat} {d : Dd} {X : Dx} (hs : SrcAt W B g) (hd : DR W W.heap.size d X) (hn : X.nw (r + 1)) (hg : g < w.heap.size) (hr : w.heap.size ≤ r) (hb : Db10 W r zD10 zDx) (hgr : w.grownBy W (some g)) (t : TypeId) :
    DgAt w B g r W.heap.size d X (W.alloc (.cells #[.int .i64 d.vn, .slice X.A d.l.length X.c, .slice X.A2 d.F.length X.c2] t)) :=
  ⟨hs.alloc _, Db10.start W d X t, hd.alloc _, hd.offs (Nat.le_refl _), hn, ⟨hg, hr, hb.lt⟩, hb.alloc _, only_alloc hgr _⟩
/-- The directory as the result. -/
theorem DgAt.out {w W : World} {B g r p : Nat} {d : Dd} {X : Dx} (h : DgAt w B g r p d X W) (hv : vaD d = 0) :
    SrDir B g w (.returned (dv d X)) (((W.setCell ⟨r, 0, none⟩ (.int .i64 d.vn)).setCell ⟨r, 1, none⟩ (.slice X.A d.l.length X.c)).setCell ⟨r, 2, none⟩ (.slice X.A2 d.F.length X.c2)) := by
  have hne := h.ne
  have ho : DOff d X r := h.nw.off (Nat.lt_succ_self r)
  have hB : B ≤ r := by have := h.src.1; omega
  have hg : r ≠ g := by omega
  exact ⟨d, X, rfl, hv, (((h.dr.offp (q := ⟨r, 0, none⟩) ho _).offp (q := ⟨r, 1, none⟩) ho _).offp (q := ⟨r, 2, none⟩) ho _).more (by simp), h.nw.low (by omega),
    ((h.src.other (p := ⟨r, 0, none⟩) hg hB _).other (p := ⟨r, 1, none⟩) hg hB _).other (p := ⟨r, 2, none⟩) hg hB _,
    only_set (only_set (only_set h.gr (p := ⟨r, 0, none⟩) (.inr hne.2.1) _) (p := ⟨r, 1, none⟩) (.inr hne.2.1) _) (p := ⟨r, 2, none⟩) (.inr hne.2.1) _⟩

set_option maxHeartbeats 8000000 in
set_option maxRecDepth 20000 in
theorem directory_any (B g : Nat) (w : World) (h : SrcAt w B g) : Calls Try.prog 17 #[.pointer (some ⟨g, 0, none⟩)] w (SrDir B g w) := by
  have HGW := Lib.hid (show g < w.heap.size from h.2.1)
  have HR0 := Lib.hid (Db10.zero w 40)
  have HS0 := Lib.hid (h.alloc (.cells #[.int .i64 0, .slice none 0 0, .slice none 0 0] 40))
  have HG0 := Lib.hid (only_alloc (World.grownBy.refl w (some g)) (.cells #[.int .i64 0, .slice none 0 0, .slice none 0 0] 40))
  obtain ⟨r, hr⟩ : ∃ r, r = w.heap.size := ⟨_, rfl⟩
  have HRG := Lib.hid (show w.heap.size ≤ r ∧ r ≠ g by have := h.2.1; omega)
  rw [← hr] at HR0
  clear h
  go_enter Try.func17, Try.ntmps17
  go_wp2_with fail
  rw [← hr]
  generalize w.alloc (.cells #[.int .i64 0, .slice none 0 0, .slice none 0 0] 40) = w1 at *
  clear hr
  refine (range_any B g _ HS0.out 1 6 (by omega) (by omega) (by omega)).mono ?_
  rintro e w2 ⟨n, rfl, n1, n2, hs, hg⟩
  have HN := Lib.hid (And.intro n1 n2)
  have HS2 := Lib.hid hs
  have HG2 := Lib.hid (HG0.out.trans hg)
  have HR2 := Lib.hid (HR0.out.grown hg HRG.out.2)
  clear hs hg n1 n2 HS0 HG0 HR0
  go_wp2_with fail
  refine (range_any B g _ HS2.out 1 n (by omega) HN.out.1 (by have := HN.out; omega)).mono ?_
  rintro e w3 ⟨m, rfl, m1, m2, hs, hg⟩
  have HM := Lib.hid (And.intro m1 m2)
  have HS3 := Lib.hid hs
  have HG3 := Lib.hid (HG2.out.trans hg)
  have HR3 := Lib.hid (HR2.out.grown hg HRG.out.2)
  clear hs hg m1 m2 HS2 HG2 HR2
  go_wp2_with fail
  refine (rnew10_any n m _).mono ?_
  rintro e w4 ⟨X, rfl, hnw, hdr, hb⟩
  have hE : nwE10 n m = 0 := by unfold nwE10; rw [if_pos (by have := HN.out; have := HM.out; omega)]
  obtain ⟨N, hN⟩ : ∃ N : Nat, n = N := ⟨n.toNat, by have := HN.out; omega⟩
  obtain ⟨M, hM⟩ : ∃ M : Nat, m = M := ⟨m.toNat, by have := HN.out; have := HM.out; omega⟩
  have HVA := Lib.hid (show vaD (nwD n m) = 0 ∧ (nwD n m).F.length = N from by
    subst hN
    subst hM
    have h1 := HN.out
    have h2 := HM.out
    refine ⟨nw_va (by omega) (by omega) (by omega), ?_⟩
    unfold nwD
    rw [if_pos hE]
    simp)
  rw [hE]
  obtain ⟨D, hD⟩ : ∃ D, D = nwD n m := ⟨_, rfl⟩
  rw [← hD] at HVA hdr ⊢
  clear hD hE hM HM
  subst hN
  have HD0 := Lib.hid (DgAt.start (w := w) (HS3.out.below hb) hdr (hnw.low HR3.out.lt) HGW.out HRG.out.1 (HR3.out.up hb) (only_below HG3.out hb) 40)
  clear hnw hdr hb HS3 HG3 HR3
  go_upto_region 3 with (fail)
  obtain ⟨p, hp⟩ : ∃ p, p = w4.heap.size := ⟨_, rfl⟩
  rw [← hp] at HD0 ⊢
  generalize w4.alloc (.cells #[.int .i64 D.vn, .slice X.A D.l.length X.c, .slice X.A2 D.F.length X.c2] 40) = w5 at *
  clear hp
  go_wp2_with fail
  refine (n_any B g _ HD0.out.src 8 (by omega) (by omega)).mono ?_
  rintro e w6 ⟨j, rfl, j0, j1, hs, hg⟩
  obtain ⟨j, rfl⟩ := Int.eq_ofNat_of_zero_le j0
  have HD1 := Lib.hid (HD0.out.turn hs hg)
  clear hs hg j0 HD0
  go_wp2_with fail
  go_loopw [6] (fun iv wr => ∃ (j : Nat) (D : Dd) (X : Dx), iv = .int .i64 j ∧ j ≤ 8 ∧ Hid (vaD D = 0 ∧ D.F.length = N) ∧ Hid (DgAt w B g r p D X wr)) (fun iv _ => (intOf iv).toNat)
  case atStart => exact ⟨j, D, X, rfl, by omega, HVA, HD1⟩
  case round =>
    clear HVA HD1 j1
    obtain ⟨j, D, X, rfl, hj, HVA, HD⟩ := hrel
    by_cases hj0 : 0 < j
    · have hj0' : (0 : Int) < (j : Int) := by omega
      go_upto_region 6 with (fail)
      have HP0 := Lib.hid (DgN.start HD.out)
      have HP := Lib.hid HP0.out.drew
      have HCE := Lib.hid (fun W (oz : Option Nat) (k : DgN w B g r p D X oz W) => edit_any B g W k.ds.src (N : Int) HN.out.1 (by have := HN.out; omega))
      have HCA := Lib.hid (fun E W (oz : Option Nat) (k : DgN w B g r p D X oz W) => rapply10_any D X E W k.ds.dr (by have := okd_len HVA.out.1; omega))
      go_cut [7, 8] (fun s7 s8 wx => ∃ (z : Nat) (E : Ed) (Y : Dx), s7 = .pointer (some ⟨z, 0, none⟩) ∧ s8 = .int .i64 (apE D E) ∧ Hid (DgY w B g r p z D X (apD D E) Y wx))
      case first =>
        have HSK := Lib.hid (fun W' (hb : Below (p + 1) wr W') => HP0.out.k3 hb)
        have HBZ := Lib.hid (Below.refl (p + 1) wr)
        have hpl := HD.out.db.lt
        have HLF := Lib.hid (And.intro (rfl : D.l.length = D.l.length) (rfl : D.F.length = D.F.length))
        go_region_held3 (fun W => K3 p D X W)
          ((refine HSK.out _ ?_; repeat' (first | with_reducible exact HBZ.out | with_reducible refine dal ?_ ?_ | with_reducible refine dst ?_ ?_ | with_reducible refine ddr ?_ | omega | (simp; omega))))
          (first
            | (go_at_call 23; (first | (have HV := Lib.hid HP.out; with_reducible refine (HCE.out _ _ HV.out).mono ?_) | (have HV := Lib.hid (HP.out.ax 40); with_reducible refine (HCE.out _ _ HV.out).mono ?_) | (have HV := Lib.hid (HP0.out.ax 40).drew; with_reducible refine (HCE.out _ _ HV.out).mono ?_)); rintro e w3 ⟨E, rfl, -, -, -, -, hs, hg⟩; have HP := Lib.hid (HV.out.turn hs hg); have HSK := Lib.hid (fun W' (hb : Below (p + 1) w3 W') => HP.out.k3 hb); have HBZ := Lib.hid (Below.refl (p + 1) w3); have hpl := HP.out.ds.db.lt; clear HV hs hg)
            | (go_at_call 22; (first | (have HV := Lib.hid HP.out; with_reducible refine (HCA.out _ _ _ HV.out).mono ?_) | (have HV := Lib.hid (HP.out.ax 40); with_reducible refine (HCA.out _ _ _ HV.out).mono ?_)); rintro e w4 ⟨Y, rfl, hnw, hdr, hb⟩; have HY := Lib.hid (And.intro hnw hdr); have HVV := HV; have HP := Lib.hid (HV.out.below hb); have HSK := Lib.hid (fun W' (hb : Below (p + 1) w4 W') => HP.out.k3 hb); have HBZ := Lib.hid (Below.refl (p + 1) w4); have hpl := HP.out.ds.db.lt; (try (obtain ⟨⟨b0, b1, b2, bl⟩, g0, g1, g2⟩ := HP.out.xf.1.all; have hxr := HP.out.xf.2)); clear HV hnw hdr hb))
        all_goals
          go_wp2_with fail
          go_meet
          first
          | exact ⟨_, E, Y, rfl, rfl, Lib.hid (dgy_1 HP.out HY.out.2 (HY.out.1.off HVV.out.ds.db.lt) (HY.out.1.low (Nat.lt_of_lt_of_le HVV.out.ds.ne.2.2 (Nat.le_of_lt HVV.out.ds.db.lt))) 40)⟩
          | exact ⟨_, E, Y, rfl, rfl, Lib.hid (dgy_2 HP.out HY.out.2 (HY.out.1.off HVV.out.ds.db.lt) (HY.out.1.low (Nat.lt_of_lt_of_le HVV.out.ds.ne.2.2 (Nat.le_of_lt HVV.out.ds.db.lt))) (HY.out.1.off HVV.out.xf.1.lt))⟩
      case rest =>
        clear HP0 HP HCE HCA HD
        obtain ⟨z, E, Y, rfl, rfl, HY⟩ := hcut
        generalize wc = w7 at *
        have HST := Lib.hid (show ∀ D' x, apE D E = x → apD D E = D' → x = 0 → vaD D' = 0 ∧ D'.F.length = N from fun D' x e1 e2 e3 => by
          subst e1
          subst e2
          have h := apD_ok e3
          exact ⟨h.1, h.2.2.trans HVA.out.2⟩)
        obtain ⟨D', hD'⟩ : ∃ D', apD D E = D' := ⟨_, rfl⟩
        obtain ⟨x, hx⟩ : ∃ x, apE D E = x := ⟨_, rfl⟩
        have HST := Lib.hid (HST.out D' x hx hD')
        rw [hD'] at HY
        rw [hx]
        clear hD' hx
        obtain ⟨⟨x0, x1, x2, xl⟩, f0, f1, f2⟩ := HY.out.ds.db.all
        obtain ⟨⟨z0, z1, z2, zl⟩, -, -, -⟩ := HY.out.xb.all
        obtain ⟨hz1, hz2⟩ := HY.out.zn
        have hz3 : ¬ p = z := fun e => hz2 e.symm
        by_cases hx0 : x = 0
        · subst hx0
          have HV1 := Lib.hid (HST.out rfl)
          have HDS := Lib.hid (HY.out.ds.put HY.out.xr HY.out.o1 HY.out.xn)
          go_wp2
          go_roundw
          case rel => exact ⟨j - 1, D', Y, by rw [show ((j - 1 : Nat) : Int) = (j : Int) - 1 by omega], by omega, HV1, HDS⟩
          case measure => simp [intOf]; omega
        · have hx1 : (x == 0) = false := by simpa using hx0
          have HDS := Lib.hid HY.out.ds
          go_wp2
          go_roundw
          case rel => exact ⟨j - 1, D, X, by rw [show ((j - 1 : Nat) : Int) = (j : Int) - 1 by omega], by omega, HVA, HDS⟩
          case measure => simp [intOf]; omega
    · obtain rfl : j = 0 := by omega
      obtain ⟨⟨x0, x1, x2, xl⟩, f0, f1, f2⟩ := HD.out.db.all
      obtain ⟨⟨r0, r1, r2, rl⟩, rf0, rf1, rf2⟩ := HD.out.rb.all
      have hpr : ¬ p = r := by have := HD.out.ne; omega
      have hrp : ¬ r = p := fun e => hpr e.symm
      have HF := Lib.hid (HD.out.out HVA.out.1)
      go_wp2
      exact bodyPost_ret (v := dv D X) (by simp only [results, Try.results17]; go_simp <;> rfl) rfl HF.out
end Go.Proofs.Ytkecnihgjepfeaa
namespace Go.Proofs.Ytkecnihgjepfeaa
open Go.RowKit
set_option linter.unusedVariables false

/-- Block q holds these cells and may be written. -/
structure Rb (W : World) (q : Nat) (cs : List Value) : Prop where
  c : ∀ (j : Nat) (u : Value), cs[j]? = some u → W.cell? ⟨q, j, none⟩ = some u
  f : ∀ o, W.frozen? ⟨q, o, none⟩ = false
  lt : q < W.heap.size
section
variable {W W' : World} {q g : Nat} {cs : List Value}
theorem Rb.up (h : Rb W q cs) (hb : Below W.heap.size W W') : Rb W' q cs := ⟨fun j u hu => (hb.cell (p := ⟨q, j, none⟩) h.lt).trans (h.c j u hu), fun o => (hb.frozen (p := ⟨q, o, none⟩) h.lt).trans (h.f o), Nat.lt_of_lt_of_le h.lt hb.size⟩
theorem Rb.grown (h : Rb W q cs) (hg : W.grownBy W' (some g)) (hne : q ≠ g) : Rb W' q cs :=
  ⟨fun j u hu => (hg.cell_far ⟨q, j, none⟩ h.lt (fun e => by injection e with e; exact hne e)).trans (h.c j u hu), fun o => (hg.frozen_far ⟨q, o, none⟩ h.lt (fun e => by injection e with e; exact hne e)).trans (h.f o), Nat.lt_of_lt_of_le h.lt hg.size⟩
theorem Rb.other (h : Rb W q cs) {a : Addr} (hne : a.block ≠ q) (v : Value) : Rb (W.setCell a v) q cs :=
  ⟨fun j u hu => (World.cell?_setCell_other W a ⟨q, j, none⟩ v (fun e => hne (by rw [e]))).trans (h.c j u hu), fun o => by rw [World.frozen?_setCell]; exact h.f o, by simpa using h.lt⟩
theorem Rb.set (h : Rb W q cs) {j : Nat} (hj : j < cs.length) (v : Value) : Rb (W.setCell ⟨q, j, none⟩ v) q (cs.set j v) := by
  refine ⟨fun i u hu => ?_, fun o => by rw [World.frozen?_setCell]; exact h.f o, by simpa using h.lt⟩
  by_cases e : i = j
  · subst e
    rw [List.getElem?_set_self hj] at hu
    injection hu with hu
    subst hu
    exact World.cell?_setCell_same' W _ _ (by rw [h.c i _ (List.getElem?_eq_getElem hj)]; rfl)
  · rw [List.getElem?_set_ne (fun e' => e e'.symm)] at hu
    exact (World.cell?_setCell_other W _ _ _ (fun e' => by injection e' with _ e2; exact e e2.symm)).trans (h.c i u hu)
theorem Rb.of_own {base size n cap : Nat} {e : TypeId} (h : W.ownsRow base e size (.slice (some ⟨q, 0, none⟩) n cap) n cs) : Rb W q cs :=
  ⟨fun j u hu => by have := h.cells (g := q) rfl j u hu; rw [add_mk, Nat.zero_add] at this; exact this, fun o => h.frozenAt o, (h.lt q rfl).2⟩
theorem Rb.pl {l : List Sp} {c : Nat} (h : Rb W q (scs l)) (hc : l.length ≤ c) (hm : c ≤ maxLen) : Pl W W.heap.size (.slice (some ⟨q, 0, none⟩) l.length c) l :=
  ⟨_, c, rfl, hc, hm, by rw [scs_len], fun _ => ⟨q, 0, rfl, h.lt, fun j u hu => by rw [Nat.zero_add]; exact h.c j u hu⟩⟩
theorem Rb.fl {F : List Int} {c : Nat} (h : Rb W q (ics F)) (hc : F.length ≤ c) (hm : c ≤ maxLen) : Fl W W.heap.size (.slice (some ⟨q, 0, none⟩) F.length c) F :=
  ⟨_, c, rfl, hc, hm, by rw [ics_len], fun _ => ⟨q, 0, rfl, h.lt, fun j u hu => by rw [Nat.zero_add]; exact h.c j u hu⟩⟩
end
theorem ics_set {F : List Int} {k : Nat} (x : Int) : (ics F).set k (.int .i64 x) = ics (F.set k x) := by
  unfold ics
  rw [List.map_set]
  rfl
/-- The spans are copied. -/
structure Be10 (w : World) (g p q1 c1 : Nat) (d : Dd) (A2 : Option Addr) (c2 : Nat) (W : World) : Prop where
  src : SrcAt W w.heap.size g
  db : Db10 W p d ⟨some ⟨q1, 0, none⟩, c1, A2, c2⟩
  r1 : Rb W q1 (scs d.l)
  fl : Fl W W.heap.size (.slice A2 d.F.length c2) d.F
  bel : Below w.heap.size w W
  ord : w.heap.size ≤ g ∧ g < p ∧ p < q1
  cap : d.l.length ≤ c1 ∧ c1 ≤ maxLen
  off : ∀ a, A2 = some a → 0 < d.F.length → a.block ≠ p
/-- Both lists are copied. -/
structure Bf10 (w : World) (g p q1 c1 q2 c2 : Nat) (d : Dd) (W : World) : Prop where
  src : SrcAt W w.heap.size g
  db : Db10 W p d ⟨some ⟨q1, 0, none⟩, c1, some ⟨q2, 0, none⟩, c2⟩
  r1 : Rb W q1 (scs d.l)
  r2 : Rb W q2 (ics d.F)
  bel : Below w.heap.size w W
  ord : w.heap.size ≤ g ∧ g < p ∧ p < q1 ∧ q1 < q2
  cap : (d.l.length ≤ c1 ∧ c1 ≤ maxLen) ∧ d.F.length ≤ c2 ∧ c2 ≤ maxLen
theorem Db10.set1 {W : World} {p : Nat} {d : Dd} {X : Dx} (h : Db10 W p d X) (A : Option Addr) (c : Nat) : Db10 (W.setCell ⟨p, 1, none⟩ (.slice A d.l.length c)) p d ⟨A, c, X.A2, X.c2⟩ := by
  obtain ⟨c0, c1, c2, fr, lt⟩ := h
  exact ⟨by simp [go_sem, c0], by simp [go_sem, c1], by simp [go_sem, c2], fun o => by simp [go_sem, fr o], by simp [lt]⟩
theorem Db10.set2 {W : World} {p : Nat} {d : Dd} {X : Dx} (h : Db10 W p d X) (A : Option Addr) (c : Nat) : Db10 (W.setCell ⟨p, 2, none⟩ (.slice A d.F.length c)) p d ⟨X.A, X.c, A, c⟩ := by
  obtain ⟨c0, c1, c2, fr, lt⟩ := h
  exact ⟨by simp [go_sem, c0], by simp [go_sem, c1], by simp [go_sem, c2], fun o => by simp [go_sem, fr o], by simp [lt]⟩
section
variable {w W W' : World} {g p q1 c1 q2 c2 : Nat} {d : Dd} {X : Dx} {A2 : Option Addr}
theorem DsAt.one (k : DsAt w w.heap.size g p d X W) (hgp : g < p) {q : Nat} {c : Nat} (hb : Below W.heap.size W W') (hr : Rb W' q (scs d.l)) (hq : W.heap.size ≤ q) (hc : d.l.length ≤ c ∧ c ≤ maxLen) :
    Be10 w g p q c d X.A2 X.c2 (W'.setCell ⟨p, 1, none⟩ (.slice (some ⟨q, 0, none⟩) d.l.length c)) := by
  have k' := k.below hb
  have hn := k.ne
  have hp := k.db.lt
  exact ⟨k'.src.other (p := ⟨p, 1, none⟩) (show p ≠ g by omega) (show w.heap.size ≤ p by omega) _, k'.db.set1 _ _, hr.other (a := ⟨p, 1, none⟩) (show p ≠ q by omega) _, (k'.dr.fl.offp (p := ⟨p, 1, none⟩) k.op.o2 _).more (by simp), k'.bel.setCell (p := ⟨p, 1, none⟩) (show w.heap.size ≤ p by omega) _, ⟨by omega, hgp, by omega⟩, hc, k.op.o2⟩
theorem Be10.two (k : Be10 w g p q1 c1 d A2 c2 W) {q c : Nat} (hb : Below W.heap.size W W') (hr : Rb W' q (ics d.F)) (hq : W.heap.size ≤ q) (hc : d.F.length ≤ c ∧ c ≤ maxLen) :
    Bf10 w g p q1 c1 q c d (W'.setCell ⟨p, 2, none⟩ (.slice (some ⟨q, 0, none⟩) d.F.length c)) := by
  have hn := k.ord
  have hp := k.r1.lt
  exact ⟨(k.src.below hb).other (p := ⟨p, 2, none⟩) (show p ≠ g by omega) (show w.heap.size ≤ p by omega) _, (k.db.up hb).set2 _ _, (k.r1.up hb).other (a := ⟨p, 2, none⟩) (show p ≠ q1 by omega) _, hr.other (a := ⟨p, 2, none⟩) (show p ≠ q by omega) _, (k.bel.trans (hb.mono k.bel.size)).setCell (p := ⟨p, 2, none⟩) (show w.heap.size ≤ p by omega) _, ⟨by omega, by omega, by omega, by omega⟩, k.cap, hc⟩
theorem Bf10.below (k : Bf10 w g p q1 c1 q2 c2 d W) (hb : Below W.heap.size W W') : Bf10 w g p q1 c1 q2 c2 d W' :=
  ⟨k.src.below hb, k.db.up hb, k.r1.up hb, k.r2.up hb, k.bel.trans (hb.mono k.bel.size), k.ord, k.cap⟩
theorem Bf10.drew (k : Bf10 w g p q1 c1 q2 c2 d W) : Bf10 w g p q1 c1 q2 c2 d W.drew := k.below (Below.refl _ _).drew
theorem Bf10.turn (k : Bf10 w g p q1 c1 q2 c2 d W) (hs : SrcAt W' w.heap.size g) (hg : W.grownBy W' (some g)) : Bf10 w g p q1 c1 q2 c2 d W' :=
  ⟨hs, k.db.grown hg (by have := k.ord; omega), k.r1.grown hg (by have := k.ord; omega), k.r2.grown hg (by have := k.ord; omega), below_only k.bel hg k.ord.1 (Nat.le_refl _), k.ord, k.cap⟩
theorem Bf10.dr (k : Bf10 w g p q1 c1 q2 c2 d W) : DR W W.heap.size d ⟨some ⟨q1, 0, none⟩, c1, some ⟨q2, 0, none⟩, c2⟩ := ⟨k.r1.pl k.cap.1.1 k.cap.1.2, k.r2.fl k.cap.2.1 k.cap.2.2⟩
theorem Bf10.setF (k : Bf10 w g p q1 c1 q2 c2 d W) {j : Nat} (hj : j < d.F.length) (x : Int) : Bf10 w g p q1 c1 q2 c2 ⟨d.vn, d.l, d.F.set j x⟩ (W.setCell ⟨q2, j, none⟩ (.int .i64 x)) := by
  have hn := k.ord
  have h2 := k.r2.set (j := j) (by rw [ics_len]; omega) (.int .i64 x)
  rw [ics_set] at h2
  have h3 := k.db.other (a := ⟨q2, j, none⟩) (show q2 ≠ p by omega) (.int .i64 x)
  exact ⟨k.src.other (p := ⟨q2, j, none⟩) (show q2 ≠ g by omega) (show w.heap.size ≤ q2 by omega) _, ⟨h3.c0, h3.c1, by rw [show (⟨d.vn, d.l, d.F.set j x⟩ : Dd).F.length = d.F.length from List.length_set]; exact h3.c2, h3.fr, h3.lt⟩, k.r1.other (a := ⟨q2, j, none⟩) (show q2 ≠ q1 by omega) _, h2, k.bel.setCell (p := ⟨q2, j, none⟩) (show w.heap.size ≤ q2 by omega) _, k.ord, k.cap.1, by rw [show (⟨d.vn, d.l, d.F.set j x⟩ : Dd).F.length = d.F.length from List.length_set]; exact k.cap.2⟩
/-- The cells of a span. -/
theorem Bf10.sp (k : Bf10 w g p q1 c1 q2 c2 d W) {j : Nat} (hj : j < d.l.length) : W.cell? ⟨q1, j * 3, none⟩ = some (.int .i64 (sg d.l j).lo) ∧ W.cell? ⟨q1, j * 3 + 1, none⟩ = some (.int .i64 (sg d.l j).hi) ∧ W.cell? ⟨q1, j * 3 + 2, none⟩ = some (.int .i64 (sg d.l j).sh) := by
  have h : ∀ i u, i < 3 → (d.l[j]).l[i]? = some u → W.cell? ⟨q1, j * 3 + i, none⟩ = some u := fun i u hi hu => k.r1.c _ u (by rw [scs_at d.l j i hj hi]; exact hu)
  rw [sg_get hj]
  exact ⟨h 0 _ (by omega) rfl, h 1 _ (by omega) rfl, h 2 _ (by omega) rfl⟩
end
end Go.Proofs.Ytkecnihgjepfeaa
namespace Go.Proofs.Ytkecnihgjepfeaa
open Go.RowKit
set_option linter.unusedVariables false

theorem wbal {a w : World} (h : Below a.heap.size a w) (o : Obj) : Below a.heap.size a (w.alloc o) := h.alloc h.size o
theorem wbst {a w : World} (h : Below a.heap.size a w) {p : Addr} (hp : a.heap.size ≤ p.block) (v : Value) : Below a.heap.size a (w.setCell p v) := h.setCell hp v
theorem wbdr {a w : World} (h : Below a.heap.size a w) : Below a.heap.size a w.drew := h.drew
/-- The six numbers of visits. -/
def vsL (V : Nat → Int) : List Value := [.int .i64 (V 0), .int .i64 (V 1), .int .i64 (V 2), .int .i64 (V 3), .int .i64 (V 4), .int .i64 (V 5)]
theorem vsL_at (V : Nat → Int) {s : Nat} (hs : s < 6) : (vsL V)[s]? = some (.int .i64 (V s)) := by
  match s, hs with
  | 0, _ => rfl
  | 1, _ => rfl
  | 2, _ => rfl
  | 3, _ => rfl
  | 4, _ => rfl
  | 5, _ => rfl
theorem vsL_set (V : Nat → Int) {s : Nat} (hs : s < 6) : (vsL V).set s (.int .i64 (V s + 1)) = vsL (fun t => if t = s then V t + 1 else V t) := by
  match s, hs with
  | 0, _ => rfl
  | 1, _ => rfl
  | 2, _ => rfl
  | 3, _ => rfl
  | 4, _ => rfl
  | 5, _ => rfl
theorem vs_start (W : World) (t : TypeId) : Rb (W.alloc (.cells #[.int .i64 0, .int .i64 0, .int .i64 0, .int .i64 0, .int .i64 0, .int .i64 0] t)) W.heap.size (vsL fun _ => 0) := ⟨fun j u hu => by
    have e : (#[.int .i64 0, .int .i64 0, .int .i64 0, .int .i64 0, .int .i64 0, .int .i64 0] : Array Value) = (vsL fun _ => 0).toArray := rfl
    rw [e]
    simp [go_sem, hu], fun o => by simp [go_sem], by simp⟩
structure Wz (w : World) (p q v : Nat) (D : Dd) (X : Dx) (x : Wk) (V : Nat → Int) (W : World) : Prop where
  db : Db10 W p D X
  dr : DR W W.heap.size D X
  wb : Wb W q x
  vb : Rb W v (vsL V)
  ne : p ≠ q ∧ p ≠ v ∧ q ≠ v
  lo : w.heap.size ≤ p ∧ w.heap.size ≤ q ∧ w.heap.size ≤ v
  oq : DOff D X q
  ov : DOff D X v
  bel : Below w.heap.size w W
section
variable {w W W' : World} {p q v : Nat} {D : Dd} {X : Dx} {x : Wk} {V : Nat → Int}
theorem Wz.below (h : Wz w p q v D X x V W) (hb : Below W.heap.size W W') : Wz w p q v D X x V W' := ⟨h.db.up hb, h.dr.up hb, h.wb.up hb, h.vb.up hb, h.ne, h.lo, h.oq, h.ov, h.bel.trans (hb.mono h.bel.size)⟩
theorem Wz.drew (h : Wz w p q v D X x V W) : Wz w p q v D X x V W.drew := h.below (Below.refl _ _).drew
theorem Wz.put (h : Wz w p q v D X x V W) (y : Wk) : Wz w p q v D X y V ((W.setCell ⟨q, 0, none⟩ (.int .i64 y.nx)).setCell ⟨q, 1, none⟩ (.int .i64 y.cv)) :=
  ⟨(h.db.other (a := ⟨q, 0, none⟩) (Ne.symm h.ne.1) _).other (a := ⟨q, 1, none⟩) (Ne.symm h.ne.1) _, ((h.dr.offp (q := ⟨q, 0, none⟩) h.oq _).offp (q := ⟨q, 1, none⟩) h.oq _).more (by simp), h.wb.set y, (h.vb.other (a := ⟨q, 0, none⟩) h.ne.2.2 _).other (a := ⟨q, 1, none⟩) h.ne.2.2 _, h.ne, h.lo, h.oq, h.ov, bel_set2 h.bel h.lo.2.1 _ _⟩
theorem Wz.inc (h : Wz w p q v D X x V W) {s : Nat} (hs : s < 6) : Wz w p q v D X x (fun t => if t = s then V t + 1 else V t) (W.setCell ⟨v, s, none⟩ (.int .i64 (V s + 1))) := by
  have k := h.vb.set (j := s) (by simp [vsL]; omega) (.int .i64 (V s + 1))
  rw [vsL_set V hs] at k
  exact ⟨h.db.other (a := ⟨v, s, none⟩) (Ne.symm h.ne.2.1) _, (h.dr.offp (q := ⟨v, s, none⟩) h.ov _).more (by simp), h.wb.other (a := ⟨v, s, none⟩) (Ne.symm h.ne.2.2) _, k, h.ne, h.lo, h.oq, h.ov, Below.setCell h.bel (show w.heap.size ≤ (⟨v, s, none⟩ : Addr).block from h.lo.2.2) _⟩
/-- .. and a box of a further walk. -/
structure Wx (w : World) (p q v : Nat) (D : Dd) (X : Dx) (x : Wk) (V : Nat → Int) (r : Nat) (y : Wk) (W : World) : Prop where
  z : Wz w p q v D X x V W
  b : Wb W r y
  ne : r ≠ q
theorem wx_a {y : Wk} {w8 : World} (h : Wz w p q v D X x V W) (hb : Below W.drew.heap.size W.drew w8) (t : TypeId) : Wx w p q v D X x V w8.heap.size y (w8.alloc (.cells #[.int .i64 y.nx, .int .i64 y.cv] t)) := by
  have h8 := h.drew.below hb
  exact ⟨h8.below ((Below.refl _ _).alloc (Nat.le_refl _) _), Wb.start w8 y t, by have := h8.wb.lt; omega⟩
theorem wx_b {y : Wk} {w8 : World} {t : TypeId} (h : Wz w p q v D X x V W) (hb : Below (W.alloc (.cells #[.int .i64 0, .int .i64 0] t)).drew.heap.size (W.alloc (.cells #[.int .i64 0, .int .i64 0] t)).drew w8) :
    Wb w8 W.heap.size zWk ∧ Wx w p q v D X x V W.heap.size y ((w8.setCell ⟨W.heap.size, 0, none⟩ (.int .i64 y.nx)).setCell ⟨W.heap.size, 1, none⟩ (.int .i64 y.cv)) := by
  have h1 := (h.below ((Below.refl _ _).alloc (Nat.le_refl _) (.cells #[.int .i64 0, .int .i64 0] t))).drew.below hb
  have hq := h.wb.lt
  have hp := h.db.lt
  have hv := h.vb.lt
  have hB := h.bel.size
  have k : Wb w8 W.heap.size zWk := ((Wb.start W zWk t).up (Below.refl _ _).drew).up hb
  have o1 : DOff D X W.heap.size := h.dr.offs (Nat.le_refl _)
  have nq : W.heap.size ≠ q := by omega
  have np : W.heap.size ≠ p := by omega
  have nv : W.heap.size ≠ v := by omega
  exact ⟨k, ⟨⟨(h1.db.other (a := ⟨W.heap.size, 0, none⟩) np _).other (a := ⟨W.heap.size, 1, none⟩) np _, ((h1.dr.offp (q := ⟨W.heap.size, 0, none⟩) o1 _).offp (q := ⟨W.heap.size, 1, none⟩) o1 _).more (by simp), (h1.wb.other (a := ⟨W.heap.size, 0, none⟩) nq _).other (a := ⟨W.heap.size, 1, none⟩) nq _, (h1.vb.other (a := ⟨W.heap.size, 0, none⟩) nv _).other (a := ⟨W.heap.size, 1, none⟩) nv _, h1.ne, h1.lo, h1.oq, h1.ov, bel_set2 h1.bel hB _ _⟩, k.set y, nq⟩⟩
end
end Go.Proofs.Ytkecnihgjepfeaa
namespace Go.Proofs.Ytkecnihgjepfeaa
open Go.RowKit
theorem bel_drewN {B : Nat} {a w : World} (h : Below B a w) (n : Nat) : Below B a (w.drewN n) := ⟨h.os, h.tape, h.output, h.size, h.block⟩
end Go.Proofs.Ytkecnihgjepfeaa
