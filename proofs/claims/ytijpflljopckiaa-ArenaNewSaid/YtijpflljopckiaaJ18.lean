/- What is proved here: ref10.New by a contract; Directory of the statements' base makes a valid directory; what a statement about built directories holds: a source, a directory in a box, its lists copied and changed in one place; cuts of a list of leases: what the walk gets, and how it reads; slices.Clone, slices.Grow, slices.Concat of leases, lease.without by contracts. -/
import Derived.Test.YtijpflljopckiaaJ15
import Derived.Deep.AppendLies
import Derived.WalkSpells
import Derived.Deep.RegionHeld3
import Derived.Test.YtijpflljopckiaaJ17
import Derived.Test.YtijpflljopckiaaJ13
import Derived.Test.YtijpflljopckiaaRows
import Derived.Test.YtijpflljopckiaaJ02
import Derived.WalkKit
import Derived.Outline
import Derived.IntWalk
import Derived.Deep.DrawnRows
import Derived.Deep.QuietTactic
import Derived.BigQuiet
import Derived.Deep.DeepCutAuto
import Derived.Test.YtijpflljopckiaaJ08
import Derived.Laws.Slices
import Derived.Test.YtijpflljopckiaaJ14
import Derived.Lib.AppendZerosOnto
import Derived.Shelf.Spec.SlicesGrow
namespace Go.Proofs.Ytijpflljopckiaa
open Go.RowKit
set_option linter.unusedVariables false

section
variable {w W W' : World} {r y : Nat} {d : Dd} {X : Dx}
/-- A number is appended. -/
theorem NA.appF (h : NA w r y d X W) {v : Int} {g cap : Nat} (ho : W'.ownsRow (r + 1) 3 1 (.slice (some ⟨g, 0, none⟩) (d.F.length + 1) cap) (d.F.length + 1) (ics d.F ++ [.int .i64 v])) (hg : W.grownBy W' (Value.slice X.A2 d.F.length X.c2).ownBlock) (hat : (Value.slice X.A2 d.F.length X.c2).ownBlock = some g ∨ g = W.heap.size) :
    (W'.cell? ⟨y, 2, none⟩ = some (.slice X.A2 d.F.length X.c2) ∧ W'.frozen? ⟨y, 2, none⟩ = false ∧ y < W'.heap.size) ∧ NA w r y ⟨d.vn, d.l, d.F ++ [v]⟩ ⟨X.A, X.c, some ⟨g, 0, none⟩, cap⟩ (W'.setCell ⟨y, 2, none⟩ (.slice (some ⟨g, 0, none⟩) (d.F.length + 1) cap)) := by
  have hn := h.ne
  have hrl := h.rb.lt
  have hor : (Value.slice X.A2 d.F.length X.c2).ownBlock ≠ some r := fun e => by have := (h.of.lt r e).1; omega
  have hoy : (Value.slice X.A2 d.F.length X.c2).ownBlock ≠ some y := fun e => h.d3 y e rfl
  have hx := h.xb.grownO hg hoy
  have hr := h.rb.grownO hg hor
  have hf := own_farO h.ol hg fun k hk e => h.d1 k hk e
  have hgy : g ≠ y := by
    rcases hat with e | e
    · exact h.d3 g e
    · have := h.xb.lt; omega
  have hb : Below w.heap.size w W' := h.bel.grown hg h.bel.size fun k hk => by have := (h.of.lt k hk).1; omega
  refine ⟨⟨hx.c2, hx.fr 2, hx.lt⟩, hr.other (a := ⟨y, 2, none⟩) (by show y ≠ r; omega) _, ⟨?_, ?_, ?_, fun o => ?_, ?_⟩, own_oth hf (fun k hk => h.d2 k hk) _, ?_, fun k hk e => ?_, h.d2, fun k hk => ?_, h.ne, hb.setCell (p := ⟨y, 2, none⟩) (show w.heap.size ≤ y by omega) _⟩
  · simpa [go_sem] using hx.c0
  · simpa [go_sem] using hx.c1
  · simp [go_sem, hx.c2]
  · simpa [go_sem] using hx.fr o
  · simpa using hx.lt
  · have k := own_oth ho (a := ⟨y, 2, none⟩) (fun k hk => by simp [Value.ownBlock] at hk; subst hk; exact hgy) (.slice (some ⟨g, 0, none⟩) (d.F.length + 1) cap)
    have e1 : ics (d.F ++ [v]) = ics d.F ++ [.int .i64 v] := by simp [ics, i64v]
    show World.ownsRow _ _ _ _ (.slice (some ⟨g, 0, none⟩) (d.F ++ [v]).length cap) (d.F ++ [v]).length (ics (d.F ++ [v]))
    rw [e1, List.length_append, List.length_singleton]
    exact k
  · simp [Value.ownBlock] at e
    subst e
    rcases hat with e2 | e2
    · exact h.d1 _ hk e2
    · have := (h.ol.lt _ hk).2; omega
  · simp [Value.ownBlock] at hk
    subst hk
    exact hgy
end

set_option maxHeartbeats 4000000 in
set_option maxRecDepth 20000 in
theorem rnew10_any (s l : Int) (w : World) : Calls Try.prog 58 #[.int .i64 s, .int .i64 l] w (DE w.heap.size w (nwD s l) (nwE10 s l)) := by
  obtain ⟨r, hr⟩ : ∃ r, r = w.heap.size := ⟨_, rfl⟩
  by_cases h : 1 ≤ s ∧ s ≤ 6 ∧ 1 ≤ l ∧ l ≤ s
  · obtain ⟨n, hn⟩ : ∃ n : Nat, s = n := ⟨s.toNat, by omega⟩
    obtain ⟨m, hm⟩ : ∃ m : Nat, l = m := ⟨l.toNat, by omega⟩
    subst hn
    subst hm
    have e1 : nwE10 n m = 0 := by unfold nwE10; rw [if_pos h]
    have e2 : nwD n m = ⟨1, nwL m m, List.replicate n (-1)⟩ := by unfold nwD; rw [e1]; simp
    have HM := Lib.hid (show (1 ≤ n ∧ n ≤ 6) ∧ (1 ≤ m ∧ m ≤ n) by omega)
    rw [e1, e2]
    have qc1 : ¬ (m : Int) < 1 := by omega
    have qc2 : ¬ (n : Int) < (m : Int) := by omega
    have qc3 : ¬ (6 : Int) < (n : Int) := by omega
    clear e1 e2 h
    obtain ⟨i0, hi0, hz0⟩ := Option.map_eq_some_iff.1 info_sp
    simp only [Prod.mk.injEq] at hz0
    have HI := Lib.hid hi0
    have HZ := Lib.hid hz0
    clear hi0 hz0
    obtain ⟨j0, hi0, hz0⟩ := Option.map_eq_some_iff.1 info_ni
    simp only [Prod.mk.injEq] at hz0
    have HJ := Lib.hid hi0
    have HY := Lib.hid hz0
    clear hi0 hz0
    have HR0 := Lib.hid hr
    obtain ⟨y, hy⟩ : ∃ y, y = w.heap.size + 1 := ⟨_, rfl⟩
    have HN := Lib.hid (show NA w r y ⟨1, [], []⟩ ⟨none, 0, none, 0⟩ ((w.alloc (.cells #[.int .i64 0, .slice none 0 0, .slice none 0 0] 34)).alloc (.cells #[.int .i64 1, .slice none 0 0, .slice none 0 0] 34)) from by
      have k := NA.start (w := w) (W := w.alloc (.cells #[.int .i64 0, .slice none 0 0, .slice none 0 0] 34)) (F := []) (A2 := none) (c2 := 0) hr ((Below.refl _ _).alloc (Nat.le_refl _) _) (by rw [hr]; exact Db10.zero w _) (World.ownsRow_nil _ _ _ _) 34
      have hs : (w.alloc (.cells #[.int .i64 0, .slice none 0 0, .slice none 0 0] 34)).heap.size = y := by rw [hy]; simp
      rw [hs] at k
      exact k)
    go_enter Try.func58, Try.ntmps58
    go_wp2_with fail
    rw [← hy, ← hr]
    generalize (w.alloc (.cells #[.int .i64 0, .slice none 0 0, .slice none 0 0] 34)).alloc (.cells #[.int .i64 1, .slice none 0 0, .slice none 0 0] 34) = w4 at *
    clear hr hy
    go_loopw [7] (fun iv wr => ∃ (k : Nat) (A : Option Addr) (c : Nat), iv = .int .i64 k ∧ k ≤ m ∧ Hid (NA w r y ⟨1, nwL m k, []⟩ ⟨A, c, none, 0⟩ wr)) (fun iv _ => m - (intOf iv).toNat)
    case atStart => exact ⟨0, none, 0, rfl, Nat.zero_le _, HN⟩
    case round =>
      obtain ⟨k, A, c, rfl, hkm, HA⟩ := hrel
      by_cases hk : k < m
      · obtain ⟨L, hL⟩ : ∃ L, L = nwL m k := ⟨_, rfl⟩
        rw [← hL] at HA
        have HL := Lib.hid (show L.length = k ∧ nwL m (k + 1) = L ++ [⟨(k : Int) * 65536 / m, ((k : Int) + 1) * 65536 / m - 1, k⟩] from ⟨by rw [hL, nwL_len], by rw [hL]; exact nwL_succ m k⟩)
        clear hL
        have hk' : (k : Int) < (m : Int) := by omega
        clear hkm hk
        have h56 : k ≤ 5 ∧ m ≤ 6 := by have := HM.out; omega
        have HL6 := Lib.hid h56
        have hw1 : IntKind.i64.wrap ((k : Int) * 65536) = (k : Int) * 65536 := IntWalk.i64_in _ (by omega)
        have hw2 : IntKind.i64.wrap ((k : Int) + 1) = (k : Int) + 1 := IntWalk.i64_in _ (by omega)
        have hw3 : IntKind.i64.wrap (((k : Int) + 1) * 65536) = ((k : Int) + 1) * 65536 := IntWalk.i64_in _ (by omega)
        obtain ⟨a, ha⟩ : ∃ a, a = ((k : Int) * 65536) / (m : Int) := ⟨_, rfl⟩
        obtain ⟨b, hb⟩ : ∃ b, b = (((k : Int) + 1) * 65536) / (m : Int) := ⟨_, rfl⟩
        have ht1 : ((k : Int) * 65536).tdiv (m : Int) = a := by rw [ha]; exact Int.tdiv_eq_ediv_of_nonneg (by omega)
        have ht2 : (((k : Int) + 1) * 65536).tdiv (m : Int) = b := by rw [hb]; exact Int.tdiv_eq_ediv_of_nonneg (by omega)
        have hra : 0 ≤ a ∧ a ≤ 400000 := by
          rw [ha]
          exact ⟨Int.ediv_nonneg (by omega) (by omega), Int.le_trans (Int.ediv_le_self _ (by omega)) (by omega)⟩
        have hrb : 0 ≤ b ∧ b ≤ 400000 := by
          rw [hb]
          exact ⟨Int.ediv_nonneg (by omega) (by omega), Int.le_trans (Int.ediv_le_self _ (by omega)) (by omega)⟩
        have hw4 : IntKind.i64.wrap a = a := IntWalk.i64_in _ (by omega)
        have hw5 : IntKind.i64.wrap b = b := IntWalk.i64_in _ (by omega)
        have hw6 : IntKind.i64.wrap (b - 1) = b - 1 := IntWalk.i64_in _ (by omega)
        rw [← ha, ← hb] at HL
        have hm0 : ¬ (m : Int) = 0 := by omega
        have hm1 : ((m : Int) == 0) = false := by simpa using hm0
        have hm2 : ¬ m = 0 := by omega
        have hm3 : ((m == 0) : Bool) = false := by simpa using hm2
        clear ha hb h56
        obtain ⟨⟨x0, x1, x2, xl⟩, f0, f1, f2⟩ := HA.out.xb.all
        dsimp only at x0 x1 x2
        clear x0 x2 f0 f2
        go_wp2
        go_region_law (refine step_append_lies _ (by rfl) _ _ _ (by rfl) (r + 1) 115 i0 _ 3 24 Try.underlying32 HI.out HZ.out.1 HZ.out.2.1 HZ.out.2.2 rfl (by omega) (.slice A L.length c) L.length (scs L) (by rfl) (HA.out.drew.alloc _).ol ⟨wr.heap.size, 0, none⟩ 1 1 (Sp.mk a (b - 1) k).l (by rfl) (by rfl) (World.news_of_block (cs := (Sp.mk a (b - 1) k).l.toArray) (t := 115) (fr := (0, 0)) (heap_alloc_new wr.drew _)) (Sp.l_one _) (by omega) (by have := HL.out; have := HL6.out; unfold maxLen; omega) (by have := HL.out; have := HL6.out; omega) (Nat.succ_le_of_lt (HA.out.drew.alloc _).rb.lt) _ rfl ?_; intro g1 cp1 w8 hown1 hgrow1 hat1 hlt1; have HP8 := Lib.hid ((HA.out.drew.alloc _).app (S := Sp.mk a (b - 1) k) hown1 hgrow1 hat1); obtain ⟨z1, f1, xl⟩ := HP8.out.1; clear hown1 hgrow1 hat1 hlt1)
        all_goals
          go_wp2
          exact ⟨⟨k + 1, _, _, by rw [Int.natCast_add]; rfl, by omega, Lib.hid (by rw [HL.out.2]; exact HP8.out.2)⟩, by simp [intOf]; omega⟩
      · have hke : k = m := by omega
        subst hke
        have hkk : ¬ (k : Int) < (k : Int) := by omega
        obtain ⟨L, hL⟩ : ∃ L, L = nwL k k := ⟨_, rfl⟩
        have HA0 := Lib.hid (show NA w r y ⟨1, L, []⟩ ⟨A, c, none, 0⟩ wr by rw [hL]; exact HA.out)
        have HL := Lib.hid hL
        clear hkm hk HA hL
        go_wp2
        generalize wr = w5 at *
        go_loopw [8] (fun iv wr => ∃ (j : Nat) (A2 : Option Addr) (c2 : Nat), iv = .int .i64 j ∧ j ≤ n ∧ Hid (NA w r y ⟨1, L, List.replicate j (-1)⟩ ⟨A, c, A2, c2⟩ wr)) (fun iv _ => n - (intOf iv).toNat)
        case atStart => exact ⟨0, none, 0, rfl, Nat.zero_le _, HA0⟩
        case round =>
          obtain ⟨j, A2, c2, rfl, hjn, HB⟩ := hrel
          by_cases hj : j < n
          · obtain ⟨F, hF⟩ : ∃ F, F = List.replicate j (-1 : Int) := ⟨_, rfl⟩
            rw [← hF] at HB
            have HF := Lib.hid (show F.length = j ∧ List.replicate (j + 1) (-1 : Int) = F ++ [-1] from ⟨by rw [hF]; simp, by rw [hF]; exact List.replicate_succ'⟩)
            clear hF
            have HL6 := Lib.hid (show j ≤ 5 by have := HM.out; omega)
            have hj' : (j : Int) < (n : Int) := by omega
            have hw2 : IntKind.i64.wrap ((j : Int) + 1) = (j : Int) + 1 := IntWalk.i64_in _ (by omega)
            clear hjn hj
            obtain ⟨⟨x0, x1, x2, xl⟩, f0, f1, f2⟩ := HB.out.xb.all
            dsimp only at x0 x1 x2
            clear x0 x1 f0 f1
            go_wp2_with (at_builtin; refine wpList_append_lies _ rfl _ _ _ rfl (r + 1) 3 j0 _ 1 8 Try.underlying22 HJ.out HY.out.1 HY.out.2.1 HY.out.2.2 rfl (by omega) (.slice A2 F.length c2) F.length (ics F) (by rfl) (HB.out.alloc _).of ⟨wr.heap.size, 0, none⟩ 1 1 [.int .i64 (-1)] (by rfl) (by rfl) (World.news_of_block (cs := #[.int .i64 (-1)]) (t := 3) (fr := (0, 0)) (heap_alloc_new wr _)) (fun u hu => by simp at hu; subst hu; rfl) (by omega) (by have := HF.out; have := HL6.out; unfold maxLen; omega) (by have := HF.out; have := HL6.out; omega) (Nat.succ_le_of_lt (HB.out.alloc _).rb.lt) _ rfl ?_; intro g1 cp1 w8 hown1 hgrow1 hat1 hlt1; have HP8 := Lib.hid ((HB.out.alloc _).appF (v := -1) hown1 hgrow1 hat1); obtain ⟨z1, f2, xl⟩ := HP8.out.1; clear hown1 hgrow1 hat1 hlt1)
            exact ⟨⟨j + 1, _, _, by rw [Int.natCast_add]; rfl, by omega, Lib.hid (by rw [HF.out.2]; exact HP8.out.2)⟩, by simp [intOf]; omega⟩
          · have hje : j = n := by omega
            subst hje
            have hjj : ¬ (j : Int) < (j : Int) := by omega
            obtain ⟨F, hF⟩ : ∃ F, F = List.replicate j (-1 : Int) := ⟨_, rfl⟩
            rw [← hF] at HB
            have HO := Lib.hid (show DE w.heap.size w ⟨1, nwL k k, List.replicate j (-1)⟩ 0 (.returned (.tuple #[dv ⟨1, L, F⟩ ⟨A, c, A2, c2⟩, .int .i64 0])) _ from by rw [← hF, ← HL.out]; exact HB.out.out)
            obtain ⟨⟨x0, x1, x2, xl⟩, f0, f1, f2⟩ := HB.out.xb.all
            obtain ⟨⟨r0, r1, r2, rl⟩, g0, g1, g2⟩ := HB.out.rb.all
            have hry : ¬ r = y ∧ ¬ y = r := by have := HB.out.ne; omega
            obtain ⟨hry1, hry2⟩ := hry
            dsimp only at x0 x1 x2
            clear hjn hj hF
            go_wp2
            exact bodyPost_ret (v := .tuple #[dv ⟨1, L, F⟩ ⟨A, c, A2, c2⟩, .int .i64 0]) (by simp only [results, Try.results58]; go_simp <;> rfl) rfl HO.out
  · have HEE := Lib.hid (show nwE10 s l = 1 ∧ nwD s l = zD10 from by
      have e1 : nwE10 s l = 1 := by unfold nwE10; rw [if_neg h]
      exact ⟨e1, by unfold nwD; rw [e1]; rfl⟩)
    obtain ⟨E1, hE1⟩ : ∃ E1, E1 = nwE10 s l := ⟨_, rfl⟩
    obtain ⟨D1, hD1⟩ : ∃ D1, D1 = nwD s l := ⟨_, rfl⟩
    rw [← hE1, ← hD1] at HEE
    rw [← hE1, ← hD1]
    clear hE1 hD1
    have HO1 := Lib.hid (new_out0 (w := w) (W := w.alloc (.cells #[.int .i64 0, .slice none 0 0, .slice none 0 0] 34)) rfl ((Below.refl _ _).alloc (Nat.le_refl _) _) 1)
    have hq : l < 1 ∨ (1 ≤ l ∧ s < l) ∨ (1 ≤ l ∧ l ≤ s ∧ 6 < s) := by omega
    clear h hr
    rcases hq with q1 | ⟨q1, q2⟩ | ⟨q1, q2, q3⟩
    all_goals
      go_enter Try.func58, Try.ntmps58
      go_wp2
      exact bodyPost_ret (v := .tuple #[.agg #[.int .i64 0, .slice none 0 0, .slice none 0 0], .int .i64 1]) (by simp only [results, Try.results58]; go_simp <;> rfl) rfl (by rw [HEE.out.1, HEE.out.2]; simpa [go_sem] using HO1.out)
end Go.Proofs.Ytijpflljopckiaa
namespace Go.Proofs.Ytijpflljopckiaa
open Go.RowKit
set_option linter.unusedVariables false

/-- A source turned and a valid directory in new lists as a result. -/
def SrDir (B g : Nat) (w : World) (e : Ending) (w' : World) : Prop := ∃ (D : Dd) (X : Dx), e = .returned (dv D X) ∧ vaD D = 0 ∧ DR w' w'.heap.size D X ∧ X.nw w.heap.size ∧ SrcAt w' B g ∧ w.grownBy w' (some g)
/-- A source and a directory in a box of the call's own, its lists new. -/
structure DgAt (w : World) (B g r p : Nat) (d : Dd) (X : Dx) (W : World) : Prop where
  src : SrcAt W B g
  db : Db10 W p d X
  dr : DR W W.heap.size d X
  op : DOff d X p
  nw : X.nw (r + 1)
  ne : g < w.heap.size ∧ w.heap.size ≤ r ∧ r < p
  rb : Db10 W r zD10 zDx
  gr : w.grownBy W (some g)
section
variable {w W W' : World} {B g r p : Nat} {d : Dd} {X : Dx}
theorem DgAt.og (h : DgAt w B g r p d X W) : DOff d X g := h.nw.off (by have := h.ne; omega)
theorem DgAt.below (h : DgAt w B g r p d X W) (hb : Below W.heap.size W W') : DgAt w B g r p d X W' :=
  ⟨h.src.below hb, h.db.up hb, h.dr.up hb, h.op, h.nw, h.ne, h.rb.up hb, only_below h.gr hb⟩
theorem DgAt.turn (h : DgAt w B g r p d X W) (hs : SrcAt W' B g) (hg : W.grownBy W' (some g)) : DgAt w B g r p d X W' :=
  ⟨hs, h.db.grown hg (by have := h.ne; omega), (h.dr.grownO h.og (Nat.le_refl _) hg).more hg.size, h.op, h.nw, h.ne, h.rb.grown hg (by have := h.ne; omega), h.gr.trans hg⟩
/-- Another directory is stored. -/
theorem DgAt.put (h : DgAt w B g r p d X W) {d' : Dd} {Y : Dx} (hr : DR W W.heap.size d' Y) (o1 : DOff d' Y p) (hn : Y.nw (r + 1)) :
    DgAt w B g r p d' Y (((W.setCell ⟨p, 0, none⟩ (.int .i64 d'.vn)).setCell ⟨p, 1, none⟩ (.slice Y.A d'.l.length Y.c)).setCell ⟨p, 2, none⟩ (.slice Y.A2 d'.F.length Y.c2)) := by
  have hne := h.ne
  have hg : p ≠ g := by omega
  have hB : B ≤ p := by have := h.src.1; omega
  have hP : w.heap.size ≤ p := by omega
  exact ⟨((h.src.other (p := ⟨p, 0, none⟩) hg hB _).other (p := ⟨p, 1, none⟩) hg hB _).other (p := ⟨p, 2, none⟩) hg hB _, h.db.set d' Y, (((hr.offp (q := ⟨p, 0, none⟩) o1 _).offp (q := ⟨p, 1, none⟩) o1 _).offp (q := ⟨p, 2, none⟩) o1 _).more (by simp), o1, hn, h.ne, ((h.rb.other (a := ⟨p, 0, none⟩) (show p ≠ r by omega) _).other (a := ⟨p, 1, none⟩) (show p ≠ r by omega) _).other (a := ⟨p, 2, none⟩) (show p ≠ r by omega) _,
    only_set (only_set (only_set h.gr (p := ⟨p, 0, none⟩) (.inr hP) _) (p := ⟨p, 1, none⟩) (.inr hP) _) (p := ⟨p, 2, none⟩) (.inr hP) _⟩
theorem DgAt.other (h : DgAt w B g r p d X W) {a : Addr} (h1 : a.block ≠ p) (h2 : a.block ≠ g) (h3 : DOff d X a.block) (h4 : w.heap.size ≤ a.block) (h5 : a.block ≠ r) (v : Value) : DgAt w B g r p d X (W.setCell a v) :=
  ⟨h.src.other h2 (by have := h.src.1; have := h.ne; omega) v, h.db.other h1 v, (h.dr.offp (q := a) h3 v).more (by simp), h.op, h.nw, h.ne, h.rb.other h5 v, only_set h.gr (p := a) (.inr h4) v⟩
end
/-- .. and the box of the next directory, once it is made. -/
structure DgN (w : World) (B g r p : Nat) (d : Dd) (X : Dx) (oz : Option Nat) (W : World) : Prop where
  ds : DgAt w B g r p d X W
  zb : ∀ z, oz = some z → Db10 W z zD10 zDx ∧ z ≠ g ∧ z ≠ p ∧ w.heap.size ≤ z ∧ DOff d X z ∧ z ≠ r
section
variable {w W W' : World} {B g r p : Nat} {d : Dd} {X : Dx} {oz : Option Nat}
theorem DgN.start (h : DgAt w B g r p d X W) : DgN w B g r p d X none W := ⟨h, by simp⟩
theorem DgN.below (h : DgN w B g r p d X oz W) (hb : Below W.heap.size W W') : DgN w B g r p d X oz W' := ⟨h.ds.below hb, fun z e => ⟨(h.zb z e).1.up hb, (h.zb z e).2⟩⟩
theorem DgN.drew (h : DgN w B g r p d X oz W) : DgN w B g r p d X oz W.drew := h.below (Below.refl _ _).drew
theorem DgN.turn (h : DgN w B g r p d X oz W) (hs : SrcAt W' B g) (hg : W.grownBy W' (some g)) : DgN w B g r p d X oz W' := ⟨h.ds.turn hs hg, fun z e => ⟨(h.zb z e).1.grown hg (h.zb z e).2.1, (h.zb z e).2⟩⟩
theorem DgN.k3 (h : DgN w B g r p d X oz W) {u : World} (hb : Below (p + 1) W u) : K3 p d X u := by
  obtain ⟨⟨x0, x1, x2, xl⟩, -⟩ := h.ds.db.all
  exact ⟨(hb.cell (p := ⟨p, 0, none⟩) (Nat.lt_succ_self p)).trans x0, (hb.cell (p := ⟨p, 1, none⟩) (Nat.lt_succ_self p)).trans x1, (hb.cell (p := ⟨p, 2, none⟩) (Nat.lt_succ_self p)).trans x2⟩
end
section
variable {w W W' : World} {B g r p : Nat} {d d' : Dd} {X Y : Dx}
end
theorem DgAt.start {w W : World} {B g r : Nat} {d : Dd} {X : Dx} (hs : SrcAt W B g) (hd : DR W W.heap.size d X) (hn : X.nw (r + 1)) (hg : g < w.heap.size) (hr : w.heap.size ≤ r) (hb : Db10 W r zD10 zDx) (hgr : w.grownBy W (some g)) (t : TypeId) :
    DgAt w B g r W.heap.size d X (W.alloc (.cells #[.int .i64 d.vn, .slice X.A d.l.length X.c, .slice X.A2 d.F.length X.c2] t)) :=
  ⟨hs.alloc _, Db10.start W d X t, hd.alloc _, hd.offs (Nat.le_refl _), hn, ⟨hg, hr, hb.lt⟩, hb.alloc _, only_alloc hgr _⟩
/-- The directory as the result. -/
theorem DgAt.out {w W : World} {B g r p : Nat} {d : Dd} {X : Dx} (h : DgAt w B g r p d X W) (hv : vaD d = 0) :
    SrDir B g w (.returned (dv d X)) (((W.setCell ⟨r, 0, none⟩ (.int .i64 d.vn)).setCell ⟨r, 1, none⟩ (.slice X.A d.l.length X.c)).setCell ⟨r, 2, none⟩ (.slice X.A2 d.F.length X.c2)) := by
  have hne := h.ne
  have ho : DOff d X r := h.nw.off (Nat.lt_succ_self r)
  have hB : B ≤ r := by have := h.src.1; omega
  have hg : r ≠ g := by omega
  exact ⟨d, X, rfl, hv, (((h.dr.offp (q := ⟨r, 0, none⟩) ho _).offp (q := ⟨r, 1, none⟩) ho _).offp (q := ⟨r, 2, none⟩) ho _).more (by simp), h.nw.low (by omega),
    ((h.src.other (p := ⟨r, 0, none⟩) hg hB _).other (p := ⟨r, 1, none⟩) hg hB _).other (p := ⟨r, 2, none⟩) hg hB _,
    only_set (only_set (only_set h.gr (p := ⟨r, 0, none⟩) (.inr hne.2.1) _) (p := ⟨r, 1, none⟩) (.inr hne.2.1) _) (p := ⟨r, 2, none⟩) (.inr hne.2.1) _⟩

end Go.Proofs.Ytijpflljopckiaa
namespace Go.Proofs.Ytijpflljopckiaa
open Go.RowKit
set_option linter.unusedVariables false

/-- Block q holds these cells and may be written. -/
structure Rb (W : World) (q : Nat) (cs : List Value) : Prop where
  c : ∀ (j : Nat) (u : Value), cs[j]? = some u → W.cell? ⟨q, j, none⟩ = some u
  f : ∀ o, W.frozen? ⟨q, o, none⟩ = false
  lt : q < W.heap.size
section
variable {W W' : World} {q g : Nat} {cs : List Value}
theorem Rb.up (h : Rb W q cs) (hb : Below W.heap.size W W') : Rb W' q cs := ⟨fun j u hu => (hb.cell (p := ⟨q, j, none⟩) h.lt).trans (h.c j u hu), fun o => (hb.frozen (p := ⟨q, o, none⟩) h.lt).trans (h.f o), Nat.lt_of_lt_of_le h.lt hb.size⟩
theorem Rb.grown (h : Rb W q cs) (hg : W.grownBy W' (some g)) (hne : q ≠ g) : Rb W' q cs :=
  ⟨fun j u hu => (hg.cell_far ⟨q, j, none⟩ h.lt (fun e => by injection e with e; exact hne e)).trans (h.c j u hu), fun o => (hg.frozen_far ⟨q, o, none⟩ h.lt (fun e => by injection e with e; exact hne e)).trans (h.f o), Nat.lt_of_lt_of_le h.lt hg.size⟩
theorem Rb.other (h : Rb W q cs) {a : Addr} (hne : a.block ≠ q) (v : Value) : Rb (W.setCell a v) q cs :=
  ⟨fun j u hu => (World.cell?_setCell_other W a ⟨q, j, none⟩ v (fun e => hne (by rw [e]))).trans (h.c j u hu), fun o => by rw [World.frozen?_setCell]; exact h.f o, by simpa using h.lt⟩
theorem Rb.set (h : Rb W q cs) {j : Nat} (hj : j < cs.length) (v : Value) : Rb (W.setCell ⟨q, j, none⟩ v) q (cs.set j v) := by
  refine ⟨fun i u hu => ?_, fun o => by rw [World.frozen?_setCell]; exact h.f o, by simpa using h.lt⟩
  by_cases e : i = j
  · subst e
    rw [List.getElem?_set_self hj] at hu
    injection hu with hu
    subst hu
    exact World.cell?_setCell_same' W _ _ (by rw [h.c i _ (List.getElem?_eq_getElem hj)]; rfl)
  · rw [List.getElem?_set_ne (fun e' => e e'.symm)] at hu
    exact (World.cell?_setCell_other W _ _ _ (fun e' => by injection e' with _ e2; exact e e2.symm)).trans (h.c i u hu)
theorem Rb.of_own {base size n cap : Nat} {e : TypeId} (h : W.ownsRow base e size (.slice (some ⟨q, 0, none⟩) n cap) n cs) : Rb W q cs :=
  ⟨fun j u hu => by have := h.cells (g := q) rfl j u hu; rw [add_mk, Nat.zero_add] at this; exact this, fun o => h.frozenAt o, (h.lt q rfl).2⟩
theorem Rb.pl {l : List Sp} {c : Nat} (h : Rb W q (scs l)) (hc : l.length ≤ c) (hm : c ≤ maxLen) : Pl W W.heap.size (.slice (some ⟨q, 0, none⟩) l.length c) l :=
  ⟨_, c, rfl, hc, hm, by rw [scs_len], fun _ => ⟨q, 0, rfl, h.lt, fun j u hu => by rw [Nat.zero_add]; exact h.c j u hu⟩⟩
theorem Rb.fl {F : List Int} {c : Nat} (h : Rb W q (ics F)) (hc : F.length ≤ c) (hm : c ≤ maxLen) : Fl W W.heap.size (.slice (some ⟨q, 0, none⟩) F.length c) F :=
  ⟨_, c, rfl, hc, hm, by rw [ics_len], fun _ => ⟨q, 0, rfl, h.lt, fun j u hu => by rw [Nat.zero_add]; exact h.c j u hu⟩⟩
end
theorem own_rb {W : World} {base size n : Nat} {e : TypeId} {v : Value} {cs : List Value} (ho : W.ownsRow base e size v n cs) (h0 : 0 < n) : ∃ q cap, v = .slice (some ⟨q, 0, none⟩) n cap ∧ base ≤ q ∧ n ≤ cap ∧ cap ≤ maxLen ∧ Rb W q cs := by
  rcases ho.2 with ⟨_, h⟩ | ⟨q, cap, cur, hv, hq, _, hl, hm, _⟩
  · omega
  · subst hv
    exact ⟨q, cap, rfl, hq, hl, hm, Rb.of_own ho⟩
/-- The spans are copied. -/
structure Be10 (w : World) (g p q1 c1 : Nat) (d : Dd) (A2 : Option Addr) (c2 : Nat) (W : World) : Prop where
  src : SrcAt W w.heap.size g
  db : Db10 W p d ⟨some ⟨q1, 0, none⟩, c1, A2, c2⟩
  r1 : Rb W q1 (scs d.l)
  fl : Fl W W.heap.size (.slice A2 d.F.length c2) d.F
  bel : Below w.heap.size w W
  ord : w.heap.size ≤ g ∧ g < p ∧ p < q1
  cap : d.l.length ≤ c1 ∧ c1 ≤ maxLen
  off : ∀ a, A2 = some a → 0 < d.F.length → a.block ≠ p
/-- Both lists are copied. -/
structure Bf10 (w : World) (g p q1 c1 q2 c2 : Nat) (d : Dd) (W : World) : Prop where
  src : SrcAt W w.heap.size g
  db : Db10 W p d ⟨some ⟨q1, 0, none⟩, c1, some ⟨q2, 0, none⟩, c2⟩
  r1 : Rb W q1 (scs d.l)
  r2 : Rb W q2 (ics d.F)
  bel : Below w.heap.size w W
  ord : w.heap.size ≤ g ∧ g < p ∧ p < q1 ∧ q1 < q2
  cap : (d.l.length ≤ c1 ∧ c1 ≤ maxLen) ∧ d.F.length ≤ c2 ∧ c2 ≤ maxLen
theorem Db10.set1 {W : World} {p : Nat} {d : Dd} {X : Dx} (h : Db10 W p d X) (A : Option Addr) (c : Nat) : Db10 (W.setCell ⟨p, 1, none⟩ (.slice A d.l.length c)) p d ⟨A, c, X.A2, X.c2⟩ := by
  obtain ⟨c0, c1, c2, fr, lt⟩ := h
  exact ⟨by simp [go_sem, c0], by simp [go_sem, c1], by simp [go_sem, c2], fun o => by simp [go_sem, fr o], by simp [lt]⟩
theorem Db10.set2 {W : World} {p : Nat} {d : Dd} {X : Dx} (h : Db10 W p d X) (A : Option Addr) (c : Nat) : Db10 (W.setCell ⟨p, 2, none⟩ (.slice A d.F.length c)) p d ⟨X.A, X.c, A, c⟩ := by
  obtain ⟨c0, c1, c2, fr, lt⟩ := h
  exact ⟨by simp [go_sem, c0], by simp [go_sem, c1], by simp [go_sem, c2], fun o => by simp [go_sem, fr o], by simp [lt]⟩
section
variable {w W W' : World} {g p q1 c1 q2 c2 : Nat} {d : Dd} {X : Dx} {A2 : Option Addr}
theorem DsAt.one (k : DsAt w w.heap.size g p d X W) (hgp : g < p) {q : Nat} {c : Nat} (hb : Below W.heap.size W W') (hr : Rb W' q (scs d.l)) (hq : W.heap.size ≤ q) (hc : d.l.length ≤ c ∧ c ≤ maxLen) :
    Be10 w g p q c d X.A2 X.c2 (W'.setCell ⟨p, 1, none⟩ (.slice (some ⟨q, 0, none⟩) d.l.length c)) := by
  have k' := k.below hb
  have hn := k.ne
  have hp := k.db.lt
  exact ⟨k'.src.other (p := ⟨p, 1, none⟩) (show p ≠ g by omega) (show w.heap.size ≤ p by omega) _, k'.db.set1 _ _, hr.other (a := ⟨p, 1, none⟩) (show p ≠ q by omega) _, (k'.dr.fl.offp (p := ⟨p, 1, none⟩) k.op.o2 _).more (by simp), k'.bel.setCell (p := ⟨p, 1, none⟩) (show w.heap.size ≤ p by omega) _, ⟨by omega, hgp, by omega⟩, hc, k.op.o2⟩
theorem Be10.two (k : Be10 w g p q1 c1 d A2 c2 W) {q c : Nat} (hb : Below W.heap.size W W') (hr : Rb W' q (ics d.F)) (hq : W.heap.size ≤ q) (hc : d.F.length ≤ c ∧ c ≤ maxLen) :
    Bf10 w g p q1 c1 q c d (W'.setCell ⟨p, 2, none⟩ (.slice (some ⟨q, 0, none⟩) d.F.length c)) := by
  have hn := k.ord
  have hp := k.r1.lt
  exact ⟨(k.src.below hb).other (p := ⟨p, 2, none⟩) (show p ≠ g by omega) (show w.heap.size ≤ p by omega) _, (k.db.up hb).set2 _ _, (k.r1.up hb).other (a := ⟨p, 2, none⟩) (show p ≠ q1 by omega) _, hr.other (a := ⟨p, 2, none⟩) (show p ≠ q by omega) _, (k.bel.trans (hb.mono k.bel.size)).setCell (p := ⟨p, 2, none⟩) (show w.heap.size ≤ p by omega) _, ⟨by omega, by omega, by omega, by omega⟩, k.cap, hc⟩
theorem Bf10.below (k : Bf10 w g p q1 c1 q2 c2 d W) (hb : Below W.heap.size W W') : Bf10 w g p q1 c1 q2 c2 d W' :=
  ⟨k.src.below hb, k.db.up hb, k.r1.up hb, k.r2.up hb, k.bel.trans (hb.mono k.bel.size), k.ord, k.cap⟩
theorem Bf10.drew (k : Bf10 w g p q1 c1 q2 c2 d W) : Bf10 w g p q1 c1 q2 c2 d W.drew := k.below (Below.refl _ _).drew
theorem Bf10.turn (k : Bf10 w g p q1 c1 q2 c2 d W) (hs : SrcAt W' w.heap.size g) (hg : W.grownBy W' (some g)) : Bf10 w g p q1 c1 q2 c2 d W' :=
  ⟨hs, k.db.grown hg (by have := k.ord; omega), k.r1.grown hg (by have := k.ord; omega), k.r2.grown hg (by have := k.ord; omega), below_only k.bel hg k.ord.1 (Nat.le_refl _), k.ord, k.cap⟩
theorem Bf10.dr (k : Bf10 w g p q1 c1 q2 c2 d W) : DR W W.heap.size d ⟨some ⟨q1, 0, none⟩, c1, some ⟨q2, 0, none⟩, c2⟩ := ⟨k.r1.pl k.cap.1.1 k.cap.1.2, k.r2.fl k.cap.2.1 k.cap.2.2⟩
theorem Bf10.setL (k : Bf10 w g p q1 c1 q2 c2 d W) {o : Nat} {L : List Sp} {x : Int} (hl : L.length = d.l.length) (ho : o < d.l.length * 3) (he : (scs d.l).set o (.int .i64 x) = scs L) : Bf10 w g p q1 c1 q2 c2 ⟨d.vn, L, d.F⟩ (W.setCell ⟨q1, o, none⟩ (.int .i64 x)) := by
  have hn := k.ord
  have h2 := k.r1.set (j := o) (by rw [scs_len]; exact ho) (.int .i64 x)
  rw [he] at h2
  have h3 := k.db.other (a := ⟨q1, o, none⟩) (show q1 ≠ p by omega) (.int .i64 x)
  exact ⟨k.src.other (p := ⟨q1, o, none⟩) (show q1 ≠ g by omega) (show w.heap.size ≤ q1 by omega) _, ⟨h3.c0, by rw [show (⟨d.vn, L, d.F⟩ : Dd).l.length = d.l.length from hl]; exact h3.c1, h3.c2, h3.fr, h3.lt⟩, h2, k.r2.other (a := ⟨q1, o, none⟩) (show q1 ≠ q2 by omega) _, k.bel.setCell (p := ⟨q1, o, none⟩) (show w.heap.size ≤ q1 by omega) _, k.ord, by rw [show (⟨d.vn, L, d.F⟩ : Dd).l.length = d.l.length from hl]; exact k.cap⟩
theorem Bf10.pn (k : Bf10 w g p q1 c1 q2 c2 d W) : (q1 ≠ p ∧ q2 ≠ p) ∧ q1 < W.heap.size ∧ q2 < W.heap.size := by have h1 := k.ord; have h2 := k.r1.lt; have h3 := k.r2.lt; omega
/-- The cells of a span. -/
theorem Bf10.sp (k : Bf10 w g p q1 c1 q2 c2 d W) {j : Nat} (hj : j < d.l.length) : W.cell? ⟨q1, j * 3, none⟩ = some (.int .i64 (sg d.l j).lo) ∧ W.cell? ⟨q1, j * 3 + 1, none⟩ = some (.int .i64 (sg d.l j).hi) ∧ W.cell? ⟨q1, j * 3 + 2, none⟩ = some (.int .i64 (sg d.l j).sh) := by
  have h : ∀ i u, i < 3 → (d.l[j]).l[i]? = some u → W.cell? ⟨q1, j * 3 + i, none⟩ = some u := fun i u hi hu => k.r1.c _ u (by rw [scs_at d.l j i hj hi]; exact hu)
  rw [sg_get hj]
  exact ⟨h 0 _ (by omega) rfl, h 1 _ (by omega) rfl, h 2 _ (by omega) rfl⟩
end
end Go.Proofs.Ytijpflljopckiaa
namespace Go.Proofs.Ytijpflljopckiaa
open Go.RowKit
set_option linter.unusedVariables false

section
variable {w : World} {B : Nat} {A : Option Addr} {n c : Nat} {l : List Le}
theorem El.upto (h : El w B (.slice A n c) l) (j : Nat) (hj : j ≤ n) : El w B (.slice A j c) (l.take j) := by
  obtain ⟨hn, hl, hm⟩ := h.len
  have hlen : (l.take j).length = j := by simp; omega
  refine ⟨A, c, by rw [hlen], by rw [hlen]; omega, hm, by rw [ecs_len], fun h0 => ?_⟩
  rw [hlen] at h0
  obtain ⟨b, o, rfl, hb, hc⟩ := h.rd.2 (by omega)
  refine ⟨b, o, rfl, hb, fun k u hu => hc k u ?_⟩
  rw [← ecs_take] at hu
  have hk : k < j * 8 := by
    have := (List.getElem?_eq_some_iff.1 hu).1
    simp at this; omega
  rw [← hu, List.getElem?_take_of_lt hk]
theorem El.cut (h : El w B (.slice A n c) l) (k : Nat) (hk : k ≤ n) : El w B (.slice (if c = k then A else A.map (·.add (k * 8))) (n - k) (c - k)) (l.drop k) := by
  obtain ⟨hn, hl, hm⟩ := h.len
  refine ⟨_, c - k, by rw [List.length_drop, hn], by simp; omega, by omega, by rw [ecs_len], fun h0 => ?_⟩
  rw [List.length_drop] at h0
  obtain ⟨b, o, rfl, hb, hc⟩ := h.rd.2 (by omega)
  rw [if_neg (by omega)]
  refine ⟨b, o + k * 8, by rw [Option.map_some, add_mk], hb, fun j u hu => ?_⟩
  rw [Nat.add_assoc]
  refine hc _ u ?_
  rw [← hu, ← ecs_drop, List.getElem?_drop]
end
end Go.Proofs.Ytijpflljopckiaa
namespace Go.Proofs.Ytijpflljopckiaa
open Go.RowKit
set_option linter.unusedVariables false

theorem info_lease : (Try.prog.info? 154).map (fun i => (i.zero, i.size, i.bytes)) = some (some (Le.v zL), 8, 72) := by kernel_rfl
/-- A copy, that the call owns. -/
def EClP (w : World) (l : List Le) (e : Ending) (w' : World) : Prop := ∃ v, e = .returned v ∧ w'.ownsRow w.heap.size 154 8 v l.length (ecs l) ∧ Below w.heap.size w w'
theorem eclone_end {w w1 : World} {l : List Le} {v1 : Value} {o : Obj} (hown : w1.ownsRow w.heap.size 154 8 v1 (0 + l.length) ([] ++ ecs l)) (hg : (w.alloc o).grownBy w1 (Value.ownBlock (.slice (some ⟨w.heap.size, 0, none⟩) 0 0))) : EClP w l (.returned v1) w1 := by
  rw [Nat.zero_add, List.nil_append] at hown
  exact ⟨v1, rfl, hown, (((Below.refl _ _).alloc (Nat.le_refl _) o)).grown hg (by simp) (fun k hk => by simp [Value.ownBlock] at hk; omega)⟩

set_option maxHeartbeats 2000000 in
theorem eclone_any (A : Option Addr) (n c : Nat) (l : List Le) (w : World) (hv : El w w.heap.size (.slice A n c) l) (h2 : n ≤ 1000) :
    Calls Try.prog 98 #[.slice A n c] w (EClP w l) := by
  obtain ⟨rfl, hm1, hm2⟩ := hv.len
  obtain ⟨i0, hi0, hz0⟩ := Option.map_eq_some_iff.1 info_lease
  simp only [Prod.mk.injEq] at hz0
  have HI := Lib.hid hi0
  have HZ := Lib.hid hz0
  have HV := Lib.hid hv
  have heq : ∀ W, (binOp .eql 80 (.slice A l.length c) (.slice none 0 0)).run Try.prog W = .ok (.bool A.isNone) W := fun W => Lib.run_eql_slice_nil W _ _ _ _ _ _ _ Try.underlying80
  have HRD := Lib.hid hv.rd
  clear hv hi0 hz0
  cases A with
  | none =>
    have hl : l = [] := by
      cases l with
      | nil => rfl
      | cons d l => obtain ⟨b, o, e, _⟩ := HRD.out.2 (by simp); cases e
    subst hl
    have HP := Lib.hid (show EClP w [] (.returned (.slice none 0 0)) w from ⟨_, rfl, World.ownsRow_nil w _ _ _, Below.refl _ _⟩)
    simp only [List.length_nil, Option.isNone_none] at heq ⊢
    go_enter Try.func98, Try.ntmps98
    go_wp2
    go_ret
    exact HP.out
  | some a =>
    simp only [Option.isNone_some] at heq
    go_enter Try.func98, Try.ntmps98
    go_wp2_with (at_builtin; refine wpList_append_rd _ rfl (.tmp 5) (.tmp 6) 80 rfl w.heap.size 154 i0 _ 8 72 Try.underlying80 HI.out HZ.out.1 HZ.out.2.1 HZ.out.2.2 rfl (by omega) (.slice (some ⟨w.heap.size, 0, none⟩) 0 0) 0 [] rfl (World.ownsRow_made w #[] 0 (Nat.le_refl _) (Nat.zero_le _) rfl) w.heap.size (some a) l.length c (ecs l) rfl (HV.out.alloc (Nat.le_refl _) _).rd (ecs_one l) (by unfold maxLen; omega) (by omega) (by simp) ?_; intro v1 w1 hown1 hg1 hat1)
    have HP := Lib.hid (eclone_end hown1 hg1)
    clear hown1 hg1 hat1
    go_wp2
    go_ret
    exact HP.out

/-- Two slices in an array of the call's own. -/
structure Cc2 (W : World) (g : Nat) (v0 v1 : Value) (l0 l1 : List Le) : Prop where
  c0 : W.cell? ⟨g, 0, none⟩ = some v0
  c1 : W.cell? ⟨g, 1, none⟩ = some v1
  lt : g < W.heap.size
  e0 : El W W.heap.size v0 l0
  e1 : El W W.heap.size v1 l1
theorem Cc2.start {w : World} {v0 v1 : Value} {l0 l1 : List Le} (t : TypeId) (h0 : El w w.heap.size v0 l0) (h1 : El w w.heap.size v1 l1) : Cc2 (w.alloc (.cells #[v0, v1] t)) w.heap.size v0 v1 l0 l1 := by
  have hb := (Below.refl w.heap.size w).alloc (Nat.le_refl _) (.cells #[v0, v1] t)
  refine ⟨?_, ?_, by simp, (h0.below hb).more hb.size, (h1.below hb).more hb.size⟩
  · rw [World.cell?_alloc_new]; rfl
  · rw [World.cell?_alloc_new]; rfl
end Go.Proofs.Ytijpflljopckiaa
