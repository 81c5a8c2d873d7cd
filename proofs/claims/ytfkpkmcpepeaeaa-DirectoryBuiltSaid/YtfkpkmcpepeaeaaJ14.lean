/- What is proved here: ref10.New by a contract; in the statements of layer 10, awake is true; a directory and a change among the arguments opened to what lies in memory, a change shut again. -/
import Derived.Test.YtfkpkmcpepeaeaaJ09
import Derived.Deep.AppendLies
import Derived.WalkSpells
import Derived.Deep.RegionHeld3
import Derived.Test.YtfkpkmcpepeaeaaJ04
import Derived.Test.YtfkpkmcpepeaeaaJ13
import Derived.Test.YtfkpkmcpepeaeaaJ03
import Derived.Test.YtfkpkmcpepeaeaaJ06
import Derived.Lib.SmallJoins
import Derived.ChangeSame
import Derived.Deep.Slices
import Derived.Deep.Fields
namespace Go.Proofs.Ytfkpkmcpepeaeaa
open Go.RowKit
set_option linter.unusedVariables false

section
variable {w W W' : World} {r y : Nat} {d : Dd} {X : Dx}
/-- A number is appended. -/
theorem NA.appF (h : NA w r y d X W) {v : Int} {g cap : Nat} (ho : W'.ownsRow (r + 1) 3 1 (.slice (some ⟨g, 0, none⟩) (d.F.length + 1) cap) (d.F.length + 1) (ics d.F ++ [.int .i64 v])) (hg : W.grownBy W' (Value.slice X.A2 d.F.length X.c2).ownBlock) (hat : (Value.slice X.A2 d.F.length X.c2).ownBlock = some g ∨ g = W.heap.size) :
    (W'.cell? ⟨y, 2, none⟩ = some (.slice X.A2 d.F.length X.c2) ∧ W'.frozen? ⟨y, 2, none⟩ = false ∧ y < W'.heap.size) ∧ NA w r y ⟨d.vn, d.l, d.F ++ [v]⟩ ⟨X.A, X.c, some ⟨g, 0, none⟩, cap⟩ (W'.setCell ⟨y, 2, none⟩ (.slice (some ⟨g, 0, none⟩) (d.F.length + 1) cap)) := by
  have hn := h.ne
  have hrl := h.rb.lt
  have hor : (Value.slice X.A2 d.F.length X.c2).ownBlock ≠ some r := fun e => by have := (h.of.lt r e).1; omega
  have hoy : (Value.slice X.A2 d.F.length X.c2).ownBlock ≠ some y := fun e => h.d3 y e rfl
  have hx := h.xb.grownO hg hoy
  have hr := h.rb.grownO hg hor
  have hf := own_farO h.ol hg fun k hk e => h.d1 k hk e
  have hgy : g ≠ y := by
    rcases hat with e | e
    · exact h.d3 g e
    · have := h.xb.lt; omega
  have hb : Below w.heap.size w W' := h.bel.grown hg h.bel.size fun k hk => by have := (h.of.lt k hk).1; omega
  refine ⟨⟨hx.c2, hx.fr 2, hx.lt⟩, hr.other (a := ⟨y, 2, none⟩) (by show y ≠ r; omega) _, ⟨?_, ?_, ?_, fun o => ?_, ?_⟩, own_oth hf (fun k hk => h.d2 k hk) _, ?_, fun k hk e => ?_, h.d2, fun k hk => ?_, h.ne, hb.setCell (p := ⟨y, 2, none⟩) (show w.heap.size ≤ y by omega) _⟩
  · simpa [go_sem] using hx.c0
  · simpa [go_sem] using hx.c1
  · simp [go_sem, hx.c2]
  · simpa [go_sem] using hx.fr o
  · simpa using hx.lt
  · have k := own_oth ho (a := ⟨y, 2, none⟩) (fun k hk => by simp [Value.ownBlock] at hk; subst hk; exact hgy) (.slice (some ⟨g, 0, none⟩) (d.F.length + 1) cap)
    have e1 : ics (d.F ++ [v]) = ics d.F ++ [.int .i64 v] := by simp [ics, i64v]
    show World.ownsRow _ _ _ _ (.slice (some ⟨g, 0, none⟩) (d.F ++ [v]).length cap) (d.F ++ [v]).length (ics (d.F ++ [v]))
    rw [e1, List.length_append, List.length_singleton]
    exact k
  · simp [Value.ownBlock] at e
    subst e
    rcases hat with e2 | e2
    · exact h.d1 _ hk e2
    · have := (h.ol.lt _ hk).2; omega
  · simp [Value.ownBlock] at hk
    subst hk
    exact hgy
end

set_option maxHeartbeats 4000000 in
set_option maxRecDepth 20000 in
theorem rnew10_any (s l : Int) (w : World) : Calls Try.prog 8 #[.int .i64 s, .int .i64 l] w (DE w.heap.size w (nwD s l) (nwE10 s l)) := by
  obtain ⟨r, hr⟩ : ∃ r, r = w.heap.size := ⟨_, rfl⟩
  by_cases h : 1 ≤ s ∧ s ≤ 6 ∧ 1 ≤ l ∧ l ≤ s
  · obtain ⟨n, hn⟩ : ∃ n : Nat, s = n := ⟨s.toNat, by omega⟩
    obtain ⟨m, hm⟩ : ∃ m : Nat, l = m := ⟨l.toNat, by omega⟩
    subst hn
    subst hm
    have e1 : nwE10 n m = 0 := by unfold nwE10; rw [if_pos h]
    have e2 : nwD n m = ⟨1, nwL m m, List.replicate n (-1)⟩ := by unfold nwD; rw [e1]; simp
    have HM := Lib.hid (show (1 ≤ n ∧ n ≤ 6) ∧ (1 ≤ m ∧ m ≤ n) by omega)
    rw [e1, e2]
    have qc1 : ¬ (m : Int) < 1 := by omega
    have qc2 : ¬ (n : Int) < (m : Int) := by omega
    have qc3 : ¬ (6 : Int) < (n : Int) := by omega
    clear e1 e2 h
    obtain ⟨i0, hi0, hz0⟩ := Option.map_eq_some_iff.1 info_sp
    simp only [Prod.mk.injEq] at hz0
    have HI := Lib.hid hi0
    have HZ := Lib.hid hz0
    clear hi0 hz0
    obtain ⟨j0, hi0, hz0⟩ := Option.map_eq_some_iff.1 info_ni
    simp only [Prod.mk.injEq] at hz0
    have HJ := Lib.hid hi0
    have HY := Lib.hid hz0
    clear hi0 hz0
    have HR0 := Lib.hid hr
    obtain ⟨y, hy⟩ : ∃ y, y = w.heap.size + 1 := ⟨_, rfl⟩
    have HN := Lib.hid (show NA w r y ⟨1, [], []⟩ ⟨none, 0, none, 0⟩ ((w.alloc (.cells #[.int .i64 0, .slice none 0 0, .slice none 0 0] 25)).alloc (.cells #[.int .i64 1, .slice none 0 0, .slice none 0 0] 25)) from by
      have k := NA.start (w := w) (W := w.alloc (.cells #[.int .i64 0, .slice none 0 0, .slice none 0 0] 25)) (F := []) (A2 := none) (c2 := 0) hr ((Below.refl _ _).alloc (Nat.le_refl _) _) (by rw [hr]; exact Db10.zero w _) (World.ownsRow_nil _ _ _ _) 25
      have hs : (w.alloc (.cells #[.int .i64 0, .slice none 0 0, .slice none 0 0] 25)).heap.size = y := by rw [hy]; simp
      rw [hs] at k
      exact k)
    go_enter Try.func8, Try.ntmps8
    go_wp2_with fail
    rw [← hy, ← hr]
    generalize (w.alloc (.cells #[.int .i64 0, .slice none 0 0, .slice none 0 0] 25)).alloc (.cells #[.int .i64 1, .slice none 0 0, .slice none 0 0] 25) = w4 at *
    clear hr hy
    go_loopw [7] (fun iv wr => ∃ (k : Nat) (A : Option Addr) (c : Nat), iv = .int .i64 k ∧ k ≤ m ∧ Hid (NA w r y ⟨1, nwL m k, []⟩ ⟨A, c, none, 0⟩ wr)) (fun iv _ => m - (intOf iv).toNat)
    case atStart => exact ⟨0, none, 0, rfl, Nat.zero_le _, HN⟩
    case round =>
      obtain ⟨k, A, c, rfl, hkm, HA⟩ := hrel
      by_cases hk : k < m
      · obtain ⟨L, hL⟩ : ∃ L, L = nwL m k := ⟨_, rfl⟩
        rw [← hL] at HA
        have HL := Lib.hid (show L.length = k ∧ nwL m (k + 1) = L ++ [⟨(k : Int) * 65536 / m, ((k : Int) + 1) * 65536 / m - 1, k⟩] from ⟨by rw [hL, nwL_len], by rw [hL]; exact nwL_succ m k⟩)
        clear hL
        have hk' : (k : Int) < (m : Int) := by omega
        clear hkm hk
        have h56 : k ≤ 5 ∧ m ≤ 6 := by have := HM.out; omega
        have HL6 := Lib.hid h56
        have hw1 : IntKind.i64.wrap ((k : Int) * 65536) = (k : Int) * 65536 := IntWalk.i64_in _ (by omega)
        have hw2 : IntKind.i64.wrap ((k : Int) + 1) = (k : Int) + 1 := IntWalk.i64_in _ (by omega)
        have hw3 : IntKind.i64.wrap (((k : Int) + 1) * 65536) = ((k : Int) + 1) * 65536 := IntWalk.i64_in _ (by omega)
        obtain ⟨a, ha⟩ : ∃ a, a = ((k : Int) * 65536) / (m : Int) := ⟨_, rfl⟩
        obtain ⟨b, hb⟩ : ∃ b, b = (((k : Int) + 1) * 65536) / (m : Int) := ⟨_, rfl⟩
        have ht1 : ((k : Int) * 65536).tdiv (m : Int) = a := by rw [ha]; exact Int.tdiv_eq_ediv_of_nonneg (by omega)
        have ht2 : (((k : Int) + 1) * 65536).tdiv (m : Int) = b := by rw [hb]; exact Int.tdiv_eq_ediv_of_nonneg (by omega)
        have hra : 0 ≤ a ∧ a ≤ 400000 := by
          rw [ha]
          exact ⟨Int.ediv_nonneg (by omega) (by omega), Int.le_trans (Int.ediv_le_self _ (by omega)) (by omega)⟩
        have hrb : 0 ≤ b ∧ b ≤ 400000 := by
          rw [hb]
          exact ⟨Int.ediv_nonneg (by omega) (by omega), Int.le_trans (Int.ediv_le_self _ (by omega)) (by omega)⟩
        have hw4 : IntKind.i64.wrap a = a := IntWalk.i64_in _ (by omega)
        have hw5 : IntKind.i64.wrap b = b := IntWalk.i64_in _ (by omega)
        have hw6 : IntKind.i64.wrap (b - 1) = b - 1 := IntWalk.i64_in _ (by omega)
        rw [← ha, ← hb] at HL
        have hm0 : ¬ (m : Int) = 0 := by omega
        have hm1 : ((m : Int) == 0) = false := by simpa using hm0
        have hm2 : ¬ m = 0 := by omega
        have hm3 : ((m == 0) : Bool) = false := by simpa using hm2
        clear ha hb h56
        obtain ⟨⟨x0, x1, x2, xl⟩, f0, f1, f2⟩ := HA.out.xb.all
        dsimp only at x0 x1 x2
        clear x0 x2 f0 f2
        go_wp2
        go_region_law (refine step_append_lies _ (by rfl) _ _ _ (by rfl) (r + 1) 43 i0 _ 3 24 Try.underlying22 HI.out HZ.out.1 HZ.out.2.1 HZ.out.2.2 rfl (by omega) (.slice A L.length c) L.length (scs L) (by rfl) (HA.out.drew.alloc _).ol ⟨wr.heap.size, 0, none⟩ 1 1 (Sp.mk a (b - 1) k).l (by rfl) (by rfl) (World.news_of_block (cs := (Sp.mk a (b - 1) k).l.toArray) (t := 43) (fr := (0, 0)) (heap_alloc_new wr.drew _)) (Sp.l_one _) (by omega) (by have := HL.out; have := HL6.out; unfold maxLen; omega) (by have := HL.out; have := HL6.out; omega) (Nat.succ_le_of_lt (HA.out.drew.alloc _).rb.lt) _ rfl ?_; intro g1 cp1 w8 hown1 hgrow1 hat1 hlt1; have HP8 := Lib.hid ((HA.out.drew.alloc _).app (S := Sp.mk a (b - 1) k) hown1 hgrow1 hat1); obtain ⟨z1, f1, xl⟩ := HP8.out.1; clear hown1 hgrow1 hat1 hlt1)
        all_goals
          go_wp2
          exact ⟨⟨k + 1, _, _, by rw [Int.natCast_add]; rfl, by omega, Lib.hid (by rw [HL.out.2]; exact HP8.out.2)⟩, by simp [intOf]; omega⟩
      · have hke : k = m := by omega
        subst hke
        have hkk : ¬ (k : Int) < (k : Int) := by omega
        obtain ⟨L, hL⟩ : ∃ L, L = nwL k k := ⟨_, rfl⟩
        have HA0 := Lib.hid (show NA w r y ⟨1, L, []⟩ ⟨A, c, none, 0⟩ wr by rw [hL]; exact HA.out)
        have HL := Lib.hid hL
        clear hkm hk HA hL
        go_wp2
        generalize wr = w5 at *
        go_loopw [8] (fun iv wr => ∃ (j : Nat) (A2 : Option Addr) (c2 : Nat), iv = .int .i64 j ∧ j ≤ n ∧ Hid (NA w r y ⟨1, L, List.replicate j (-1)⟩ ⟨A, c, A2, c2⟩ wr)) (fun iv _ => n - (intOf iv).toNat)
        case atStart => exact ⟨0, none, 0, rfl, Nat.zero_le _, HA0⟩
        case round =>
          obtain ⟨j, A2, c2, rfl, hjn, HB⟩ := hrel
          by_cases hj : j < n
          · obtain ⟨F, hF⟩ : ∃ F, F = List.replicate j (-1 : Int) := ⟨_, rfl⟩
            rw [← hF] at HB
            have HF := Lib.hid (show F.length = j ∧ List.replicate (j + 1) (-1 : Int) = F ++ [-1] from ⟨by rw [hF]; simp, by rw [hF]; exact List.replicate_succ'⟩)
            clear hF
            have HL6 := Lib.hid (show j ≤ 5 by have := HM.out; omega)
            have hj' : (j : Int) < (n : Int) := by omega
            have hw2 : IntKind.i64.wrap ((j : Int) + 1) = (j : Int) + 1 := IntWalk.i64_in _ (by omega)
            clear hjn hj
            obtain ⟨⟨x0, x1, x2, xl⟩, f0, f1, f2⟩ := HB.out.xb.all
            dsimp only at x0 x1 x2
            clear x0 x1 f0 f1
            go_wp2_with (at_builtin; refine wpList_append_lies _ rfl _ _ _ rfl (r + 1) 3 j0 _ 1 8 Try.underlying23 HJ.out HY.out.1 HY.out.2.1 HY.out.2.2 rfl (by omega) (.slice A2 F.length c2) F.length (ics F) (by rfl) (HB.out.alloc _).of ⟨wr.heap.size, 0, none⟩ 1 1 [.int .i64 (-1)] (by rfl) (by rfl) (World.news_of_block (cs := #[.int .i64 (-1)]) (t := 3) (fr := (0, 0)) (heap_alloc_new wr _)) (fun u hu => by simp at hu; subst hu; rfl) (by omega) (by have := HF.out; have := HL6.out; unfold maxLen; omega) (by have := HF.out; have := HL6.out; omega) (Nat.succ_le_of_lt (HB.out.alloc _).rb.lt) _ rfl ?_; intro g1 cp1 w8 hown1 hgrow1 hat1 hlt1; have HP8 := Lib.hid ((HB.out.alloc _).appF (v := -1) hown1 hgrow1 hat1); obtain ⟨z1, f2, xl⟩ := HP8.out.1; clear hown1 hgrow1 hat1 hlt1)
            exact ⟨⟨j + 1, _, _, by rw [Int.natCast_add]; rfl, by omega, Lib.hid (by rw [HF.out.2]; exact HP8.out.2)⟩, by simp [intOf]; omega⟩
          · have hje : j = n := by omega
            subst hje
            have hjj : ¬ (j : Int) < (j : Int) := by omega
            obtain ⟨F, hF⟩ : ∃ F, F = List.replicate j (-1 : Int) := ⟨_, rfl⟩
            rw [← hF] at HB
            have HO := Lib.hid (show DE w.heap.size w ⟨1, nwL k k, List.replicate j (-1)⟩ 0 (.returned (.tuple #[dv ⟨1, L, F⟩ ⟨A, c, A2, c2⟩, .int .i64 0])) _ from by rw [← hF, ← HL.out]; exact HB.out.out)
            obtain ⟨⟨x0, x1, x2, xl⟩, f0, f1, f2⟩ := HB.out.xb.all
            obtain ⟨⟨r0, r1, r2, rl⟩, g0, g1, g2⟩ := HB.out.rb.all
            have hry : ¬ r = y ∧ ¬ y = r := by have := HB.out.ne; omega
            obtain ⟨hry1, hry2⟩ := hry
            dsimp only at x0 x1 x2
            clear hjn hj hF
            go_wp2
            exact bodyPost_ret (v := .tuple #[dv ⟨1, L, F⟩ ⟨A, c, A2, c2⟩, .int .i64 0]) (by simp only [results, Try.results8]; go_simp <;> rfl) rfl HO.out
  · have HEE := Lib.hid (show nwE10 s l = 1 ∧ nwD s l = zD10 from by
      have e1 : nwE10 s l = 1 := by unfold nwE10; rw [if_neg h]
      exact ⟨e1, by unfold nwD; rw [e1]; rfl⟩)
    obtain ⟨E1, hE1⟩ : ∃ E1, E1 = nwE10 s l := ⟨_, rfl⟩
    obtain ⟨D1, hD1⟩ : ∃ D1, D1 = nwD s l := ⟨_, rfl⟩
    rw [← hE1, ← hD1] at HEE
    rw [← hE1, ← hD1]
    clear hE1 hD1
    have HO1 := Lib.hid (new_out0 (w := w) (W := w.alloc (.cells #[.int .i64 0, .slice none 0 0, .slice none 0 0] 25)) rfl ((Below.refl _ _).alloc (Nat.le_refl _) _) 1)
    have hq : l < 1 ∨ (1 ≤ l ∧ s < l) ∨ (1 ≤ l ∧ l ≤ s ∧ 6 < s) := by omega
    clear h hr
    rcases hq with q1 | ⟨q1, q2⟩ | ⟨q1, q2, q3⟩
    all_goals
      go_enter Try.func8, Try.ntmps8
      go_wp2
      exact bodyPost_ret (v := .tuple #[.agg #[.int .i64 0, .slice none 0 0, .slice none 0 0], .int .i64 1]) (by simp only [results, Try.results8]; go_simp <;> rfl) rfl (by rw [HEE.out.1, HEE.out.2]; simpa [go_sem] using HO1.out)
end Go.Proofs.Ytfkpkmcpepeaeaa
namespace Go.Proofs.Ytfkpkmcpepeaeaa
open Go.RowKit
set_option linter.unusedVariables false

theorem vaD_dec {d : Dd} (h1 : rgD d) (h2 : cvD 0 d.l = true) (h3 : msD d.F.length d.l = true) (h4 : ∀ j, j < d.l.length → ∀ i, i < j → (sg d.l i).sh ≠ (sg d.l j).sh) (h5 : ∀ i, i < d.F.length → (-1 ≤ ig d.F i ∧ ig d.F i < d.F.length) ∧ (hasS d.l (i : Int) → ig d.F i = -1))
    (h6 : ∀ i, i < d.F.length → fwD d.F d.F.length (i : Int) < 0) : vaD d = 0 := by
  refine vaD_ok h1 h2 h3 ?_ ?_
  · have : ¬ duD d.l := fun ⟨i, j, hij, hj, he⟩ => h4 j hj i hij he
    simp [duB, this]
  · have : foD d.l d.F := ⟨h5, h6⟩
    simp [foB, this]
theorem aD_4 : (nwD 3 2).l.length = 2 ∧ (nwD 3 2).F.length = 3 ∧ nwE10 3 2 = 0 := by decide +kernel
theorem aD_0 : vaD (nwD 3 2) = 0 := vaD_dec (by unfold rgD; decide +kernel) (by decide +kernel) (by decide +kernel) (by decide +kernel) (by decide +kernel) (by decide +kernel)
theorem aD_1 : ownD (nwD 3 2) 32767 = 0 := by unfold ownD; rw [if_pos aD_0]; decide +kernel
theorem aD_2 : ownD (nwD 3 2) 32768 = 1 := by unfold ownD; rw [if_pos aD_0]; decide +kernel
theorem aD_3 : homD (nwD 3 2) 2 = -1 := by unfold homD; rw [if_pos ⟨aD_0, by unfold slotP; decide +kernel⟩]; decide +kernel
/-- A directory in a box, with its lists. -/
structure DD (w : World) (p : Nat) (d : Dd) (X : Dx) (W : World) : Prop where
  db : Db10 W p d X
  dr : DR W W.heap.size d X
  old : w.heap.size ≤ p
  bel : Below w.heap.size w W
theorem DD.up {w W W' : World} {p : Nat} {d : Dd} {X : Dx} (h : DD w p d X W) (hb : Below W.heap.size W W') : DD w p d X W' := ⟨h.db.up hb, h.dr.up hb, h.old, h.bel.trans (hb.mono h.bel.size)⟩
theorem DD.start {w W : World} {d : Dd} {X : Dx} (hr : DR W W.heap.size d X) (hb : Below w.heap.size w W) (t : TypeId) : DD w W.heap.size d X (W.alloc (.cells #[.int .i64 d.vn, .slice X.A d.l.length X.c, .slice X.A2 d.F.length X.c2] t)) :=
  ⟨Db10.start W d X t, hr.alloc _, hb.size, hb.alloc hb.size _⟩

set_option maxHeartbeats 2000000 in
theorem awake10_any (w : World) : Calls Try.prog 11 #[] w fun e w' => e = .returned (.bool true) ∧ Below w.heap.size w w' := by
  obtain ⟨D, hD⟩ : ∃ D, D = nwD 3 2 := ⟨_, rfl⟩
  have HN := Lib.hid (fun W => show Calls Try.prog 7 #[.int .i64 3, .int .i64 2] W (DE W.heap.size W D 0) from by
    have h := dnew_any 3 2 W
    rw [aD_4.2.2, ← hD] at h
    exact h)
  have HO1 := Lib.hid (fun X W (k : DR W W.heap.size D X) => show Calls Try.prog 20 #[dv D X, .int .i64 32767] W (VlR W 0) from by
    have h := downer_any D X 32767 W k
    rw [hD, aD_1, ← hD] at h
    exact h)
  have HO2 := Lib.hid (fun X W (k : DR W W.heap.size D X) => show Calls Try.prog 20 #[dv D X, .int .i64 32768] W (VlR W 1) from by
    have h := downer_any D X 32768 W k
    rw [hD, aD_2, ← hD] at h
    exact h)
  have HH := Lib.hid (fun X W (k : DR W W.heap.size D X) => show Calls Try.prog 33 #[dv D X, .int .i64 2] W (VlR W (-1)) from by
    have h := dhome_any D X 2 W k (by rw [hD, aD_4.2.1]; omega)
    rw [hD, aD_3, ← hD] at h
    exact h)
  have hl1 : ((D.l.length : Int) == 2) = true := by rw [hD, aD_4.1]; rfl
  have hl2 : (D.l.length == 2) = true := by rw [hD, aD_4.1]; rfl
  clear hD
  go_enter Try.func11, Try.ntmps11
  go_wp2_with fail
  refine (HN.out _).mono ?_
  rintro e w1 ⟨X, rfl, -, hdr, hb⟩
  have H1 := Lib.hid (DD.start (w := w) hdr hb 25)
  clear hdr hb
  go_wp2_with fail
  generalize w1.heap.size = p at *
  generalize w1.alloc (.cells #[.int .i64 D.vn, .slice X.A D.l.length X.c, .slice X.A2 D.F.length X.c2] 25) = w2 at *
  refine (HO1.out X _ H1.out.dr).mono ?_
  rintro e w3 ⟨rfl, hb⟩
  have H2 := Lib.hid (H1.out.up hb)
  clear hb H1
  obtain ⟨⟨x0, x1, x2, xl⟩, -, -, -⟩ := H2.out.db.all
  go_wp2_with fail
  clear x0 x1 x2 xl
  refine (HO2.out X _ H2.out.dr).mono ?_
  rintro e w4 ⟨rfl, hb⟩
  have H3 := Lib.hid (H2.out.up hb)
  clear hb H2
  obtain ⟨⟨x0, x1, x2, xl⟩, -, -, -⟩ := H3.out.db.all
  go_wp2_with fail
  clear x0 x1 x2 xl
  refine (HH.out X _ H3.out.dr).mono ?_
  rintro e w5 ⟨rfl, hb⟩
  have HB := Lib.hid (H3.out.up hb).bel
  clear hb H3
  go_wp2
  go_ret
  exact ⟨rfl, HB.out⟩
end Go.Proofs.Ytfkpkmcpepeaeaa
namespace Go.Proofs.Ytfkpkmcpepeaeaa
open Go.Joins Go.ChangeShapes Go.WideShapes Go.RowKit Go.Deep
set_option linter.unusedVariables false

/-- The change as data. -/
def Ed.d {H : Type} (x : Ed) : DataW H := .agg [.lit (.int .i64 x.kd), .lit (.int .i64 x.fr), .lit (.int .i64 x.to), .lit (.int .i64 x.md)]
/-- Its numbers are numbers of 64 bits. -/
def Ed.wf (x : Ed) : Prop := (Lit.int .i64 x.kd).wf = true ∧ (Lit.int .i64 x.fr).wf = true ∧ (Lit.int .i64 x.to).wf = true ∧ (Lit.int .i64 x.md).wf = true
theorem edit_cells : Try.prog.cellsOf 27 = 4 := by kernel_rfl
theorem span_cells : Try.prog.cellsOf 43 = 3 := by kernel_rfl

section
variable {H : Type} {enc : TypeId × Value → H} {w : World} {base : Nat} {spare : Nat → Bool} {held : Bool}
set_option maxRecDepth 20000 in
theorem open_edit {r : Reach} {b0 : Nat} {v : Value} {d : DataW H} {p : List MemPlace} (hv : Value.okWide Try.prog w r b0 27 v) (h : DataW.Trod enc Try.prog w base spare held 27 v d p) :
    ∃ x : Ed, v = x.v ∧ d = x.d ∧ p = [] ∧ x.wf := by
  obtain ⟨c0, c1, c2, c3, y0, y1, y2, y3, n, rfl, rfl, rfl, hy0, hy1, hy2, hy3⟩ := open_agg4 Try.underlying27 (by kernel_rfl) edit_cells hv h
  obtain ⟨a0, e0, rfl, w0⟩ := DataW.trod_int Try.underlying3 hy0
  obtain ⟨a1, e1, rfl, w1⟩ := DataW.trod_int Try.underlying3 hy1
  obtain ⟨a2, e2, rfl, w2⟩ := DataW.trod_int Try.underlying3 hy2
  obtain ⟨a3, e3, rfl, w3⟩ := DataW.trod_int Try.underlying3 hy3
  simp at e0 e1 e2 e3
  subst e0 e1 e2 e3
  exact ⟨⟨a0, a1, a2, a3⟩, rfl, rfl, rfl, w0, w1, w2, w3⟩
set_option maxRecDepth 20000 in
theorem shut_edit (x : Ed) (h : x.wf) : DataW.Trod enc Try.prog w base spare held 27 x.v x.d [] := by
  obtain ⟨w0, w1, w2, w3⟩ := h
  exact shut_agg4 (y0 := (.lit (.int .i64 x.kd), [])) (y1 := (.lit (.int .i64 x.fr), [])) (y2 := (.lit (.int .i64 x.to), [])) (y3 := (.lit (.int .i64 x.md), [])) Try.underlying27 (by kernel_rfl) edit_cells
    ⟨1, by simp [DataW.trod, Try.underlying3, w0]⟩ ⟨1, by simp [DataW.trod, Try.underlying3, w1]⟩ ⟨1, by simp [DataW.trod, Try.underlying3, w2]⟩ ⟨1, by simp [DataW.trod, Try.underlying3, w3]⟩
theorem cells3s {P : Program} {t : TypeId} {f0 f1 f2 : Field} {fuel : Nat} {cs : List Value} {x : DataW H × List MemPlace} (hs : P.underlying t = some (.struct #[f0, f1, f2])) (hone : oneCellFields P #[f0, f1, f2] = true)
    (hl : cs.length = 3) (h : DataW.trod enc P w base spare held fuel t cs = some x) :
    ∃ (v0 v1 v2 : Value) (y0 y1 y2 : DataW H × List MemPlace) (n : Nat), cs = [v0, v1, v2] ∧
      DataW.trod enc P w base spare held n f0.type [v0] = some y0 ∧ DataW.trod enc P w base spare held n f1.type [v1] = some y1 ∧ DataW.trod enc P w base spare held n f2.type [v2] = some y2 := by
  match cs, hl with
  | [c0, c1, c2], _ =>
    obtain ⟨xs, n, _, hx, _, hlen, hg⟩ := DataW.trod_struct hs h
    obtain ⟨o0, k0⟩ := hone_of hone 0 f0 rfl
    obtain ⟨o1, k1⟩ := hone_of hone 1 f1 rfl
    obtain ⟨o2, k2⟩ := hone_of hone 2 f2 rfl
    match xs, hlen with
    | [y0, y1, y2], _ =>
      exact ⟨c0, c1, c2, y0, y1, y2, n, rfl, by simpa [o0, k0] using hg 0 f0 rfl, by simpa [o1, k1] using hg 1 f1 rfl, by simpa [o2, k2] using hg 2 f2 rfl⟩
set_option maxRecDepth 20000 in
theorem span_one {fuel : Nat} {cs : List Value} {x : DataW H × List MemPlace} (h : DataW.trod enc Try.prog w base spare held fuel 43 cs = some x) (hl : cs.length = 3) :
    ∃ d : Sp, cs = d.l := by
  obtain ⟨c0, c1, c2, y0, y1, y2, n, rfl, g0, g1, g2⟩ := cells3s Try.underlying43 (by kernel_rfl) hl h
  obtain ⟨a0, z0, _, _⟩ := DataW.trod_int Try.underlying3 g0
  obtain ⟨a1, z1, _, _⟩ := DataW.trod_int Try.underlying3 g1
  obtain ⟨a2, z2, _, _⟩ := DataW.trod_int Try.underlying3 g2
  simp at z0 z1 z2
  subst z0 z1 z2
  exact ⟨⟨a0, a1, a2⟩, rfl⟩
set_option maxRecDepth 20000 in
theorem open_spans {fuel : Nat} {cs : List Value} {x : DataW H × List MemPlace} (h : DataW.trod enc Try.prog w base spare held fuel 22 cs = some x) :
    ∃ (A : Option Addr) (n c : Nat) (l : List Sp), cs = [.slice A n c] ∧ Pl w w.heap.size (.slice A n c) l := by
  rcases open_slice Try.underlying22 h with ⟨rfl, _⟩ | ⟨a, len, cap, m, n, D, Pl0, rfl, _, hl, hm, hmm, _, hi⟩
  · exact ⟨none, 0, 0, [], rfl, Pl.nil⟩
  · have hlm : len ≤ m := by rw [hmm]; split <;> omega
    rw [span_cells] at hi
    have hM : ∀ i, i < len → ∃ d : Sp, ∀ j, j < 3 → w.cell? (a.add (i * 3 + j)) = d.l[j]? := fun i hil => by
      obtain ⟨cs', hc, ht⟩ := hi i (by omega)
      obtain ⟨_, hcl, hat⟩ := World.cells?_some hc
      obtain ⟨d, rfl⟩ := span_one ht hcl
      refine ⟨d, fun j hj => ?_⟩
      have g := hat j hj
      rw [← Go.Deep.add_add]
      exact g
    by_cases h0 : len = 0
    · subst h0
      exact ⟨some a, 0, cap, [], rfl, some a, cap, rfl, hl, hm, Rd.nil _⟩
    · let f : Nat → Sp := fun i => if h : i < len then (hM i h).choose else zSp
      have hfs : ∀ i, i < len → ∀ j, j < 3 → w.cell? (a.add (i * 3 + j)) = (f i).l[j]? := fun i hil j hj => by
        show _ = (if h : i < len then (hM i h).choose else zSp).l[j]?
        rw [dif_pos hil]
        exact (hM i hil).choose_spec j hj
      obtain ⟨b, o, spot⟩ := a
      have c0 := hfs 0 (by omega) 0 (by omega)
      have c0' : w.cell? (Addr.add ⟨b, o, spot⟩ (0 * 3 + 0)) = some (.int .i64 (f 0).lo) := c0
      have hspot : spot = none := by simpa [Addr.add] using World.cell?_spot c0'
      subst hspot
      have hb : b < w.heap.size := World.block_lt_of_cell? w ⟨b, o, none⟩ (by simpa [Addr.add] using c0')
      have hll : ((List.range len).map f).length = len := by simp
      refine ⟨some ⟨b, o, none⟩, len, cap, (List.range len).map f, rfl, some ⟨b, o, none⟩, cap, by rw [hll], by rw [hll]; exact hl, hm, by rw [scs_len, hll], fun _ => ⟨b, o, rfl, hb, fun i u hu => ?_⟩⟩
      have hi2 : i < len * 3 := by have := (List.getElem?_eq_some_iff.1 hu).1; rw [scs_len, hll] at this; exact this
      have e : i = i / 3 * 3 + i % 3 := by omega
      have hlt : i / 3 < len := by omega
      rw [e] at hu ⊢
      rw [scs_at _ _ _ (by rw [hll]; exact hlt) (by omega)] at hu
      have g := hfs (i / 3) hlt (i % 3) (by omega)
      rw [add_mk] at g
      rw [g, ← hu]
      simp
set_option maxRecDepth 20000 in
theorem open_directory {r : Reach} {b0 : Nat} {v : Value} {d : DataW H} {p : List MemPlace} (hv : Value.okWide Try.prog w r b0 25 v) (h : DataW.Trod enc Try.prog w base (fun _ => true) held 25 v d p) :
    ∃ (D : Dd) (X : Dx), v = dv D X ∧ DR w w.heap.size D X := by
  obtain ⟨c0, c1, c2, y0, y1, y2, n, rfl, _, _, hy0, hy1, hy2⟩ := open_agg3 Try.underlying25 (by kernel_rfl) (by kernel_rfl) hv h
  obtain ⟨a0, e0, _, _⟩ := DataW.trod_int Try.underlying3 hy0
  obtain ⟨A, n', c', l, e1, hl⟩ := open_spans hy1
  obtain ⟨A2, n2, c2', F, e2, hF⟩ : ∃ A2 n2 c2' F, [c2] = [Value.slice A2 n2 c2'] ∧ Fl w w.heap.size (.slice A2 n2 c2') F := by
    rcases open_ints Try.underlying23 Try.underlying3 (by kernel_rfl) hy2 with ⟨hcs, _⟩ | ⟨x, l, c, zs, hcs, _, hl, hm, hz, _, hcell, hwz⟩
    · exact ⟨none, 0, 0, [], hcs, Fl.nil⟩
    · obtain ⟨ys, hy⟩ := Ns.of_cells hl hm (by simpa using hz) hcell hwz
      exact ⟨_, _, _, ys, hcs, Fl.of_ns hy⟩
  simp at e0 e1 e2
  subst e0 e1 e2
  have h1 := hl.len.1
  have h2 := hF.len.1
  subst h1 h2
  exact ⟨⟨a0, l, F⟩, ⟨A, c', A2, c2'⟩, rfl, hl, hF⟩
end
end Go.Proofs.Ytfkpkmcpepeaeaa
