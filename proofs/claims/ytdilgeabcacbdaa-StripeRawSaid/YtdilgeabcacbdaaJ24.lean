/- What is proved here: stripe.isOdd, isNumber, within, Begin and ref11.Begin, counted by contracts; cuts of a list of leases: what the walk gets, and how it reads; (plain) 'copy' between rows whose elements take more than one cell; rows known whole. -/
import Derived.Test.YtdilgeabcacbdaaJ23
import Derived.Test.YtdilgeabcacbdaaJ01
import Derived.IntWalk
import Derived.Test.YtdilgeabcacbdaaJ15
import Derived.Laws.Slices
import Derived.Laws.CopyRow
import Derived.Laws.CopyOwn
import Derived.Deep.RegionLaw
namespace Go.Proofs.Ytdilgeabcacbdaa
open Go.RowKit
set_option linter.unusedVariables false

theorem ywithin_any (n lo hi : Int) (w : World) : Calls Try.prog 59 #[.int .i64 n, .int .i64 lo, .int .i64 hi] w fun e w' => e = .returned (.bool (wi n lo hi)) ∧ w = w' := by
  by_cases h1 : lo ≤ n
  · by_cases h2 : n ≤ hi
    · have H := Lib.hid (wi_true h1 h2)
      go_enter Try.func59, Try.ntmps59
      go_wp2
      go_ret
      exact ⟨by rw [H.out]; rfl, rfl⟩
    · have H := Lib.hid (show wi n lo hi = false from decide_eq_false (fun h => h2 h.2))
      go_enter Try.func59, Try.ntmps59
      go_wp2
      go_ret
      exact ⟨by rw [H.out]; rfl, rfl⟩
  · have H := Lib.hid (show wi n lo hi = false from decide_eq_false (fun h => h1 h.1))
    go_enter Try.func59, Try.ntmps59
    go_wp2
    go_ret
    exact ⟨by rw [H.out]; rfl, rfl⟩
theorem ynumber_any (n : Int) (w : World) : Calls Try.prog 34 #[.int .i64 n] w fun e w' => e = .returned (.bool (nbB n)) ∧ w = w' := by
  have HC := Lib.hid (fun w => ywithin_any n 0 1099511627776 w)
  have HE := Lib.hid (show wi n 0 1099511627776 = nbB n from rfl)
  rw [HE.out] at HC
  clear HE
  generalize nbB n = b at *
  go_enter Try.func34, Try.ntmps34
  go_wp2_with fail
  refine (HC.out _).mono ?_
  rintro e w1 ⟨rfl, rfl⟩
  go_wp2
  go_ret
  exact ⟨rfl, rfl⟩
theorem yodd_any (n : Int) (w : World) : Calls Try.prog 35 #[.int .i64 n] w fun e w' => e = .returned (.bool (!evB n)) ∧ w = w' := by
  have H := Lib.hid (evB_not n)
  go_enter Try.func35, Try.ntmps35
  go_wp2
  go_ret
  exact ⟨by rw [← H.out]; rfl, rfl⟩
theorem rcounted_any (n : Int) (w : World) : Calls Try.prog 40 #[.int .i64 n] w fun e w' => e = .returned (.bool (nbB n)) ∧ w = w' := by
  by_cases h1 : 0 ≤ n
  · by_cases h2 : n ≤ 1099511627776
    · have H := Lib.hid (nbB_yes (n := n) ⟨h1, h2⟩)
      go_enter Try.func40, Try.ntmps40
      go_wp2
      go_ret
      exact ⟨by rw [H.out]; rfl, rfl⟩
    · have H := Lib.hid (nbB_no (n := n) (fun h => h2 h.2))
      go_enter Try.func40, Try.ntmps40
      go_wp2
      go_ret
      exact ⟨by rw [H.out]; rfl, rfl⟩
  · have H := Lib.hid (nbB_no (n := n) (fun h => h1 h.1))
    go_enter Try.func40, Try.ntmps40
    go_wp2
    go_ret
    exact ⟨by rw [H.out]; rfl, rfl⟩

/-- A stripe and an error as a result. -/
def StE (w : World) (T : St) (x : Int) (e : Ending) (w' : World) : Prop := e = .returned (.tuple #[T.v, .int .i64 x]) ∧ Below w.heap.size w w'
theorem below4 {w W : World} {B r : Nat} (h : Below B w W) (hr : B ≤ r) (a b c d : Value) : Below B w ((((W.setCell ⟨r, 0, none⟩ a).setCell ⟨r, 1, none⟩ b).setCell ⟨r, 2, none⟩ c).setCell ⟨r, 3, none⟩ d) :=
  (((h.setCell (p := ⟨r, 0, none⟩) hr _).setCell (p := ⟨r, 1, none⟩) hr _).setCell (p := ⟨r, 2, none⟩) hr _).setCell (p := ⟨r, 3, none⟩) hr _
theorem below2 (w : World) (x y : Obj) : Below w.heap.size w ((w.alloc x).alloc y) := ((Below.refl _ _).alloc (Nat.le_refl _) x).alloc (by simp) y
set_option maxHeartbeats 2000000 in
theorem rbegin_any (s : St) (w : World) : Calls Try.prog 9 #[s.v] w (StE w (bgT s) (bgE s)) := by
  by_cases h1 : 0 ≤ s.sq
  · by_cases h2 : s.sq ≤ 1099511627776
    · have hm : s.sq.tmod 2 = s.sq % 2 := tmod2_pos h1
      by_cases h3 : s.sq % 2 = 1
      · have HR := Lib.hid (bg_7 ⟨h1, h2⟩ h3)
        rw [h3] at hm
        clear h3
        go_enter Try.func9, Try.ntmps9
        go_wp2
        exact bodyPost_ret (v := .tuple #[zSt.v, .int .i64 7]) (by simp only [results, Try.results9]; go_simp <;> rfl) rfl ⟨by rw [HR.out.1, HR.out.2], below2 w _ _⟩
      · have h4 : s.sq % 2 = 0 := by omega
        by_cases h5 : 1099511627774 < s.sq
        · have HR := Lib.hid (bg_6 ⟨h1, h2⟩ h3 h5)
          rw [h4] at hm
          clear h3 h4
          go_enter Try.func9, Try.ntmps9
          go_wp2
          exact bodyPost_ret (v := .tuple #[zSt.v, .int .i64 6]) (by simp only [results, Try.results9]; go_simp <;> rfl) rfl ⟨by rw [HR.out.1, HR.out.2], below2 w _ _⟩
        · have HR := Lib.hid (bg_0 ⟨h1, h2⟩ h3 h5)
          rw [h4] at hm
          clear h3 h4
          have hw : IntKind.i64.wrap (s.sq + 1) = s.sq + 1 := IntWalk.i64_in _ (by omega)
          have hw2 : wrap64 (s.sq + 1) = s.sq + 1 := IntWalk.wrap64_in _ (by omega)
          go_enter Try.func9, Try.ntmps9
          go_wp2
          exact bodyPost_ret (v := .tuple #[.agg #[.int .i64 (s.sq + 1), .int .i64 s.ep, .int .i64 s.rd, .int .i64 s.ls], .int .i64 0]) (by simp only [results, Try.results9]; go_simp <;> rfl) rfl ⟨by rw [HR.out.1, HR.out.2], below2 w _ _⟩
    · have HR := Lib.hid (bg_1 (s := s) (fun h => h2 h.2))
      go_enter Try.func9, Try.ntmps9
      go_wp2
      exact bodyPost_ret (v := .tuple #[zSt.v, .int .i64 1]) (by simp only [results, Try.results9]; go_simp <;> rfl) rfl ⟨by rw [HR.out.1, HR.out.2], below2 w _ _⟩
  · have HR := Lib.hid (bg_1 (s := s) (fun h => h1 h.1))
    go_enter Try.func9, Try.ntmps9
    go_wp2
    exact bodyPost_ret (v := .tuple #[zSt.v, .int .i64 1]) (by simp only [results, Try.results9]; go_simp <;> rfl) rfl ⟨by rw [HR.out.1, HR.out.2], below2 w _ _⟩
end Go.Proofs.Ytdilgeabcacbdaa
namespace Go.Proofs.Ytdilgeabcacbdaa
open Go.RowKit
set_option linter.unusedVariables false

section
variable {w : World} {B : Nat} {A : Option Addr} {n c : Nat} {l : List Le}
theorem El.upto (h : El w B (.slice A n c) l) (j : Nat) (hj : j ≤ n) : El w B (.slice A j c) (l.take j) := by
  obtain ⟨hn, hl, hm⟩ := h.len
  have hlen : (l.take j).length = j := by simp; omega
  refine ⟨A, c, by rw [hlen], by rw [hlen]; omega, hm, by rw [ecs_len], fun h0 => ?_⟩
  rw [hlen] at h0
  obtain ⟨b, o, rfl, hb, hc⟩ := h.rd.2 (by omega)
  refine ⟨b, o, rfl, hb, fun k u hu => hc k u ?_⟩
  rw [← ecs_take] at hu
  have hk : k < j * 8 := by
    have := (List.getElem?_eq_some_iff.1 hu).1
    simp at this; omega
  rw [← hu, List.getElem?_take_of_lt hk]
theorem El.cut (h : El w B (.slice A n c) l) (k : Nat) (hk : k ≤ n) : El w B (.slice (if c = k then A else A.map (·.add (k * 8))) (n - k) (c - k)) (l.drop k) := by
  obtain ⟨hn, hl, hm⟩ := h.len
  refine ⟨_, c - k, by rw [List.length_drop, hn], by simp; omega, by omega, by rw [ecs_len], fun h0 => ?_⟩
  rw [List.length_drop] at h0
  obtain ⟨b, o, rfl, hb, hc⟩ := h.rd.2 (by omega)
  rw [if_neg (by omega)]
  refine ⟨b, o + k * 8, by rw [Option.map_some, add_mk], hb, fun j u hu => ?_⟩
  rw [Nat.add_assoc]
  refine hc _ u ?_
  rw [← hu, ← ecs_drop, List.getElem?_drop]
end
end Go.Proofs.Ytdilgeabcacbdaa
namespace Go.Proofs.Ytdilgeabcacbdaa
open Go.RowKit
set_option linter.unusedVariables false

section
variable {P : Program}
end

/-- A row of leases that is known whole: block g has the cells cur. -/
abbrev Rw (W : World) (g : Nat) (t : TypeId) (cur : List Value) : Prop := W.heap[g]? = some (.cells cur.toArray t (0, 0))
section
variable {W : World} {g base n cap size : Nat} {t e : TypeId} {cur xs : List Value} {v : Value}
theorem Rw.set (h : Rw W g t cur) (o : Nat) (cs : List Value) : Rw (W.setRow g (splice cur o cs).toArray) g t (splice cur o cs) := setRow_heap W g _ _ t _ h
theorem Rw.cell (h : Rw W g t cur) {j : Nat} {u : Value} (hj : cur[j]? = some u) : W.cell? ⟨g, j, none⟩ = some u := by
  simp [World.cell?, h, hj]
theorem Rw.of_own (h : W.ownsRow base e size v n xs) (h0 : 0 < n) : ∃ g cap cur, v = .slice (some ⟨g, 0, none⟩) n cap ∧ base ≤ g ∧ Rw W g e cur ∧ n ≤ cap ∧ cap ≤ maxLen ∧ cur.length = cap * size ∧ cur.take (n * size) = xs := by
  rcases h.2 with ⟨_, h⟩ | ⟨g, cap, cur, hv, hb, hh, hl, hm, hs, ht⟩
  · omega
  · exact ⟨g, cap, cur.toList, hv, hb, by simpa using hh, hl, hm, by simpa using hs, ht⟩
theorem Rw.own (h : Rw W g e cur) (hb : base ≤ g) (hl : n ≤ cap) (hm : cap ≤ maxLen) (hs : cur.length = cap * size) (ht : cur.take (n * size) = xs) : W.ownsRow base e size (.slice (some ⟨g, 0, none⟩) n cap) n xs := by
  refine ⟨?_, .inr ⟨g, cap, cur.toArray, rfl, hb, h, hl, hm, by simpa using hs, by simpa using ht⟩⟩
  rw [← ht, List.length_take, hs]
  exact Nat.min_eq_left (Nat.mul_le_mul_right _ hl)
theorem Rw.lt (h : Rw W g t cur) : g < W.heap.size := (Array.getElem?_eq_some_iff.1 h).1
theorem Rw.grown {W W' : World} {g : Nat} {t : TypeId} {cur : List Value} {row : Option Nat} (h : Rw W g t cur) (hg : W.grownBy W' row) (hne : some g ≠ row) : Rw W' g t cur := (hg.block g h.lt hne).trans h
theorem Rw.below {W W' : World} {B g : Nat} {t : TypeId} {cur : List Value} (h : Rw W g t cur) (hb : Below B W W') (hl : g < B) : Rw W' g t cur := (hb.block g hl).trans h
theorem Rw.free {W : World} {g : Nat} {t : TypeId} {cur : List Value} (h : Rw W g t cur) (o : Nat) : W.frozen? ⟨g, o, none⟩ = false := by
  have h : W.heap[g]? = some (.cells cur.toArray t (0, 0)) := h
  simp [World.frozen?, h]
theorem Rw.fresh (w : World) (cs : Array Value) (t : TypeId) : Rw (w.alloc (.cells cs t)) w.heap.size t cs.toList := by
  show (w.heap.push (.cells cs t))[w.heap.size]? = some (.cells cs.toList.toArray t (0, 0))
  simp
section
variable {P : Program} {ops : Array Oper} {o : Oper} {a : Act} {w : World}
end
end
end Go.Proofs.Ytdilgeabcacbdaa
