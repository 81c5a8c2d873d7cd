/- What is proved here: Span of the statements' base (split from Ssc); (plain) 'n & 0xFFFF' of any number; Wkv; (plain) addresses and slices that lie from a block on; (plain) lists of spans and of numbers that lie in memory, directories. -/
import Derived.Test.YtkecnihgjepfeaaJ02
import Derived.Test.YtkecnihgjepfeaaJ03
import Derived.Test.YtkecnihgjepfeaaJ01
import Derived.Below
import Derived.Deep.MidRow
import Derived.Laws.MakeOwn
namespace Go.Proofs.Ytkecnihgjepfeaa
open Go.RowKit
set_option linter.unusedVariables false

/-- A span of routes. -/
def SrSpan (B g : Nat) (w : World) (e : Ending) (w' : World) : Prop := ∃ lo hi, e = .returned (.tuple #[.int .i64 lo, .int .i64 hi]) ∧ 0 ≤ lo ∧ lo ≤ hi ∧ hi ≤ 65535 ∧ SrcAt w' B g ∧ w.grownBy w' (some g)
theorem row5 (w : World) (a b c d e : Int) (t : TypeId) : ∀ j (hj : j < [a, b, c, d, e].length), (w.alloc (.cells #[.int .i64 a, .int .i64 b, .int .i64 c, .int .i64 d, .int .i64 e] t)).cell? ⟨w.heap.size, j, none⟩ = some (.int .i64 [a, b, c, d, e][j]) := by
  intro j hj
  have h5 : j < 5 := hj
  match j, h5 with
  | 0, _ => simp [go_sem]
  | 1, _ => simp [go_sem]
  | 2, _ => simp [go_sem]
  | 3, _ => simp [go_sem]
  | 4, _ => simp [go_sem]
set_option maxHeartbeats 4000000 in
set_option maxRecDepth 20000 in
theorem span_any (B g : Nat) (w : World) (hsrc : SrcAt w B g) :
    Calls Try.prog 13 #[.pointer (some ⟨g, 0, none⟩)] w (SrSpan B g w) := by
  have HG0 := Lib.hid (show g < w.heap.size ∧ B ≤ g from ⟨hsrc.2.1, hsrc.1⟩)
  have P0 := Lib.hid (pick_any B g (w.alloc (.cells #[.int .i64 0, .int .i64 0, .int .i64 100, .int .i64 32768, .int .i64 65535] 3)) (hsrc.alloc (.cells #[.int .i64 0, .int .i64 0, .int .i64 100, .int .i64 32768, .int .i64 65535] 3)) w.heap.size 5 [0, 0, 100, 32768, 65535] rfl (by simp) (by have := HG0.out; omega) (by omega) (by omega) (row5 w 0 0 100 32768 65535 3))
  have G0 := Lib.hid (only_alloc (World.grownBy.refl w (some g)) (.cells #[.int .i64 0, .int .i64 0, .int .i64 100, .int .i64 32768, .int .i64 65535] 3))
  clear hsrc
  go_enter Try.func13, Try.ntmps13
  go_wp2_with fail
  refine P0.out.mono ?_
  rintro e w2 ⟨x, rfl, hx, hs, hg⟩
  have HX := Lib.hid (show 0 ≤ x ∧ x ≤ 65535 by simp at hx; omega)
  have P1 := Lib.hid (pick_any B g (w2.alloc (.cells #[.int .i64 65535, .int .i64 65535, .int .i64 40000, .int .i64 101, .int .i64 32768] 3)) (hs.alloc (.cells #[.int .i64 65535, .int .i64 65535, .int .i64 40000, .int .i64 101, .int .i64 32768] 3)) w2.heap.size 5 [65535, 65535, 40000, 101, 32768] rfl (by simp) (by have := hs.2.1; omega) (by omega) (by omega) (row5 w2 65535 65535 40000 101 32768 3))
  have G1 := Lib.hid (only_alloc (G0.out.trans hg) (.cells #[.int .i64 65535, .int .i64 65535, .int .i64 40000, .int .i64 101, .int .i64 32768] 3))
  clear hx hs hg
  go_wp2_with fail
  refine P1.out.mono ?_
  rintro e w3 ⟨y, rfl, hy, hs, hg⟩
  have HF := Lib.hid (show SrSpan B g w (.returned (.tuple #[.int .i64 (min x y), .int .i64 (max x y)])) w3 from
    ⟨_, _, rfl, by have := HX.out; simp at hy; omega, by omega, by have := HX.out; simp at hy; omega, hs, G1.out.trans hg⟩)
  clear hy hs hg
  go_wp2
  exact bodyPost_ret (v := .tuple #[.int .i64 (min x y), .int .i64 (max x y)]) (by simp only [results, Try.results13]; go_simp <;> rfl) rfl HF.out
end Go.Proofs.Ytkecnihgjepfeaa
namespace Go.Proofs.Ytkecnihgjepfeaa
open Go.RowKit
theorem i64_and65535 (n : Int) : bits .and .i64 n 65535 = n % 65536 := by
  have hm : (BitVec.ofInt 64 65535).toNat = 2 ^ 16 - 1 := by decide
  have key : (BitVec.ofInt 64 n &&& BitVec.ofInt 64 65535).toNat = (n % ((2 ^ 64 : Nat) : Int)).toNat % 2 ^ 16 := by
    rw [BitVec.toNat_and, BitVec.toNat_ofInt, hm, Nat.and_two_pow_sub_one_eq_mod]
  show IntKind.i64.wrap ((BitVec.ofInt 64 n &&& BitVec.ofInt 64 65535).toNat : Nat) = n % 65536
  rw [key, IntKind.wrap_i64]
  omega
end Go.Proofs.Ytkecnihgjepfeaa
/- Plain: a walk around the spans of a valid directory: which span comes next, how often each was visited. -/
namespace Go.Proofs.Ytkecnihgjepfeaa
open Go.RowKit
set_option linter.unusedVariables false

/-- The span that is visited after i others, the first one is k0. -/
def kap (n k0 i : Nat) : Nat := if k0 + i < n then k0 + i else k0 + i - n
/-- How often the span k was visited by i visits. -/
def cnW (n k0 i k : Nat) : Int := (if (if k0 ≤ k then k - k0 else k + n - k0) < i then 1 else 0) + (if k = k0 ∧ i = n + 1 then 1 else 0)
theorem cnW_in (n k0 i k : Nat) : 0 ≤ cnW n k0 i k ∧ cnW n k0 i k ≤ 2 := by
  unfold cnW
  split <;> split <;> omega
structure Wv (l : List Sp) (r : Int) (k0 i : Nat) (x : Wk) (V : Nat → Int) (f : Int) : Prop where
  i1 : i ≤ l.length + 1
  d : i ≤ l.length → ((sg l (kap l.length k0 i)).lo ≤ x.nx ∧ x.nx ≤ (sg l (kap l.length k0 i)).hi) ∧ (1 ≤ i → x.nx = (sg l (kap l.length k0 i)).lo) ∧ (i = 0 → x.nx = r) ∧ x.cv = (if k0 + i < l.length then 0 else 65536) + x.nx - r
  e : i = l.length + 1 → 65536 ≤ x.cv
  v : ∀ k, k < l.length → V (sg l k).sh.toNat = cnW l.length k0 i k
  f : f = if i = 0 then -1 else (sg l k0).sh
/-- The list of a valid directory. -/
structure Wl (l : List Sp) : Prop where
  sp : ∀ k, k < l.length → spK l k
  en : nxD l l.length = 65536
  sh : ∀ k, k < l.length → 0 ≤ (sg l k).sh ∧ (sg l k).sh ≤ 5
  di : ∀ j k, j < l.length → k < l.length → (sg l j).sh = (sg l k).sh → j = k
  n6 : l.length ≤ 65536
theorem kap_or (n k0 i : Nat) : (k0 + i < n ∧ kap n k0 i = k0 + i) ∨ (¬ k0 + i < n ∧ kap n k0 i = k0 + i - n) := by
  unfold kap
  split
  · exact .inl ⟨by assumption, rfl⟩
  · exact .inr ⟨by assumption, rfl⟩
section
variable {l : List Sp} {r : Int} {k0 i : Nat} {x : Wk} {V : Nat → Int} {f : Int}
theorem Wl.pos (h : Wl l) : 0 < l.length := by
  have := h.en
  rcases Nat.eq_zero_or_pos l.length with e | e
  · rw [e, nxD_zero] at this; exact absurd this (by decide)
  · exact e
theorem Wl.rg (h : Wl l) {k : Nat} (hk : k < l.length) : 0 ≤ (sg l k).lo ∧ (sg l k).lo ≤ (sg l k).hi ∧ (sg l k).hi ≤ 65535 := by
  obtain ⟨h1, h2, h3⟩ := h.sp k hk
  refine ⟨?_, h2, h3⟩
  cases k with
  | zero => rw [h1, nxD_zero]; exact Int.le_refl _
  | succ k =>
    have h4 : ∀ m, m < l.length → 0 ≤ (sg l m).lo := by
      intro m
      induction m with
      | zero => intro hm; rw [(h.sp 0 hm).1, nxD_zero]; exact Int.le_refl _
      | succ m ih =>
        intro hm
        have := ih (by omega)
        have h5 := (h.sp m (by omega)).2.1
        rw [(h.sp (m + 1) hm).1, nxD_succ]
        omega
    exact h4 _ hk
theorem Wl.next (h : Wl l) {k : Nat} (hk : k + 1 < l.length) : (sg l (k + 1)).lo = (sg l k).hi + 1 := by rw [(h.sp (k + 1) hk).1, nxD_succ]
theorem Wl.zero (h : Wl l) : (sg l 0).lo = 0 := by rw [(h.sp 0 h.pos).1, nxD_zero]
theorem Wl.last (h : Wl l) {k : Nat} (hk : k + 1 = l.length) : (sg l k).hi = 65535 := by
  have := h.en
  rw [← hk, nxD_succ] at this
  omega
theorem Wl.mono (h : Wl l) {j k : Nat} (hjk : j < k) (hk : k < l.length) : (sg l j).hi < (sg l k).lo := by
  induction k with
  | zero => omega
  | succ k ih =>
    have h1 := h.next hk
    rcases Nat.lt_succ_iff_lt_or_eq.1 hjk with h2 | rfl
    · have h3 := ih h2 (by omega)
      have h4 := (h.rg (k := k) (by omega)).2.1
      omega
    · omega
theorem Wl.find (h : Wl l) (r0 : 0 ≤ r) (r1 : r ≤ 65535) : ∃ k, k < l.length ∧ (sg l k).lo ≤ r ∧ r ≤ (sg l k).hi := by
  have key : ∀ m, m ≤ l.length → r < nxD l m → ∃ k, k < l.length ∧ (sg l k).lo ≤ r ∧ r ≤ (sg l k).hi := by
    intro m
    induction m with
    | zero => intro _ hr; rw [nxD_zero] at hr; omega
    | succ m ih =>
      intro hm hr
      rw [nxD_succ] at hr
      by_cases h1 : (sg l m).lo ≤ r
      · exact ⟨m, by omega, h1, by omega⟩
      · exact ih (by omega) (by rw [← (h.sp m (by omega)).1]; omega)
  exact key _ (Nat.le_refl _) (by rw [h.en]; omega)
theorem Wv.start (h : Wl l) (hk : k0 < l.length) (hr : (sg l k0).lo ≤ r ∧ r ≤ (sg l k0).hi) : Wv l r k0 0 ⟨r, 0⟩ (fun _ => 0) (-1) := by
  have e : kap l.length k0 0 = k0 := by unfold kap; rw [if_pos (by omega)]; rfl
  refine ⟨by omega, fun _ => ⟨by rw [e]; exact hr, by omega, fun _ => rfl, ?_⟩, by omega, fun k hk => ?_, rfl⟩
  · rw [if_pos (by omega)]; show (0 : Int) = 0 + r - r; omega
  · unfold cnW
    rw [if_neg (by omega), if_neg (by omega)]
    rfl
/-- The next span, and what comes before it. -/
theorem Wv.here (h : Wl l) (hk : k0 < l.length) (hr : (sg l k0).lo ≤ r ∧ r ≤ (sg l k0).hi) (v : Wv l r k0 i x V f) (ho : x.cv < 65536) :
    i ≤ l.length ∧ kap l.length k0 i < l.length ∧ ((sg l (kap l.length k0 i)).lo ≤ x.nx ∧ x.nx ≤ (sg l (kap l.length k0 i)).hi) ∧ (∀ j, j < kap l.length k0 i → (sg l j).lo ≤ x.nx ∧ (sg l j).hi < x.nx) ∧ 0 ≤ x.cv := by
  have hi : i ≤ l.length := by
    have h1 := v.i1
    have h2 := v.e
    by_cases e : i = l.length + 1
    · have := h2 e; omega
    · omega
  obtain ⟨d1, d2, d3, d4⟩ := v.d hi
  have hkp : kap l.length k0 i < l.length := by unfold kap; split <;> omega
  refine ⟨hi, hkp, d1, fun j hj => ?_, ?_⟩
  · have h1 := h.mono hj hkp
    have h2 := (h.rg (k := j) (by omega)).2.1
    omega
  · have hr2 := h.rg hk
    by_cases i0 : i = 0
    · have := d3 i0
      rw [d4]
      split <;> omega
    · have e1 := d2 (by omega)
      by_cases hlt : k0 + i < l.length
      · have e2 : kap l.length k0 i = k0 + i := if_pos hlt
        rw [e2] at e1
        have h3 := h.mono (show k0 < k0 + i by omega) hlt
        rw [d4, if_pos hlt]
        omega
      · have h4 := (h.rg hkp).1
        rw [d4, if_neg hlt]
        omega
theorem Wv.step (h : Wl l) (hk : k0 < l.length) (hr : (sg l k0).lo ≤ r ∧ r ≤ (sg l k0).hi) (v : Wv l r k0 i x V f) (ho : x.cv < 65536) {κ : Nat} (hκ : κ = kap l.length k0 i) :
    Wv l r k0 (i + 1) ⟨nxW (sg l κ).hi, x.cv + (sg l κ).hi - x.nx + 1⟩ (fun s => if s = (sg l κ).sh.toNat then V s + 1 else V s) (if f < 0 then (sg l κ).sh else f) := by
  obtain ⟨hi, hkp, hin, -, hc⟩ := v.here h hk hr ho
  rw [← hκ] at hkp hin
  have hv1 := v.d hi
  rw [← hκ] at hv1
  obtain ⟨d1, d2, d3, d4⟩ := hv1
  have hg := h.rg hkp
  have hnx := nxW_of (hi := (sg l κ).hi) (by omega) hg.2.2
  have hr2 := h.rg hk
  have hf0 : i = 0 → κ = k0 := fun e => by rw [hκ, e]; unfold kap; rw [if_pos (by omega)]; rfl
  refine ⟨by omega, fun hi2 => ?_, fun e => ?_, fun k hk2 => ?_, ?_⟩
  · by_cases h1 : κ + 1 < l.length
    · have e1 : kap l.length k0 (i + 1) = κ + 1 := by
        rcases kap_or l.length k0 (i + 1) with ⟨a1, a2⟩ | ⟨a1, a2⟩ <;> rcases kap_or l.length k0 i with ⟨b1, b2⟩ | ⟨b1, b2⟩ <;> omega
      have e3 := h.next h1
      have e4 : nxW (sg l κ).hi = (sg l (κ + 1)).lo := by
        rw [hnx, if_neg (by have := (h.rg h1); omega), e3]
      have e5 := (h.rg h1).2.1
      rw [e1]
      refine ⟨⟨?_, ?_⟩, fun _ => e4, fun e => absurd e (by omega), ?_⟩
      · show (sg l (κ + 1)).lo ≤ nxW (sg l κ).hi; omega
      · show nxW (sg l κ).hi ≤ (sg l (κ + 1)).hi; omega
      · show x.cv + (sg l κ).hi - x.nx + 1 = (if k0 + (i + 1) < l.length then 0 else 65536) + nxW (sg l κ).hi - r
        rw [e4, e3, d4]
        have e6 : (k0 + (i + 1) < l.length) ↔ (k0 + i < l.length) := by
          rcases kap_or l.length k0 i with ⟨b1, b2⟩ | ⟨b1, b2⟩ <;> constructor <;> omega
        by_cases e7 : k0 + i < l.length
        · rw [if_pos e7, if_pos (e6.2 e7)]; omega
        · rw [if_neg e7, if_neg (fun h => e7 (e6.1 h))]; omega
    · have h2 : κ + 1 = l.length := by omega
      have e0 : k0 + i + 1 = l.length := by
        rcases kap_or l.length k0 i with ⟨b1, b2⟩ | ⟨b1, b2⟩ <;> omega
      have e1 : kap l.length k0 (i + 1) = 0 := by unfold kap; rw [if_neg (by omega)]; omega
      have e3 := h.last h2
      have e4 : nxW (sg l κ).hi = (sg l 0).lo := by rw [hnx, if_pos e3, h.zero]
      have e5 := (h.rg h.pos).2.1
      rw [e1]
      refine ⟨⟨?_, ?_⟩, fun _ => e4, fun e => absurd e (by omega), ?_⟩
      · show (sg l 0).lo ≤ nxW (sg l κ).hi; omega
      · show nxW (sg l κ).hi ≤ (sg l 0).hi; omega
      · show x.cv + (sg l κ).hi - x.nx + 1 = (if k0 + (i + 1) < l.length then 0 else 65536) + nxW (sg l κ).hi - r
        rw [e4, h.zero, e3, d4, if_pos (by omega), if_neg (by omega)]
        omega
  · show 65536 ≤ x.cv + (sg l κ).hi - x.nx + 1
    have e1 : κ = k0 := by rw [hκ]; unfold kap; rw [if_neg (by omega)]; omega
    rw [d4, if_neg (by omega), e1]
    omega
  · show (if (sg l k).sh.toNat = (sg l κ).sh.toNat then V (sg l k).sh.toNat + 1 else V (sg l k).sh.toNat) = cnW l.length k0 (i + 1) k
    have hs1 := h.sh k hk2
    have hs2 := h.sh κ hkp
    rw [v.v k hk2]
    have hκ2 : (k0 + i < l.length ∧ κ = k0 + i) ∨ (¬ k0 + i < l.length ∧ κ = k0 + i - l.length) := by rw [hκ]; exact kap_or _ _ _
    by_cases e : k = κ
    · subst e
      rw [if_pos rfl]
      unfold cnW
      by_cases hi2 : i = l.length
      · have e1 : k = k0 := by omega
        have c1 : (if k0 ≤ k then k - k0 else k + l.length - k0) = 0 := by split <;> omega
        rw [c1, if_pos (show 0 < i by omega), if_neg (show ¬ (k = k0 ∧ i = l.length + 1) by omega), if_pos (show 0 < i + 1 by omega), if_pos (show k = k0 ∧ i + 1 = l.length + 1 by omega)]
        rfl
      · have e2 : (if k0 ≤ k then k - k0 else k + l.length - k0) = i := by
          split <;> omega
        rw [e2, if_neg (show ¬ i < i by omega), if_neg (show ¬ (k = k0 ∧ i = l.length + 1) by omega), if_pos (show i < i + 1 by omega), if_neg (show ¬ (k = k0 ∧ i + 1 = l.length + 1) by omega)]
        rfl
    · have ne : ¬ (sg l k).sh.toNat = (sg l κ).sh.toNat := fun h2 => e (h.di k κ hk2 hkp (by omega))
      rw [if_neg ne]
      unfold cnW
      have e2 : (if k0 ≤ k then k - k0 else k + l.length - k0) ≠ i ∨ (i = l.length ∧ k ≠ k0) := by
        by_cases hi2 : i = l.length
        · refine .inr ⟨hi2, fun e1 => e ?_⟩
          omega
        · refine .inl fun e3 => e ?_
          split at e3 <;> omega
      have e4 : (if k0 ≤ k then k - k0 else k + l.length - k0) < l.length := by split <;> omega
      generalize (if k0 ≤ k then k - k0 else k + l.length - k0) = m at *
      rcases e2 with e2 | ⟨e2, e5⟩
      · have e6 : i ≠ l.length ∨ k ≠ k0 := by
          by_cases h7 : i = l.length
          · right
            intro h8
            apply e
            omega
          · exact .inl h7
        have e7 : (m < i + 1) ↔ (m < i) := by omega
        by_cases h7 : m < i
        · rw [if_pos h7, if_pos (e7.2 h7), if_neg (show ¬ (k = k0 ∧ i = l.length + 1) by omega), if_neg (show ¬ (k = k0 ∧ i + 1 = l.length + 1) by omega)]
        · rw [if_neg h7, if_neg (fun g => h7 (e7.1 g)), if_neg (show ¬ (k = k0 ∧ i = l.length + 1) by omega), if_neg (show ¬ (k = k0 ∧ i + 1 = l.length + 1) by omega)]
      · rw [if_pos (show m < i by omega), if_pos (show m < i + 1 by omega), if_neg (show ¬ (k = k0 ∧ i = l.length + 1) by omega), if_neg (show ¬ (k = k0 ∧ i + 1 = l.length + 1) by omega)]
  · show (if f < 0 then (sg l κ).sh else f) = if i + 1 = 0 then -1 else (sg l k0).sh
    rw [if_neg (show ¬ i + 1 = 0 by omega)]
    have hf := v.f
    have hs := (h.sh k0 hk).1
    by_cases i0 : i = 0
    · rw [if_pos i0] at hf
      rw [hf, if_pos (by decide), hf0 i0]
    · rw [if_neg i0] at hf
      rw [if_neg (by omega), hf]
/-- When the walk is over. -/
theorem Wv.done (h : Wl l) (hk : k0 < l.length) (hr : (sg l k0).lo ≤ r ∧ r ≤ (sg l k0).hi) (v : Wv l r k0 i x V f) (ho : ¬ x.cv < 65536) {k : Nat} (hk2 : k < l.length) :
    (1 ≤ V (sg l k).sh.toNat ∧ V (sg l k).sh.toNat ≤ 2) ∧ (V (sg l k).sh.toNat = 2 → (sg l k).sh = f) := by
  have hi : l.length ≤ i := by
    by_cases h1 : l.length ≤ i
    · exact h1
    · exfalso
      obtain ⟨d1, d2, d3, d4⟩ := v.d (by omega)
      have hr2 := h.rg hk
      have hkp : kap l.length k0 i < l.length := by unfold kap; split <;> omega
      have hg := h.rg hkp
      by_cases h2 : k0 + i < l.length
      · rw [if_pos h2] at d4; omega
      · rw [if_neg h2] at d4
        have e1 := d2 (by omega)
        have e2 : kap l.length k0 i < k0 := by unfold kap; rw [if_neg h2]; omega
        have h3 := h.mono e2 hk
        omega
  have hp : (if k0 ≤ k then k - k0 else k + l.length - k0) < i := by split <;> omega
  rw [v.v k hk2]
  unfold cnW
  rw [if_pos hp]
  by_cases h2 : k = k0 ∧ i = l.length + 1
  · rw [if_pos h2]
    refine ⟨by omega, fun _ => ?_⟩
    rw [v.f, if_neg (by omega), h2.1]
  · rw [if_neg h2]
    exact ⟨by omega, fun h => absurd h (by omega)⟩
end
theorem wl_of {d : Dd} (h : vaD d = 0) : Wl d.l := by
  have k := ok_va h
  have h6 := k.rg.2
  refine ⟨k.sp, k.en, fun j hj => ?_, fun i j hi hj e => ?_, ?_⟩
  · have := k.ms j hj
    obtain ⟨h1, h2⟩ := this
    omega
  · rcases Nat.lt_trichotomy i j with h1 | h1 | h1
    · exact absurd ⟨i, j, h1, hj, e⟩ k.du
    · exact h1
    · exact absurd ⟨j, i, h1, hi, e.symm⟩ k.du
  · have h4 : ∀ m, m < d.l.length → (m : Int) ≤ (sg d.l m).lo := by
      intro m
      induction m with
      | zero => intro hm; rw [(k.sp 0 hm).1, nxD_zero]; exact Int.le_refl _
      | succ m ih =>
        intro hm
        have := ih (by omega)
        have h5 := (k.sp m (by omega)).2.1
        rw [(k.sp (m + 1) hm).1, nxD_succ]
        omega
    rcases Nat.eq_zero_or_pos d.l.length with e | e
    · omega
    · have h5 := h4 (d.l.length - 1) (by omega)
      have h6 := (k.sp (d.l.length - 1) (by omega)).2
      omega
end Go.Proofs.Ytkecnihgjepfeaa
namespace Go.Proofs.Ytkecnihgjepfeaa
open Go.RowKit
set_option linter.unusedVariables false

/-- An address lies from a block on. -/
def Nw (lo : Nat) (A : Option Addr) : Prop := ∀ a, A = some a → lo ≤ a.block
theorem nw_none {lo : Nat} : Nw lo none := fun a h => by cases h
theorem nw_some {lo b o : Nat} (h : lo ≤ b) : Nw lo (some ⟨b, o, none⟩) := fun a e => by injection e with e; subst e; exact h
theorem nw_low {lo lo' : Nat} {A : Option Addr} (h : Nw lo A) (hl : lo' ≤ lo) : Nw lo' A := fun a e => Nat.le_trans hl (h a e)
/-- A slice lies from a block on. -/
def NwV (lo : Nat) (v : Value) : Prop := ∀ A n c, v = .slice A n c → Nw lo A
theorem nwv_mk {lo n c : Nat} {A : Option Addr} (h : Nw lo A) : NwV lo (.slice A n c) := fun A' n' c' e => by injection e with e1 _ _; subst e1; exact h
theorem nwv_of {lo n c : Nat} {A : Option Addr} (h : NwV lo (.slice A n c)) : Nw lo A := h _ _ _ rfl
theorem nwv_own {W : World} {base lo n size : Nat} {e : TypeId} {v : Value} {xs : List Value} (h : W.ownsRow base e size v n xs) (hl : lo ≤ base) : NwV lo v := by
  rcases h.2 with ⟨hv, _⟩ | ⟨g, cap, cur, hv, hg, _⟩
  · subst hv; exact nwv_mk nw_none
  · subst hv; exact nwv_mk (nw_some (by omega))
end Go.Proofs.Ytkecnihgjepfeaa
namespace Go.Proofs.Ytkecnihgjepfeaa
open Go.RowKit
set_option linter.unusedVariables false

/-- The cells of a span. -/
def Sp.l (d : Sp) : List Value := [.int .i64 d.lo, .int .i64 d.hi, .int .i64 d.sh]
/-- The span as a value. -/
abbrev Sp.v (d : Sp) : Value := .agg #[.int .i64 d.lo, .int .i64 d.hi, .int .i64 d.sh]
theorem Sp.l_len (d : Sp) : d.l.length = 3 := rfl
theorem Sp.l_one (d : Sp) : ∀ u ∈ d.l, u.oneCell' = true := by
  intro u hu
  simp only [Sp.l, List.mem_cons, List.not_mem_nil, or_false] at hu
  rcases hu with rfl | rfl | rfl <;> rfl
def scs (l : List Sp) : List Value := l.flatMap Sp.l
theorem scs_cons (d : Sp) (l : List Sp) : scs (d :: l) = d.l ++ scs l := rfl
theorem scs_app (l m : List Sp) : scs (l ++ m) = scs l ++ scs m := by simp [scs]
theorem scs_len (l : List Sp) : (scs l).length = l.length * 3 := by
  induction l with
  | nil => rfl
  | cons d l ih => rw [scs_cons, List.length_append, ih, Sp.l_len]; simp; omega
theorem scs_drop (l : List Sp) (k : Nat) : (scs l).drop (k * 3) = scs (l.drop k) := by
  induction k generalizing l with
  | zero => simp
  | succ k ih =>
    cases l with
    | nil => simp [scs]
    | cons d l =>
      rw [scs_cons, List.drop_succ_cons, ← ih, show (k + 1) * 3 = d.l.length + k * 3 by rw [Sp.l_len]; omega, List.drop_append, List.drop_eq_nil_of_le (by omega)]
      simp
theorem scs_take (l : List Sp) (k : Nat) : (scs l).take (k * 3) = scs (l.take k) := by
  induction k generalizing l with
  | zero => simp [scs]
  | succ k ih =>
    cases l with
    | nil => simp [scs]
    | cons d l =>
      rw [scs_cons, List.take_succ_cons, scs_cons, ← ih, show (k + 1) * 3 = d.l.length + k * 3 by rw [Sp.l_len]; omega, List.take_append, List.take_of_length_le (by omega)]
      simp
theorem scs_at (l : List Sp) (k j : Nat) (hk : k < l.length) (hj : j < 3) : (scs l)[k * 3 + j]? = l[k].l[j]? := by
  have h := scs_drop l k
  have e : (scs l)[k * 3 + j]? = ((scs l).drop (k * 3))[j]? := by rw [List.getElem?_drop]
  rw [e, h, List.drop_eq_getElem_cons hk, scs_cons, List.getElem?_append_left (by rw [Sp.l_len]; exact hj)]
theorem scs_one (l : List Sp) : ∀ u ∈ scs l, u.oneCell' = true := by
  intro u hu
  obtain ⟨M, _, h⟩ := List.mem_flatMap.1 hu
  exact M.l_one u h
def ics (F : List Int) : List Value := F.map i64v
theorem ics_len (F : List Int) : (ics F).length = F.length * 1 := by simp [ics]
theorem ics_one (F : List Int) : ∀ u ∈ ics F, u.oneCell' = true := by
  intro u hu
  obtain ⟨M, _, rfl⟩ := List.mem_map.1 hu
  rfl
/-- A value that is a slice, reads as these spans and lies below B. -/
def Pl (w : World) (B : Nat) (v : Value) (l : List Sp) : Prop := ∃ A c, v = .slice A l.length c ∧ l.length ≤ c ∧ c ≤ maxLen ∧ Rd w B 3 A l.length (scs l)
section
variable {w w' : World} {B B' : Nat} {v : Value} {l : List Sp} {A : Option Addr} {n c : Nat}
theorem Pl.nil : Pl w B (.slice none 0 0) [] := ⟨none, 0, rfl, Nat.le_refl _, Nat.zero_le _, Rd.nil none⟩
theorem Pl.keep (h : Pl w B v l) (hk : ∀ p : Addr, p.block < B → w'.cell? p = w.cell? p) : Pl w' B v l := by
  obtain ⟨A, c, e, hl, hm, h⟩ := h; exact ⟨A, c, e, hl, hm, h.keep hk⟩
theorem Pl.more (h : Pl w B v l) (hB : B ≤ B') : Pl w B' v l := by
  obtain ⟨A, c, e, hl, hm, h⟩ := h; exact ⟨A, c, e, hl, hm, h.more hB⟩
theorem Pl.below (h : Pl w B v l) (hb : Below B w w') : Pl w' B v l := h.keep fun _ hp => hb.cell hp
theorem Pl.up (h : Pl w w.heap.size v l) (hb : Below w.heap.size w w') : Pl w' w'.heap.size v l := (h.below hb).more hb.size
theorem Pl.alloc (h : Pl w B v l) (hB : B ≤ w.heap.size) (o : Obj) : Pl (w.alloc o) B v l := h.keep fun p hp => World.cell?_alloc_lt w o p (by omega)
theorem Pl.setCell (h : Pl w B v l) {p : Addr} (hB : B ≤ p.block) (u : Value) : Pl (w.setCell p u) B v l :=
  h.keep fun q hq => World.cell?_setCell_other w p q u (fun e => by subst e; omega)
theorem Pl.len (h : Pl w B (.slice A n c) l) : n = l.length ∧ n ≤ c ∧ c ≤ maxLen := by
  obtain ⟨A', c', e, hl, hm, h⟩ := h
  injection e with e1 e2 e3
  subst e2; subst e3
  exact ⟨rfl, hl, hm⟩
theorem Pl.rd (h : Pl w B (.slice A n c) l) : Rd w B 3 A n (scs l) := by
  obtain ⟨A', c', e, hl, hm, h⟩ := h
  injection e with e1 e2 e3
  subst e1; subst e2
  exact h
theorem Pl.of_own {base : Nat} {e : TypeId} {n : Nat} (h : w.ownsRow base e 3 v n (scs l)) : Pl w w.heap.size v l := by
  have hl : n = l.length := by have := h.1; rw [scs_len] at this; omega
  subst hl
  rcases h.2 with ⟨hv, h0⟩ | ⟨g, cap, cur, hv, _, _, hl, hm, _⟩
  · subst hv; exact ⟨none, 0, by rw [h0], by omega, Nat.zero_le _, by rw [show l = [] from List.length_eq_zero_iff.1 h0]; exact Rd.nil _⟩
  · subst hv; exact ⟨_, cap, rfl, hl, hm, Rd.of_own h⟩
theorem Pl.offp (h : Pl w B (.slice A n c) l) {p : Addr} (ho : ∀ a, A = some a → 0 < n → a.block ≠ p.block) (v : Value) : Pl (w.setCell p v) B (.slice A n c) l := by
  obtain ⟨h1, h2, h3⟩ := h.len
  subst h1
  refine ⟨A, c, rfl, h2, h3, h.rd.1, fun hn => ?_⟩
  obtain ⟨b, o, e, hb, hc⟩ := h.rd.2 hn
  have := ho _ e hn
  exact ⟨b, o, e, hb, fun j u hu => (World.cell?_setCell_other w p _ v (fun e' => by have e2 := congrArg Addr.block e'; simp at e2 this; omega)).trans (hc j u hu)⟩
/-- The span at place k, and where it lies. -/
theorem Pl.atg {k : Nat} (h : Pl w B (.slice A n c) l) (hk : k < l.length) : ∃ b o, A = some ⟨b, o, none⟩ ∧ b < B ∧ w.cell? ⟨b, o + k * 3, none⟩ = some (.int .i64 (sg l k).lo) ∧ w.cell? ⟨b, o + k * 3 + 1, none⟩ = some (.int .i64 (sg l k).hi) ∧ w.cell? ⟨b, o + k * 3 + 2, none⟩ = some (.int .i64 (sg l k).sh) := by
  have hn := h.len.1
  obtain ⟨b, o, e, hb, hc⟩ := h.rd.2 (by omega)
  have g : ∀ j u, j < 3 → l[k].l[j]? = some u → w.cell? ⟨b, o + k * 3 + j, none⟩ = some u := fun j u hj hu => by
    rw [Nat.add_assoc]; exact hc _ u (by rw [scs_at l k j hk hj]; exact hu)
  rw [sg_get hk]
  exact ⟨b, o, e, hb, g 0 _ (by omega) rfl, g 1 _ (by omega) rfl, g 2 _ (by omega) rfl⟩
/-- A cut l[:k]. -/
theorem Pl.upto {k : Nat} (h : Pl w B (.slice A n c) l) (hk : k ≤ l.length) : Pl w B (.slice A k c) (l.take k) := by
  obtain ⟨h1, h2, h3⟩ := h.len
  refine ⟨A, c, by rw [List.length_take, Nat.min_eq_left hk], by rw [List.length_take, Nat.min_eq_left hk]; omega, h3, ?_⟩
  rw [List.length_take, Nat.min_eq_left hk]
  refine ⟨by rw [scs_len, List.length_take, Nat.min_eq_left hk], fun h0 => ?_⟩
  obtain ⟨b, o, e, hb, hc⟩ := h.rd.2 (by omega)
  exact ⟨b, o, e, hb, fun j u hu => hc j u (by
    rw [← scs_take, List.getElem?_take] at hu
    split at hu
    · exact hu
    · cases hu)⟩
/-- A cut l[k:]. -/
theorem Pl.from {k : Nat} (h : Pl w B (.slice A n c) l) (hk : k ≤ l.length) : Pl w B (.slice (if c = k then A else A.map (·.add (k * 3))) (l.length - k) (c - k)) (l.drop k) := by
  obtain ⟨h1, h2, h3⟩ := h.len
  refine ⟨_, c - k, by rw [List.length_drop], by rw [List.length_drop]; omega, by omega, ?_⟩
  rw [List.length_drop]
  refine ⟨by rw [scs_len, List.length_drop], fun h0 => ?_⟩
  obtain ⟨b, o, e, hb, hc⟩ := h.rd.2 (by omega)
  rw [if_neg (by omega), e]
  refine ⟨b, o + k * 3, by rw [Option.map_some, add_mk], hb, fun j u hu => ?_⟩
  rw [Nat.add_assoc]
  exact hc _ u (by rw [← scs_drop, List.getElem?_drop] at hu; exact hu)
end

/-- A value that is a slice, reads as these numbers and lies below B. -/
def Fl (w : World) (B : Nat) (v : Value) (l : List Int) : Prop := ∃ A c, v = .slice A l.length c ∧ l.length ≤ c ∧ c ≤ maxLen ∧ Rd w B 1 A l.length (ics l)
section
variable {w w' : World} {B B' : Nat} {v : Value} {l : List Int} {A : Option Addr} {n c : Nat}
theorem Fl.nil : Fl w B (.slice none 0 0) [] := ⟨none, 0, rfl, Nat.le_refl _, Nat.zero_le _, Rd.nil none⟩
theorem Fl.keep (h : Fl w B v l) (hk : ∀ p : Addr, p.block < B → w'.cell? p = w.cell? p) : Fl w' B v l := by
  obtain ⟨A, c, e, hl, hm, h⟩ := h; exact ⟨A, c, e, hl, hm, h.keep hk⟩
theorem Fl.more (h : Fl w B v l) (hB : B ≤ B') : Fl w B' v l := by
  obtain ⟨A, c, e, hl, hm, h⟩ := h; exact ⟨A, c, e, hl, hm, h.more hB⟩
theorem Fl.below (h : Fl w B v l) (hb : Below B w w') : Fl w' B v l := h.keep fun _ hp => hb.cell hp
theorem Fl.up (h : Fl w w.heap.size v l) (hb : Below w.heap.size w w') : Fl w' w'.heap.size v l := (h.below hb).more hb.size
theorem Fl.alloc (h : Fl w B v l) (hB : B ≤ w.heap.size) (o : Obj) : Fl (w.alloc o) B v l := h.keep fun p hp => World.cell?_alloc_lt w o p (by omega)
theorem Fl.setCell (h : Fl w B v l) {p : Addr} (hB : B ≤ p.block) (u : Value) : Fl (w.setCell p u) B v l :=
  h.keep fun q hq => World.cell?_setCell_other w p q u (fun e => by subst e; omega)
theorem Fl.len (h : Fl w B (.slice A n c) l) : n = l.length ∧ n ≤ c ∧ c ≤ maxLen := by
  obtain ⟨A', c', e, hl, hm, h⟩ := h
  injection e with e1 e2 e3
  subst e2; subst e3
  exact ⟨rfl, hl, hm⟩
theorem Fl.rd (h : Fl w B (.slice A n c) l) : Rd w B 1 A n (ics l) := by
  obtain ⟨A', c', e, hl, hm, h⟩ := h
  injection e with e1 e2 e3
  subst e1; subst e2
  exact h
theorem Fl.of_own {base : Nat} {e : TypeId} {n : Nat} (h : w.ownsRow base e 1 v n (ics l)) : Fl w w.heap.size v l := by
  have hl : n = l.length := by have := h.1; rw [ics_len] at this; omega
  subst hl
  rcases h.2 with ⟨hv, h0⟩ | ⟨g, cap, cur, hv, _, _, hl, hm, _⟩
  · subst hv; exact ⟨none, 0, by rw [h0], by omega, Nat.zero_le _, by rw [show l = [] from List.length_eq_zero_iff.1 h0]; exact Rd.nil _⟩
  · subst hv; exact ⟨_, cap, rfl, hl, hm, Rd.of_own h⟩
theorem Fl.offp (h : Fl w B (.slice A n c) l) {p : Addr} (ho : ∀ a, A = some a → 0 < n → a.block ≠ p.block) (v : Value) : Fl (w.setCell p v) B (.slice A n c) l := by
  obtain ⟨h1, h2, h3⟩ := h.len
  subst h1
  refine ⟨A, c, rfl, h2, h3, h.rd.1, fun hn => ?_⟩
  obtain ⟨b, o, e, hb, hc⟩ := h.rd.2 hn
  have := ho _ e hn
  exact ⟨b, o, e, hb, fun j u hu => (World.cell?_setCell_other w p _ v (fun e' => by have e2 := congrArg Addr.block e'; simp at e2 this; omega)).trans (hc j u hu)⟩
/-- The number at place k, and where it lies. -/
theorem Fl.atg {k : Nat} (h : Fl w B (.slice A n c) l) (hk : k < l.length) : ∃ b o, A = some ⟨b, o, none⟩ ∧ b < B ∧ w.cell? ⟨b, o + k, none⟩ = some (.int .i64 (ig l k)) := by
  have hn := h.len.1
  obtain ⟨b, o, e, hb, hc⟩ := h.rd.2 (by omega)
  rw [ig_get hk]
  exact ⟨b, o, e, hb, hc _ _ (by simp [ics, hk, i64v])⟩
end

/-- Where the lists of a directory lie. -/
structure Dx where
  A : Option Addr
  c : Nat
  A2 : Option Addr
  c2 : Nat
def zDx : Dx := ⟨none, 0, none, 0⟩
/-- A directory as a value. -/
abbrev dv (d : Dd) (X : Dx) : Value := .agg #[.int .i64 d.vn, .slice X.A d.l.length X.c, .slice X.A2 d.F.length X.c2]
/-- The lists of a directory read so, and lie below B. -/
structure DR (W : World) (B : Nat) (d : Dd) (X : Dx) : Prop where
  pl : Pl W B (.slice X.A d.l.length X.c) d.l
  fl : Fl W B (.slice X.A2 d.F.length X.c2) d.F
section
variable {W W' : World} {B B' p : Nat} {d : Dd} {X : Dx}
theorem DR.below (h : DR W B d X) (hb : Below B W W') : DR W' B d X := ⟨h.pl.below hb, h.fl.below hb⟩
theorem DR.more (h : DR W B d X) (hB : B ≤ B') : DR W B' d X := ⟨h.pl.more hB, h.fl.more hB⟩
theorem DR.up (h : DR W W.heap.size d X) (hb : Below W.heap.size W W') : DR W' W'.heap.size d X := (h.below hb).more hb.size
theorem DR.zero : DR W B zD10 zDx := ⟨Pl.nil, Fl.nil⟩
theorem DR.alloc (h : DR W W.heap.size d X) (o : Obj) : DR (W.alloc o) (W.alloc o).heap.size d X := h.up ((Below.refl _ _).alloc (Nat.le_refl _) o)
/-- The lists do not lie in block p. -/
structure DOff (d : Dd) (X : Dx) (p : Nat) : Prop where
  o1 : ∀ a, X.A = some a → 0 < d.l.length → a.block ≠ p
  o2 : ∀ a, X.A2 = some a → 0 < d.F.length → a.block ≠ p
theorem DR.offs (h : DR W B d X) (hp : B ≤ p) : DOff d X p := by
  refine ⟨fun a e h0 => ?_, fun a e h0 => ?_⟩
  · obtain ⟨b, o, e2, hb, _⟩ := h.pl.rd.2 h0
    rw [e2] at e; injection e with e; subst e; show b ≠ p; omega
  · obtain ⟨b, o, e2, hb, _⟩ := h.fl.rd.2 h0
    rw [e2] at e; injection e with e; subst e; show b ≠ p; omega
theorem DR.offp (h : DR W B d X) {q : Addr} (ho : DOff d X q.block) (v : Value) : DR (W.setCell q v) B d X := ⟨h.pl.offp ho.o1 v, h.fl.offp ho.o2 v⟩
/-- Both lie from a block on. -/
def Dx.nw (X : Dx) (lo : Nat) : Prop := Nw lo X.A ∧ Nw lo X.A2
theorem Dx.nw.off {lo : Nat} (h : X.nw lo) (hp : p < lo) : DOff d X p := ⟨fun a e _ => by have := h.1 a e; omega, fun a e _ => by have := h.2 a e; omega⟩
theorem Dx.nw.low {lo lo' : Nat} (h : X.nw lo) (hp : lo' ≤ lo) : X.nw lo' := ⟨nw_low h.1 hp, nw_low h.2 hp⟩
theorem zDx_nw (lo : Nat) : zDx.nw lo := ⟨nw_none, nw_none⟩
end
/-- Block p holds a directory, and may be written. -/
structure Db10 (W : World) (p : Nat) (d : Dd) (X : Dx) : Prop where
  c0 : W.cell? ⟨p, 0, none⟩ = some (.int .i64 d.vn)
  c1 : W.cell? ⟨p, 1, none⟩ = some (.slice X.A d.l.length X.c)
  c2 : W.cell? ⟨p, 2, none⟩ = some (.slice X.A2 d.F.length X.c2)
  fr : ∀ o, W.frozen? ⟨p, o, none⟩ = false
  lt : p < W.heap.size
section
variable {W W' : World} {p : Nat} {d : Dd} {X : Dx}
theorem Db10.keep (h : Db10 W p d X) (hc : ∀ o, W'.cell? ⟨p, o, none⟩ = W.cell? ⟨p, o, none⟩) (hf : ∀ o, W'.frozen? ⟨p, o, none⟩ = W.frozen? ⟨p, o, none⟩) (hs : W.heap.size ≤ W'.heap.size) : Db10 W' p d X :=
  ⟨(hc 0).trans h.c0, (hc 1).trans h.c1, (hc 2).trans h.c2, fun o => (hf o).trans (h.fr o), Nat.lt_of_lt_of_le h.lt hs⟩
theorem Db10.up (h : Db10 W p d X) (hb : Below W.heap.size W W') : Db10 W' p d X := h.keep (fun o => hb.cell (p := ⟨p, o, none⟩) h.lt) (fun o => hb.frozen (p := ⟨p, o, none⟩) h.lt) hb.size
theorem Db10.alloc (h : Db10 W p d X) (o : Obj) : Db10 (W.alloc o) p d X := h.up ((Below.refl _ _).alloc (Nat.le_refl _) o)
theorem Db10.other (h : Db10 W p d X) {a : Addr} (hne : a.block ≠ p) (v : Value) : Db10 (W.setCell a v) p d X :=
  h.keep (fun o => World.cell?_setCell_other W a ⟨p, o, none⟩ v (fun e => hne (by rw [e]))) (fun o => by simp [go_sem]) (by simp)
theorem Db10.grown {g : Nat} (h : Db10 W p d X) (hg : W.grownBy W' (some g)) (hne : p ≠ g) : Db10 W' p d X := h.keep (fun o => hg.cell_far ⟨p, o, none⟩ h.lt (fun e => by injection e with e; exact hne e)) (fun o => hg.frozen_far ⟨p, o, none⟩ h.lt (fun e => by injection e with e; exact hne e)) hg.size
theorem Db10.start (w : World) (d : Dd) (X : Dx) (t : TypeId) : Db10 (w.alloc (.cells #[.int .i64 d.vn, .slice X.A d.l.length X.c, .slice X.A2 d.F.length X.c2] t)) w.heap.size d X :=
  ⟨by simp [go_sem], by simp [go_sem], by simp [go_sem], fun o => by simp [go_sem], by simp⟩
theorem Db10.zero (w : World) (t : TypeId) : Db10 (w.alloc (.cells #[.int .i64 0, .slice none 0 0, .slice none 0 0] t)) w.heap.size zD10 zDx := Db10.start w zD10 zDx t
theorem Db10.set (h : Db10 W p d X) (e : Dd) (Y : Dx) : Db10 (((W.setCell ⟨p, 0, none⟩ (.int .i64 e.vn)).setCell ⟨p, 1, none⟩ (.slice Y.A e.l.length Y.c)).setCell ⟨p, 2, none⟩ (.slice Y.A2 e.F.length Y.c2)) p e Y := by
  obtain ⟨c0, c1, c2, fr, lt⟩ := h
  exact ⟨by simp [go_sem, c0], by simp [go_sem, c1], by simp [go_sem, c2], fun o => by simp [go_sem, fr o], by simp [lt]⟩
theorem Db10.all (h : Db10 W p d X) : (W.cell? ⟨p, 0, none⟩ = some (.int .i64 d.vn) ∧ W.cell? ⟨p, 1, none⟩ = some (.slice X.A d.l.length X.c) ∧ W.cell? ⟨p, 2, none⟩ = some (.slice X.A2 d.F.length X.c2) ∧ p < W.heap.size) ∧ W.frozen? ⟨p, 0, none⟩ = false ∧ W.frozen? ⟨p, 1, none⟩ = false ∧ W.frozen? ⟨p, 2, none⟩ = false := ⟨⟨h.c0, h.c1, h.c2, h.lt⟩, h.fr 0, h.fr 1, h.fr 2⟩
end
/-- A directory in a box of the call's own. -/
structure DAt (w : World) (p : Nat) (d : Dd) (X : Dx) (W : World) : Prop where
  db : Db10 W p d X
  dr : DR W W.heap.size d X
  off : DOff d X p
  bel : Below w.heap.size w W
  old : w.heap.size ≤ p
section
variable {w W W' : World} {p : Nat} {d : Dd} {X : Dx}
theorem DAt.start {w : World} {d : Dd} {X : Dx} (t : TypeId) (h : DR w w.heap.size d X) : DAt w w.heap.size d X (w.alloc (.cells #[.int .i64 d.vn, .slice X.A d.l.length X.c, .slice X.A2 d.F.length X.c2] t)) :=
  ⟨Db10.start w d X t, h.alloc _, h.offs (Nat.le_refl _), (Below.refl _ _).alloc (Nat.le_refl _) _, Nat.le_refl _⟩
theorem DAt.below (h : DAt w p d X W) (hb : Below W.heap.size W W') : DAt w p d X W' := ⟨h.db.up hb, h.dr.up hb, h.off, h.bel.trans (hb.mono h.bel.size), h.old⟩
theorem DAt.alloc (h : DAt w p d X W) (o : Obj) : DAt w p d X (W.alloc o) := h.below ((Below.refl _ _).alloc (Nat.le_refl _) o)
theorem DAt.drew (h : DAt w p d X W) : DAt w p d X W.drew := h.below (Below.refl _ _).drew
theorem DAt.other (h : DAt w p d X W) {a : Addr} (hne : a.block ≠ p) (ho : DOff d X a.block) (ha : w.heap.size ≤ a.block) (v : Value) : DAt w p d X (W.setCell a v) :=
  ⟨h.db.other hne v, (h.dr.offp ho v).more (by simp), h.off, h.bel.setCell ha v, h.old⟩
/-- The cells of the box. -/
abbrev K3 (p : Nat) (d : Dd) (X : Dx) (W : World) : Prop := W.cell? ⟨p, 0, none⟩ = some (.int .i64 d.vn) ∧ W.cell? ⟨p, 1, none⟩ = some (.slice X.A d.l.length X.c) ∧ W.cell? ⟨p, 2, none⟩ = some (.slice X.A2 d.F.length X.c2)
theorem DAt.k (h : DAt w p d X W) : K3 p d X W := ⟨h.db.c0, h.db.c1, h.db.c2⟩
end
end Go.Proofs.Ytkecnihgjepfeaa
