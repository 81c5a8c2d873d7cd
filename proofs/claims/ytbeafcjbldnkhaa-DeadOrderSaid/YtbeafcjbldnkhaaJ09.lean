/- What is proved here: shardqueueref08.New, sound, Validate, Room, Same by contracts; Purged of message, by one contract for all arguments; dead.pull of what Take and what Clean want, by contracts. -/
import Derived.Test.YtbeafcjbldnkhaaJ07
import Derived.Test.YtbeafcjbldnkhaaJ08
import Derived.Test.YtbeafcjbldnkhaaJ01
import Derived.Deep.AppendLies
namespace Go.Proofs.Ytbeafcjbldnkhaa
open Go.RowKit
set_option linter.unusedVariables false

theorem ix8_self {l : List Msg} (h : ¬ dupP l) {k : Nat} (hk : k < l.length) : ixF l l[k].id = k :=
  ixF_hit hk rfl (fun j hj hlt e => h ⟨j, k, hj, hk, hlt, e⟩)
theorem ix8_other {l : List Msg} {k : Nat} (hk : k < l.length) (h : ixF l l[k].id ≠ k) : dupP l := by
  rcases ixF_cases l l[k].id with ⟨_, hn⟩ | ⟨j, hj, e, hi, hn⟩
  · exact absurd rfl (hn k hk)
  · rw [e] at h
    have hjk : j ≠ k := fun e => h (by rw [e])
    rcases Nat.lt_or_ge j k with hlt | hge
    · exact ⟨j, k, hj, hk, hlt, hi⟩
    · exact absurd rfl (hn k hk (by omega))
theorem ix8_none {l : List Msg} (h : ∀ k (hk : k < l.length), ixF l l[k].id = k) : ¬ dupP l := by
  rintro ⟨i, j, hi, hj, hij, e⟩
  have h1 := h i hi
  have h2 := h j hj
  rw [e, h2] at h1
  omega
theorem rnew8_any (n : Int) (w : World) : Calls Try.prog 8 #[.int .i64 n] w (N8 w (nw8 n) (nw8E n)) := by
  have HB := Lib.hid (DB.fresh w 0 none 0 0 24)
  by_cases h1 : n < 1
  · have h := wi_low (hi := 24) h1
    have HE := Lib.hid (show nw8 n = 0 ∧ nw8E n = 1 from ⟨if_neg (by rw [h]; decide), if_neg (by rw [h]; decide)⟩)
    clear h
    go_enter Try.func8, Try.ntmps8
    obtain ⟨b0, b1, bl, f0, f1⟩ := HB.out.all
    go_wp2
    exact bodyPost_ret (v := .tuple #[.agg #[.int .i64 0, .slice none 0 0], .int .i64 1]) (by simp only [results, Try.results8]; go_simp <;> rfl) rfl ⟨by rw [HE.out.1, HE.out.2], (Below.refl _ _).alloc (Nat.le_refl _) _⟩
  · by_cases h2 : 24 < n
    · have h := wi_high (lo := 1) h2
      have HE := Lib.hid (show nw8 n = 0 ∧ nw8E n = 1 from ⟨if_neg (by rw [h]; decide), if_neg (by rw [h]; decide)⟩)
      clear h
      go_enter Try.func8, Try.ntmps8
      obtain ⟨b0, b1, bl, f0, f1⟩ := HB.out.all
      go_wp2
      exact bodyPost_ret (v := .tuple #[.agg #[.int .i64 0, .slice none 0 0], .int .i64 1]) (by simp only [results, Try.results8]; go_simp <;> rfl) rfl ⟨by rw [HE.out.1, HE.out.2], (Below.refl _ _).alloc (Nat.le_refl _) _⟩
    · have h := wi_true (lo := 1) (hi := 24) (n := n) (by omega) (by omega)
      have HE := Lib.hid (show nw8 n = n ∧ nw8E n = 0 from ⟨if_pos h, if_pos h⟩)
      clear h
      go_enter Try.func8, Try.ntmps8
      obtain ⟨b0, b1, bl, f0, f1⟩ := HB.out.all
      go_wp2
      exact bodyPost_ret (v := .tuple #[.agg #[.int .i64 n, .slice none 0 0], .int .i64 0]) (by simp only [results, Try.results8]; go_simp <;> rfl) rfl ⟨by rw [HE.out.1, HE.out.2], (Below.refl _ _).alloc (Nat.le_refl _) _⟩
set_option maxHeartbeats 4000000 in
set_option maxRecDepth 20000 in
theorem rsound8_any (A : Option Addr) (n c : Nat) (l : List Msg) (w : World) (hv : Ls w w.heap.size (.slice A n c) l) :
    Calls Try.prog 43 #[.slice A n c] w (V8 w (so8 l)) := by
  obtain ⟨rfl, hm1, hm2⟩ := hv.len
  have hL : l.length ≤ 9223372036854775807 := by unfold maxLen at hm2; omega
  have HV := Lib.hid hv
  have HE := Lib.hid (fun k (hk : k < l.length) hn h => so8_fe (l := l) (by rw [fe_hit hk hn h]; exact h) |>.trans (fe_hit hk hn h))
  have HD := Lib.hid (fun (h : ∀ M ∈ l, vf M = 0) => so8_dup (fe_all h))
  have HK := Lib.hid (fun (h : ∀ M ∈ l, vf M = 0) => so8_ok (fe_all h))
  clear hv hm1 hm2
  generalize so8 l = S at *
  go_enter Try.func43, Try.ntmps43
  go_wp2
  go_loopw [3] (fun i wr => ∃ k : Nat, k ≤ l.length ∧ i = .int .i64 k ∧ Below w.heap.size w wr ∧ ∀ j (hj : j < l.length), j < k → vf l[j] = 0) (fun i _ => l.length - (intOf i).toNat)
  case atStart => exact ⟨0, by omega, rfl, Below.refl _ _, fun j _ h => absurd h (by omega)⟩
  case round =>
    obtain ⟨k, hk, rfl, hb, hn⟩ := hrel
    have HB := Lib.hid hb
    have HN := Lib.hid hn
    have HVK := Lib.hid (HV.out.below hb)
    clear hb hn
    by_cases hlt : k < l.length
    · have HEK := Lib.hid (HE.out k hlt HN.out)
      have HX := Lib.hid (fun W => rvalidate_any l[k] W)
      obtain ⟨b, o, rfl, hb, c0, c1, c2, c3, c4, c5, c6⟩ := HVK.out.at_ hlt
      by_cases h0 : vf l[k] = 0
      · have HV0 := Lib.hid h0
        rw [h0] at HX
        clear h0 HEK
        generalize hX0 : l[k] = X at *
        have HX0 := Lib.hid hX0
        clear hX0
        go_wp2_with fail
        refine (HX.out _).mono ?_
        rintro e w2 ⟨rfl, hb⟩
        have HB2 := Lib.hid (HB.out.trans (hb.mono HB.out.size))
        clear hb
        go_wp2
        go_roundw
        case rel => exact ⟨k + 1, by omega, by go_num, HB2.out, fun j hj hjk => by
          by_cases e : j = k
          · subst e; rw [HX0.out]; exact HV0.out
          · exact HN.out j hj (by omega)⟩
        case measure => simp [intOf]; omega
      · have HQ := Lib.hid (HEK.out h0)
        have hne : (vf l[k] != 0) = true := by simpa using h0
        clear h0 HEK
        generalize l[k] = X at *
        generalize vf X = v at *
        go_wp2_with fail
        refine (HX.out _).mono ?_
        rintro e w2 ⟨rfl, hb⟩
        have HB2 := Lib.hid (HB.out.trans (hb.mono HB.out.size))
        clear hb
        go_wp2
        go_ret
        exact ⟨by rw [HQ.out]; rfl, HB2.out⟩
    · have HAL := Lib.hid (show ∀ M ∈ l, vf M = 0 from fun M hM => by
        obtain ⟨j, hj, rfl⟩ := List.getElem_of_mem hM
        exact HN.out j hj (by omega))
      have hk' : k ≤ l.length := hk
      go_wp2
      clear HE HN
      go_loop [5] (fun i => ∃ j : Nat, j ≤ l.length ∧ i = .int .i64 j ∧ ∀ m (hm : m < l.length), m < j → ixF l l[m].id = m) (fun i => l.length - (intOf i).toNat)
      case atStart => exact ⟨0, by omega, rfl, fun j _ h => absurd h (by omega)⟩
      case round =>
        obtain ⟨j, hj, rfl, hn⟩ := hrel
        have HN := Lib.hid hn
        clear hn
        by_cases hlt : j < l.length
        · have HIX := Lib.hid (fun W (h : Ls W w.heap.size (.slice A l.length c) l) => rindex_any A l.length c l l[j].id W w.heap.size h)
          have HO := Lib.hid (ix8_other hlt)
          obtain ⟨b, o, rfl, hb, c0, c1, c2, c3, c4, c5, c6⟩ := HVK.out.at_ hlt
          by_cases h0 : ixF l l[j].id = j
          · have HJ := Lib.hid h0
            rw [h0] at HIX
            clear h0 HO
            generalize hX0 : l[j] = X at *
            have HX0 := Lib.hid hX0
            clear hX0
            go_wp2_with fail
            refine (HIX.out _ HVK.out).mono ?_
            rintro e w2 ⟨rfl, rfl⟩
            go_wp2
            go_round
            case rel => exact ⟨j + 1, by omega, by go_num, fun m hm hmj => by
              by_cases e : m = j
              · subst e; rw [HX0.out]; exact HJ.out
              · exact HN.out m hm (by omega)⟩
            case measure => simp [intOf]; omega
          · have HQ := Lib.hid (HD.out HAL.out (HO.out h0))
            have hne : (ixF l l[j].id != (j : Int)) = true := by simpa using h0
            clear h0 HO
            generalize l[j] = X at *
            generalize ixF l X.id = v at *
            go_wp2_with fail
            refine (HIX.out _ HVK.out).mono ?_
            rintro e w2 ⟨rfl, rfl⟩
            go_wp2
            go_ret
            exact ⟨by rw [HQ.out]; rfl, HB.out⟩
        · have HQ := Lib.hid (HK.out HAL.out (ix8_none fun m hm => HN.out m hm (by omega)))
          go_wp2
          go_ret
          exact ⟨by rw [HQ.out]; rfl, HB.out⟩
set_option maxHeartbeats 2000000 in
theorem rva8_any (cap : Int) (A : Option Addr) (n c : Nat) (l : List Msg) (w : World) (hv : Ls w w.heap.size (.slice A n c) l) :
    Calls Try.prog 27 #[.agg #[.int .i64 cap, .slice A n c]] w (V8 w (va8 cap l)) := by
  obtain ⟨rfl, hm1, hm2⟩ := hv.len
  have hL : l.length ≤ 9223372036854775807 := by unfold maxLen at hm2; omega
  have H0 := Lib.hid (VaAt8.start 24 cap hv)
  have HS := Lib.hid (fun W (h : VaAt8 w w.heap.size cap A c l W) => rsound8_any A l.length c l W h.here)
  clear hv hm1 hm2
  by_cases h1 : cap < 1
  · have HQ := Lib.hid (va8_cap (l := l) (wi_low (hi := 24) h1))
    obtain ⟨b0, b1, bl⟩ := H0.out.db.facts
    go_enter Try.func27, Try.ntmps27
    go_wp2
    go_ret
    exact ⟨by rw [HQ.out]; rfl, H0.out.bel⟩
  · by_cases h2 : 24 < cap
    · have HQ := Lib.hid (va8_cap (l := l) (wi_high (lo := 1) h2))
      obtain ⟨b0, b1, bl⟩ := H0.out.db.facts
      go_enter Try.func27, Try.ntmps27
      go_wp2
      go_ret
      exact ⟨by rw [HQ.out]; rfl, H0.out.bel⟩
    · have hw := wi_true (lo := 1) (hi := 24) (n := cap) (by omega) (by omega)
      by_cases h3 : cap < (l.length : Int)
      · have HQ := Lib.hid (va8_long hw h3)
        clear hw
        obtain ⟨b0, b1, bl⟩ := H0.out.db.facts
        go_enter Try.func27, Try.ntmps27
        go_wp2
        go_ret
        exact ⟨by rw [HQ.out]; rfl, H0.out.bel⟩
      · have HQ := Lib.hid (va8_so hw h3)
        clear hw
        obtain ⟨b0, b1, bl⟩ := H0.out.db.facts
        generalize so8 l = S at *
        go_enter Try.func27, Try.ntmps27
        go_wp2_with fail
        refine (HS.out _ H0.out).mono ?_
        rintro e w1 ⟨rfl, hb⟩
        have H1 := Lib.hid (H0.out.below hb)
        clear hb b0 b1 bl
        go_wp2
        go_ret
        exact ⟨by rw [HQ.out]; rfl, H1.out.bel⟩
set_option maxHeartbeats 1000000 in
theorem rroom8_any (cap : Int) (A : Option Addr) (n c : Nat) (l : List Msg) (w : World) (hv : Ls w w.heap.size (.slice A n c) l) :
    Calls Try.prog 28 #[.agg #[.int .i64 cap, .slice A n c]] w (V8 w (ro8 cap l)) := by
  obtain ⟨rfl, hm1, hm2⟩ := hv.len
  have H0 := Lib.hid (VaAt8.start 24 cap hv)
  have HV := Lib.hid (fun W (h : VaAt8 w w.heap.size cap A c l W) => rva8_any cap A l.length c l W h.here)
  clear hv hm1 hm2
  by_cases h0 : va8 cap l = 0
  · have HQ := Lib.hid (show ro8 cap l = cap - l.length from if_pos h0)
    have hk := ok8_iff.1 h0
    obtain ⟨k1, k2, k3, _, _⟩ := hk
    rw [h0] at HV
    have hwr : wrap64 (cap - (l.length : Int)) = cap - (l.length : Int) := IntWalk.wrap64_in _ (by omega)
    have HWR := Lib.hid hwr
    clear h0 hwr
    obtain ⟨b0, b1, bl⟩ := H0.out.db.facts
    go_enter Try.func28, Try.ntmps28
    go_wp2_with fail
    refine (HV.out _ H0.out).mono ?_
    rintro e w1 ⟨rfl, hb⟩
    have H1 := Lib.hid (H0.out.below hb)
    clear hb b0 b1 bl
    obtain ⟨b0, b1, bl⟩ := H1.out.db.facts
    go_wp2
    go_ret
    exact ⟨by rw [HQ.out]; rfl, H1.out.bel⟩
  · have HQ := Lib.hid (show ro8 cap l = 0 from if_neg h0)
    have hne : (va8 cap l != 0) = true := by simpa using h0
    clear h0
    generalize va8 cap l = v at *
    obtain ⟨b0, b1, bl⟩ := H0.out.db.facts
    go_enter Try.func28, Try.ntmps28
    go_wp2_with fail
    refine (HV.out _ H0.out).mono ?_
    rintro e w1 ⟨rfl, hb⟩
    have H1 := Lib.hid (H0.out.below hb)
    clear hb
    go_wp2
    go_ret
    exact ⟨by rw [HQ.out]; rfl, H1.out.bel⟩
/-- Two stores that are the same. -/
theorem rsame8_yes (cap : Int) (A A' : Option Addr) (n n' c c' : Nat) (l : List Msg) (w : World) (hv : Ls w w.heap.size (.slice A n c) l) (hv' : Ls w w.heap.size (.slice A' n' c') l) :
    Calls Try.prog 9 #[.agg #[.int .i64 cap, .slice A n c], .agg #[.int .i64 cap, .slice A' n' c']] w fun e w' => e = .returned (.bool true) ∧ Below w.heap.size w w' := by
  obtain ⟨rfl, _, _⟩ := hv.len
  obtain ⟨rfl, _, _⟩ := hv'.len
  have H0 := Lib.hid ((VaAt8.start 24 cap hv).alloc (.cells #[.int .i64 cap, .slice A' l.length c'] 24))
  have h1 := VaAt8.start (w := w.alloc (.cells #[.int .i64 cap, .slice A l.length c] 24)) 24 cap ((hv'.alloc (Nat.le_refl _) (.cells #[.int .i64 cap, .slice A l.length c] 24)).more (by simp))
  rw [show (w.alloc (.cells #[.int .i64 cap, .slice A l.length c] 24)).heap.size = w.heap.size + 1 by simp] at h1
  have H1 := Lib.hid h1
  have HS := Lib.hid (fun W (h : Ls W W.heap.size (.slice A l.length c) l) (h' : Ls W W.heap.size (.slice A' l.length c') l) => rsame_yes A A' l.length l.length c c' l W _ _ h h')
  clear hv hv' h1
  obtain ⟨b0, b1, bl⟩ := H0.out.db.facts
  obtain ⟨d0, d1, dl⟩ := H1.out.db.facts
  go_enter Try.func9, Try.ntmps9
  go_wp2_with fail
  refine (HS.out _ H0.out.here H1.out.here).mono ?_
  rintro e w1 ⟨rfl, hb⟩
  have HF := Lib.hid (H0.out.below hb)
  clear hb b0 b1 bl d0 d1 dl
  go_wp2
  go_ret
  exact ⟨rfl, HF.out.bel⟩
end Go.Proofs.Ytbeafcjbldnkhaa
namespace Go.Proofs.Ytbeafcjbldnkhaa
open Go.RowKit
set_option linter.unusedVariables false

def puF (M : Msg) (e : Int) : Bool := decide (M.ep < e)

theorem purged_any (M : Msg) (k : Int) (w : World) : Calls Try.prog 41 #[M.v, .int .i64 k] w fun e w' => e = .returned (.bool (puF M k)) ∧ Below w.heap.size w w' := by
  have HB := Lib.hid ((Below.refl w.heap.size w).alloc (Nat.le_refl _) (.cells M.cs 37))
  by_cases h : M.ep < k
  · have HF := Lib.hid (show puF M k = true from decide_eq_true h)
    go_enter Try.func41, Try.ntmps41
    go_wp2
    go_ret
    exact ⟨by rw [HF.out]; rfl, HB.out⟩
  · have HF := Lib.hid (show puF M k = false from decide_eq_false h)
    go_enter Try.func41, Try.ntmps41
    go_wp2
    go_ret
    exact ⟨by rw [HF.out]; rfl, HB.out⟩

end Go.Proofs.Ytbeafcjbldnkhaa
namespace Go.Proofs.Ytbeafcjbldnkhaa
open Go.RowKit
set_option linter.unusedVariables false

/-- The box of the epoch that a function value holds. -/
def CapE (b : Nat) (ep : Int) (W : World) : Prop := W.cell? ⟨b, 0, none⟩ = some (.int .i64 ep) ∧ b < W.heap.size
theorem CapE.below {b : Nat} {ep : Int} {w W : World} (h : CapE b ep w) (hb : Below w.heap.size w W) : CapE b ep W := ⟨(hb.cell (p := ⟨b, 0, none⟩) h.2).trans h.1, Nat.lt_of_lt_of_le h.2 hb.size⟩
theorem dtake1_any (b : Nat) (ep : Int) (M : Msg) (w : World) (h : CapE b ep w) :
    Calls Try.prog 40 #[M.v, .pointer (some ⟨b, 0, none⟩)] w fun e w' => e = .returned (.bool (!puF M ep)) ∧ Below w.heap.size w w' := by
  have HB := Lib.hid ((Below.refl w.heap.size w).alloc (Nat.le_refl _) (.cells M.cs 37))
  have HR := Lib.hid (fun W => purged_any M ep W)
  obtain ⟨h1, h2⟩ := h
  generalize puF M ep = x at *
  go_enter Try.func40, Try.ntmps40
  go_wp2_with fail
  refine (HR.out _).mono ?_
  rintro e w1 ⟨rfl, hb⟩
  have HB1 := Lib.hid (HB.out.trans (hb.mono HB.out.size))
  clear hb
  go_wp2
  go_ret
  exact ⟨rfl, HB1.out⟩
theorem dclean1_any (b : Nat) (ep : Int) (M : Msg) (w : World) (h : CapE b ep w) :
    Calls Try.prog 42 #[M.v, .pointer (some ⟨b, 0, none⟩)] w fun e w' => e = .returned (.bool (puF M ep)) ∧ Below w.heap.size w w' := by
  have HB := Lib.hid ((Below.refl w.heap.size w).alloc (Nat.le_refl _) (.cells M.cs 37))
  have HR := Lib.hid (fun W => purged_any M ep W)
  obtain ⟨h1, h2⟩ := h
  generalize puF M ep = x at *
  go_enter Try.func42, Try.ntmps42
  go_wp2_with fail
  refine (HR.out _).mono ?_
  rintro e w1 ⟨rfl, hb⟩
  have HB1 := Lib.hid (HB.out.trans (hb.mono HB.out.size))
  clear hb
  go_wp2
  go_ret
  exact ⟨rfl, HB1.out⟩
theorem own8_below {W W' : World} {base n size : Nat} {e : TypeId} {v : Value} {xs : List Value} (h : W.ownsRow base e size v n xs) (hb : Below W.heap.size W W') : W'.ownsRow base e size v n xs := by
  refine ⟨h.1, h.2.imp_right fun ⟨g, cap, cur, hv, hg, hh, r⟩ => ⟨g, cap, cur, hv, hg, ?_, r⟩⟩
  rw [← hh]
  exact hb.block g (Array.getElem?_eq_some_iff.1 hh).1
/-- What pull gives: a store and a list. -/
def P8 (w : World) (cap : Int) (l m : List Msg) (e : Ending) (w' : World) : Prop := ∃ A c A2 c2, e = .returned (.tuple #[.agg #[.int .i64 cap, .slice A l.length c], .slice A2 m.length c2]) ∧ Nw w.heap.size A ∧ Nw w.heap.size A2 ∧ Ls w' w'.heap.size (.slice A l.length c) l ∧ Ls w' w'.heap.size (.slice A2 m.length c2) m ∧ Below w.heap.size w w'
/-- The work of pull: the boxes, the two lists that are made. -/
structure Pl8 (w : World) (p r B : Nat) (cap : Int) (A : Option Addr) (c : Nat) (l : List Msg) (lv rv : Value) (T R : List Msg) (W : World) : Prop where
  tw : Tw8 w p r cap A c l W
  o1 : W.ownsRow B 37 7 lv T.length (lcs T)
  o2 : W.ownsRow B 37 7 rv R.length (lcs R)
  dj : ∀ q, lv.ownBlock = some q → rv.ownBlock ≠ some q
  old : r < B ∧ B ≤ W.heap.size
section
variable {w W W' : World} {p r B c : Nat} {cap : Int} {A : Option Addr} {l T R : List Msg} {lv rv lv' rv' : Value}
theorem Pl8.below (h : Pl8 w p r B cap A c l lv rv T R W) (hb : Below W.heap.size W W') : Pl8 w p r B cap A c l lv rv T R W' :=
  ⟨h.tw.below hb, own8_below h.o1 hb, own8_below h.o2 hb, h.dj, h.old.1, Nat.le_trans h.old.2 hb.size⟩
theorem Tw8.row (h : Tw8 w p r cap A c l W) {row : Option Nat} (hg : W.grownBy W' row) (hr : ∀ q, row = some q → r < q) : Tw8 w p r cap A c l W' := by
  have ho := h.old
  exact ⟨h.db.grown hg (fun e => by have := hr p e.symm; omega), h.rs.grown hg (fun e => by have := hr r e.symm; omega), h.ls.growno h.bel.size hg (fun q e => ob_ls h.ls (by have := hr q e; omega)), h.bel.grown hg h.bel.size (fun q e => by have := hr q e; omega), ho⟩
theorem Pl8.app1 (h : Pl8 w p r B cap A c l lv rv T R W) {T' : List Msg} (ho : W'.ownsRow B 37 7 lv' T'.length (lcs T')) (hg : W.grownBy W' lv.ownBlock) (hw : ∀ q, lv'.ownBlock = some q → lv.ownBlock = some q ∨ W.heap.size ≤ q) : Pl8 w p r B cap A c l lv' rv T' R W' := by
  refine ⟨h.tw.row hg (fun q e => by have := (h.o1.lt q e).1; have := h.old; omega), ho, h.o2.kept hg ?_, fun q e e' => ?_, h.old.1, Nat.le_trans h.old.2 hg.size⟩
  · cases e : rv.ownBlock with
    | none => exact .inl rfl
    | some q => exact .inr (fun e' => h.dj q e'.symm e)
  · rcases hw q e with e1 | e1
    · exact h.dj q e1 e'
    · have := (h.o2.lt q e').2; omega
theorem Pl8.app2 (h : Pl8 w p r B cap A c l lv rv T R W) {R' : List Msg} (ho : W'.ownsRow B 37 7 rv' R'.length (lcs R')) (hg : W.grownBy W' rv.ownBlock) (hw : ∀ q, rv'.ownBlock = some q → rv.ownBlock = some q ∨ W.heap.size ≤ q) : Pl8 w p r B cap A c l lv rv' T R' W' := by
  refine ⟨h.tw.row hg (fun q e => by have := (h.o2.lt q e).1; have := h.old; omega), h.o1.kept hg ?_, ho, fun q e e' => ?_, h.old.1, Nat.le_trans h.old.2 hg.size⟩
  · cases e : lv.ownBlock with
    | none => exact .inl rfl
    | some q => exact .inr (fun e' => h.dj q e e'.symm)
  · rcases hw q e' with e1 | e1
    · exact h.dj q e e1
    · have := (h.o1.lt q e).2; omega
theorem Pl8.out {A1 A2 : Option Addr} {c1 c2 : Nat} (h : Pl8 w p r B cap A c l (.slice A1 T.length c1) (.slice A2 R.length c2) T R W) :
    P8 w cap R T (.returned (.tuple #[.agg #[.int .i64 cap, .slice A2 R.length c2], .slice A1 T.length c1])) (((W.setCell ⟨p, 1, none⟩ (.slice A2 R.length c2)).setCell ⟨r, 0, none⟩ (.int .i64 cap)).setCell ⟨r, 1, none⟩ (.slice A2 R.length c2)) := by
  have n1 := nw_own h.o1 (Nat.le_refl B)
  have n2 := nw_own h.o2 (Nat.le_refl B)
  have ho := h.old
  have ht := h.tw.old
  have key : ∀ {A0 : Option Addr} {n0 c0 : Nat} {L : List Msg}, Nw B A0 → Ls W W.heap.size (.slice A0 n0 c0) L → Ls (((W.setCell ⟨p, 1, none⟩ (.slice A2 R.length c2)).setCell ⟨r, 0, none⟩ (.int .i64 cap)).setCell ⟨r, 1, none⟩ (.slice A2 R.length c2)) (((W.setCell ⟨p, 1, none⟩ (.slice A2 R.length c2)).setCell ⟨r, 0, none⟩ (.int .i64 cap)).setCell ⟨r, 1, none⟩ (.slice A2 R.length c2)).heap.size (.slice A0 n0 c0) L := by
    intro A0 n0 c0 L hn hl
    have := ((hl.offo (p := ⟨p, 1, none⟩) (ob_nw hn (show p < B by omega)) (.slice A2 R.length c2)).offo (p := ⟨r, 0, none⟩) (ob_nw hn (show r < B by omega)) (.int .i64 cap)).offo (p := ⟨r, 1, none⟩) (ob_nw hn (show r < B by omega)) (.slice A2 R.length c2)
    simpa using this
  exact ⟨A2, c2, A1, c1, rfl, nw_low n2 (by omega), nw_low n1 (by omega), key n2 (Ls.of_own h.o2), key n1 (Ls.of_own h.o1), ((h.tw.bel.setCell (p := ⟨p, 1, none⟩) ht.1 _).setCell (p := ⟨r, 0, none⟩) (show w.heap.size ≤ r by omega) _).setCell (p := ⟨r, 1, none⟩) (show w.heap.size ≤ r by omega) _⟩
end
theorem own8_end {w1 : World} {base g cap : Nat} {T : List Msg} {X : Msg} (hown : w1.ownsRow base 37 7 (.slice (some ⟨g, 0, none⟩) (T.length + 1) cap) (T.length + 1) (lcs T ++ X.l)) : w1.ownsRow base 37 7 (.slice (some ⟨g, 0, none⟩) (T.length + 1) cap) (T ++ [X]).length (lcs (T ++ [X])) := by
  have hM1 : lcs [X] = X.l := by simp [lcs]
  rw [lcs_app, hM1, List.length_append]
  exact hown
theorem msg_row8 (w : World) (M : Msg) (t : TypeId) : ∀ j u, M.l[j]? = some u → (w.alloc (.cells #[.int .i64 M.id, .int .i64 M.rt, .int .i64 M.ep, .int .i64 M.ct, .int .i64 M.gn, .int .i64 M.st, .string M.bd] t)).cell? ((⟨w.heap.size, 0, none⟩ : Addr).add j) = some u := fun j u hu => by
  rw [add_mk, Nat.zero_add, World.cell?_alloc_new]
  simpa [Msg.l] using hu
set_option maxHeartbeats 8000000 in
set_option maxRecDepth 20000 in
theorem dpullT_any (cap : Int) (A : Option Addr) (n c : Nat) (l : List Msg) (mx : Int) (b1 : Nat) (ep : Int) (w : World) (hv : Ls w w.heap.size (.slice A n c) l) (hc : CapE b1 ep w) (h12 : n ≤ 1000) :
    Calls Try.prog 39 #[.agg #[.int .i64 cap, .slice A n c], .int .i64 mx, .func (.func 40) #[] #[.pointer (some ⟨b1, 0, none⟩)]] w (P8 w cap (pl8 mx (fun M => !puF M ep) l).2 (pl8 mx (fun M => !puF M ep) l).1) := by
  obtain ⟨rfl, hm1, hm2⟩ := hv.len
  obtain ⟨ff, hff⟩ : ∃ ff : Msg → Bool, ff = (fun M => !puF M ep) := ⟨_, rfl⟩
  have HT := Lib.hid (fun M W (h : CapE b1 ep W) => show Calls Try.prog 40 #[M.v, .pointer (some ⟨b1, 0, none⟩)] W fun e w' => e = .returned (.bool (ff M)) ∧ Below W.heap.size W w' by rw [hff]; exact dtake1_any b1 ep M W h)
  rw [← hff]
  clear hff
  obtain ⟨i0, hi0, hz0⟩ := Option.map_eq_some_iff.1 info_m8
  simp only [Prod.mk.injEq] at hz0
  have HI := Lib.hid hi0
  have HZ := Lib.hid hz0
  have HCC := Lib.hid hc
  have H0 := Lib.hid (Tw8.start 24 24 cap hv)
  have HPN := Lib.hid (fun k (hk : k < l.length) h => pl8_no (mx := mx) (p := ff) hk h)
  have HPY := Lib.hid (fun k (hk : k < l.length) h1 h2 => pl8_yes (mx := mx) (p := ff) hk h1 h2)
  have HPE := Lib.hid (show pl8 mx ff l = pl8 mx ff (l.take l.length) by rw [List.take_length])
  have HPL := Lib.hid (fun k => pl8_len mx ff (l.take k))
  have hl64 : l.length ≤ 9223372036854775807 := by omega
  have HLN := Lib.hid h12
  clear hv hm1 hm2 hc hi0 hz0 h12
  go_enter Try.func39, Try.ntmps39
  obtain ⟨b0', b1', bl'⟩ := H0.out.db.facts
  go_wp2
  clear b0' b1' bl'
  obtain ⟨p, hp⟩ : ∃ p, p = w.heap.size := ⟨_, rfl⟩
  obtain ⟨r, hr⟩ : ∃ r, r = w.heap.size + 1 := ⟨_, rfl⟩
  rw [← hr, ← hp] at H0
  rw [← hr, ← hp]
  clear hp hr
  generalize ((w.alloc (.cells #[.int .i64 cap, .slice A l.length c] 24)).alloc (.cells #[.int .i64 0, .slice none 0 0] 24)) = w1 at *
  obtain ⟨B, hB⟩ : ∃ B, B = w1.heap.size := ⟨_, rfl⟩
  have H1 := Lib.hid (show Pl8 w p r B cap A c l (.slice none 0 0) (.slice none 0 0) [] [] w1 from ⟨H0.out, World.ownsRow_nil _ _ _ _, World.ownsRow_nil _ _ _ _, fun q e => by simp [Value.ownBlock] at e, by have := H0.out.rs.lt; omega, by omega⟩)
  clear hB H0
  go_loopw [8, 9, 15] (fun lv rv i wr => ∃ k : Nat, k ≤ l.length ∧ i = .int .i64 k ∧ Pl8 w p r B cap A c l lv rv (pl8 mx ff (l.take k)).1 (pl8 mx ff (l.take k)).2 wr) (fun _ _ i _ => l.length - (intOf i).toNat)
  case atStart => exact ⟨0, by omega, rfl, H1.out⟩
  case round =>
    obtain ⟨k, hk, rfl, hr⟩ := hrel
    have HR := Lib.hid hr
    clear hr H1
    by_cases hlt : k < l.length
    · obtain ⟨b, o, rfl, hbl, c0', c1', c2', c3', c4', c5', c6'⟩ := HR.out.tw.ls.at_ hlt
      have HTL := Lib.hid (show (pl8 mx ff (l.take k)).1.length ≤ 1000 ∧ (pl8 mx ff (l.take k)).2.length ≤ 1000 by
        have h1 := HPL.out k
        have h2 := HLN.out
        simp at h1; omega)
      obtain ⟨A1, c1, rfl⟩ := own_form HR.out.o1
      obtain ⟨A2, c2, rfl⟩ := own_form HR.out.o2
      have HPN' := Lib.hid (HPN.out k hlt)
      have HPY' := Lib.hid (HPY.out k hlt)
      have HTX := Lib.hid (fun W (h : CapE b1 ep W) => HT.out l[k] W h)
      clear HPN HPY HT
      generalize (pl8 mx ff (l.take k)).1 = T at *
      generalize (pl8 mx ff (l.take k)).2 = R at *
      generalize l[k] = X at *
      have HPA := Lib.hid (HR.out.below ((Below.refl _ _).alloc (Nat.le_refl _) (.cells X.cs 37)))
      by_cases hmx : (T.length : Int) < mx
      · cases hf : ff X with
        | true =>
          have HPK := Lib.hid (HPY'.out hmx hf)
          rw [hf] at HTX
          clear hf HPN' HPY'
          go_wp2_with fail
          refine (HTX.out _ (HCC.out.below HPA.out.tw.bel)).mono ?_
          rintro e w5 ⟨rfl, hb⟩
          have HP5 := Lib.hid (HPA.out.below hb)
          obtain ⟨x0, x1, x2, x3, x4, x5, x6⟩ := (show C7 (wr.alloc (.cells X.cs 37)) wr.heap.size 0 X by simp [C7, Msg.cs, go_sem]).below hb (by simp)
          have hxl : wr.heap.size < w5.heap.size := by have := hb.size; simp at this; omega
          have HP6 := Lib.hid (HP5.out.below ((Below.refl _ _).alloc (Nat.le_refl _) (.cells X.cs 37)))
          have HCX := Lib.hid (msg_row8 w5 X 37)
          clear hb
          go_wp2_with (at_builtin; refine wpList_append_lies _ rfl (.tmp 28) (.tmp 30) 22 rfl B 37 i0 _ 7 64 Try.underlying22 HI.out HZ.out.1 HZ.out.2.1 HZ.out.2.2 rfl (by omega) (.slice A1 T.length c1) T.length (lcs T) rfl HP6.out.o1 ⟨w5.heap.size, 0, none⟩ 1 1 X.l rfl (by simp [Msg.l_len]) (fun j u hu => by have := HCX.out j u hu; simpa using this) X.l_one (by omega) (by have := HTL.out; unfold maxLen; omega) (by have := HTL.out; omega) HP6.out.old.2 _ rfl ?_; intro g cp w8 hown hgrow hat hglt)
          have HP9 := Lib.hid (HP6.out.app1 (own8_end hown) hgrow (fun q e => by
            rcases hat with h | h
            · left; rw [h]; simpa [Value.ownBlock] using e
            · right; simp only [Value.ownBlock] at e; injection e with e; rw [← e, h]; exact Nat.le_refl _))
          clear hown hgrow hat hglt
          clear x0 x1 x2 x3 x4 x5 x6 hxl
          go_wp2
          go_roundw
          case rel => exact ⟨k + 1, by omega, by go_num, by rw [HPK.out]; exact HP9.out⟩
          case measure => simp [intOf]; omega
        | false =>
          have HPK := Lib.hid (HPN'.out (fun h => by rw [hf] at h; exact absurd h.2 (by decide)))
          rw [hf] at HTX
          clear hf HPN' HPY'
          go_wp2_with fail
          refine (HTX.out _ (HCC.out.below HPA.out.tw.bel)).mono ?_
          rintro e w5 ⟨rfl, hb⟩
          have HP5 := Lib.hid (HPA.out.below hb)
          obtain ⟨x0, x1, x2, x3, x4, x5, x6⟩ := (show C7 (wr.alloc (.cells X.cs 37)) wr.heap.size 0 X by simp [C7, Msg.cs, go_sem]).below hb (by simp)
          have hxl : wr.heap.size < w5.heap.size := by have := hb.size; simp at this; omega
          have HP6 := Lib.hid (HP5.out.below ((Below.refl _ _).alloc (Nat.le_refl _) (.cells X.cs 37)))
          have HCX := Lib.hid (msg_row8 w5 X 37)
          clear hb
          go_wp2_with (at_builtin; refine wpList_append_lies _ rfl (.tmp 32) (.tmp 34) 22 rfl B 37 i0 _ 7 64 Try.underlying22 HI.out HZ.out.1 HZ.out.2.1 HZ.out.2.2 rfl (by omega) (.slice A2 R.length c2) R.length (lcs R) rfl HP6.out.o2 ⟨w5.heap.size, 0, none⟩ 1 1 X.l rfl (by simp [Msg.l_len]) (fun j u hu => by have := HCX.out j u hu; simpa using this) X.l_one (by omega) (by have := HTL.out; unfold maxLen; omega) (by have := HTL.out; omega) HP6.out.old.2 _ rfl ?_; intro g cp w8 hown hgrow hat hglt)
          have HP9 := Lib.hid (HP6.out.app2 (own8_end hown) hgrow (fun q e => by
            rcases hat with h | h
            · left; rw [h]; simpa [Value.ownBlock] using e
            · right; simp only [Value.ownBlock] at e; injection e with e; rw [← e, h]; exact Nat.le_refl _))
          clear hown hgrow hat hglt
          clear x0 x1 x2 x3 x4 x5 x6 hxl
          go_wp2
          go_roundw
          case rel => exact ⟨k + 1, by omega, by go_num, by rw [HPK.out]; exact HP9.out⟩
          case measure => simp [intOf]; omega
      · have HPK := Lib.hid (HPN'.out (fun h => hmx h.1))
        clear HPN' HPY' HTX
        have HP6 := Lib.hid (HPA.out.below ((Below.refl _ _).alloc (Nat.le_refl _) (.cells X.cs 37)))
        have hcx := msg_row8 (wr.alloc (.cells X.cs 37)) X 37
        rw [show (wr.alloc (.cells X.cs 37)).heap.size = wr.heap.size + 1 by simp] at hcx
        have HCX := Lib.hid hcx
        clear hcx
        go_wp2_with (at_builtin; refine wpList_append_lies _ rfl (.tmp 32) (.tmp 34) 22 rfl B 37 i0 _ 7 64 Try.underlying22 HI.out HZ.out.1 HZ.out.2.1 HZ.out.2.2 rfl (by omega) (.slice A2 R.length c2) R.length (lcs R) rfl HP6.out.o2 ⟨wr.heap.size + 1, 0, none⟩ 1 1 X.l rfl (by simp [Msg.l_len]) (fun j u hu => by have := HCX.out j u hu; simpa using this) X.l_one (by omega) (by have := HTL.out; unfold maxLen; omega) (by have := HTL.out; omega) HP6.out.old.2 _ rfl ?_; intro g cp w8 hown hgrow hat hglt)
        have HP9 := Lib.hid (HP6.out.app2 (own8_end hown) hgrow (fun q e => by
          rcases hat with h | h
          · left; rw [h]; simpa [Value.ownBlock] using e
          · right; simp only [Value.ownBlock] at e; injection e with e; rw [← e, h]; exact Nat.le_refl _))
        clear hown hgrow hat hglt
        go_wp2
        go_roundw
        case rel => exact ⟨k + 1, by omega, by go_num, by rw [HPK.out]; exact HP9.out⟩
        case measure => simp [intOf]; omega
    · obtain rfl : k = l.length := by omega
      have HE1 := Lib.hid (congrArg Prod.fst HPE.out)
      have HE2 := Lib.hid (congrArg Prod.snd HPE.out)
      obtain ⟨A1, c1, rfl⟩ := own_form HR.out.o1
      obtain ⟨A2, c2, rfl⟩ := own_form HR.out.o2
      clear HPN HPY HT HPE HPL
      generalize (pl8 mx ff (l.take l.length)).1 = T at *
      generalize (pl8 mx ff (l.take l.length)).2 = R at *
      obtain ⟨t0, t1, tl, f0, f1⟩ := HR.out.tw.db.all
      obtain ⟨r0, r1, rl, g0, g1⟩ := HR.out.tw.rs.all
      obtain ⟨hpr, hrp⟩ : ¬ p = r ∧ ¬ r = p := by have := HR.out.tw.old; omega
      go_wp2
      exact bodyPost_ret (v := .tuple #[.agg #[.int .i64 cap, .slice A2 R.length c2], .slice A1 T.length c1]) (by simp only [results, Try.results39]; go_simp <;> rfl) rfl (by rw [HE1.out, HE2.out]; exact HR.out.out)
set_option maxHeartbeats 8000000 in
set_option maxRecDepth 20000 in
theorem dpullC_any (cap : Int) (A : Option Addr) (n c : Nat) (l : List Msg) (mx : Int) (b1 : Nat) (ep : Int) (w : World) (hv : Ls w w.heap.size (.slice A n c) l) (hc : CapE b1 ep w) (h12 : n ≤ 1000) :
    Calls Try.prog 39 #[.agg #[.int .i64 cap, .slice A n c], .int .i64 mx, .func (.func 42) #[] #[.pointer (some ⟨b1, 0, none⟩)]] w (P8 w cap (pl8 mx (fun M => puF M ep) l).2 (pl8 mx (fun M => puF M ep) l).1) := by
  obtain ⟨rfl, hm1, hm2⟩ := hv.len
  obtain ⟨ff, hff⟩ : ∃ ff : Msg → Bool, ff = (fun M => puF M ep) := ⟨_, rfl⟩
  have HT := Lib.hid (fun M W (h : CapE b1 ep W) => show Calls Try.prog 42 #[M.v, .pointer (some ⟨b1, 0, none⟩)] W fun e w' => e = .returned (.bool (ff M)) ∧ Below W.heap.size W w' by rw [hff]; exact dclean1_any b1 ep M W h)
  rw [← hff]
  clear hff
  obtain ⟨i0, hi0, hz0⟩ := Option.map_eq_some_iff.1 info_m8
  simp only [Prod.mk.injEq] at hz0
  have HI := Lib.hid hi0
  have HZ := Lib.hid hz0
  have HCC := Lib.hid hc
  have H0 := Lib.hid (Tw8.start 24 24 cap hv)
  have HPN := Lib.hid (fun k (hk : k < l.length) h => pl8_no (mx := mx) (p := ff) hk h)
  have HPY := Lib.hid (fun k (hk : k < l.length) h1 h2 => pl8_yes (mx := mx) (p := ff) hk h1 h2)
  have HPE := Lib.hid (show pl8 mx ff l = pl8 mx ff (l.take l.length) by rw [List.take_length])
  have HPL := Lib.hid (fun k => pl8_len mx ff (l.take k))
  have hl64 : l.length ≤ 9223372036854775807 := by omega
  have HLN := Lib.hid h12
  clear hv hm1 hm2 hc hi0 hz0 h12
  go_enter Try.func39, Try.ntmps39
  obtain ⟨b0', b1', bl'⟩ := H0.out.db.facts
  go_wp2
  clear b0' b1' bl'
  obtain ⟨p, hp⟩ : ∃ p, p = w.heap.size := ⟨_, rfl⟩
  obtain ⟨r, hr⟩ : ∃ r, r = w.heap.size + 1 := ⟨_, rfl⟩
  rw [← hr, ← hp] at H0
  rw [← hr, ← hp]
  clear hp hr
  generalize ((w.alloc (.cells #[.int .i64 cap, .slice A l.length c] 24)).alloc (.cells #[.int .i64 0, .slice none 0 0] 24)) = w1 at *
  obtain ⟨B, hB⟩ : ∃ B, B = w1.heap.size := ⟨_, rfl⟩
  have H1 := Lib.hid (show Pl8 w p r B cap A c l (.slice none 0 0) (.slice none 0 0) [] [] w1 from ⟨H0.out, World.ownsRow_nil _ _ _ _, World.ownsRow_nil _ _ _ _, fun q e => by simp [Value.ownBlock] at e, by have := H0.out.rs.lt; omega, by omega⟩)
  clear hB H0
  go_loopw [8, 9, 15] (fun lv rv i wr => ∃ k : Nat, k ≤ l.length ∧ i = .int .i64 k ∧ Pl8 w p r B cap A c l lv rv (pl8 mx ff (l.take k)).1 (pl8 mx ff (l.take k)).2 wr) (fun _ _ i _ => l.length - (intOf i).toNat)
  case atStart => exact ⟨0, by omega, rfl, H1.out⟩
  case round =>
    obtain ⟨k, hk, rfl, hr⟩ := hrel
    have HR := Lib.hid hr
    clear hr H1
    by_cases hlt : k < l.length
    · obtain ⟨b, o, rfl, hbl, c0', c1', c2', c3', c4', c5', c6'⟩ := HR.out.tw.ls.at_ hlt
      have HTL := Lib.hid (show (pl8 mx ff (l.take k)).1.length ≤ 1000 ∧ (pl8 mx ff (l.take k)).2.length ≤ 1000 by
        have h1 := HPL.out k
        have h2 := HLN.out
        simp at h1; omega)
      obtain ⟨A1, c1, rfl⟩ := own_form HR.out.o1
      obtain ⟨A2, c2, rfl⟩ := own_form HR.out.o2
      have HPN' := Lib.hid (HPN.out k hlt)
      have HPY' := Lib.hid (HPY.out k hlt)
      have HTX := Lib.hid (fun W (h : CapE b1 ep W) => HT.out l[k] W h)
      clear HPN HPY HT
      generalize (pl8 mx ff (l.take k)).1 = T at *
      generalize (pl8 mx ff (l.take k)).2 = R at *
      generalize l[k] = X at *
      have HPA := Lib.hid (HR.out.below ((Below.refl _ _).alloc (Nat.le_refl _) (.cells X.cs 37)))
      by_cases hmx : (T.length : Int) < mx
      · cases hf : ff X with
        | true =>
          have HPK := Lib.hid (HPY'.out hmx hf)
          rw [hf] at HTX
          clear hf HPN' HPY'
          go_wp2_with fail
          refine (HTX.out _ (HCC.out.below HPA.out.tw.bel)).mono ?_
          rintro e w5 ⟨rfl, hb⟩
          have HP5 := Lib.hid (HPA.out.below hb)
          obtain ⟨x0, x1, x2, x3, x4, x5, x6⟩ := (show C7 (wr.alloc (.cells X.cs 37)) wr.heap.size 0 X by simp [C7, Msg.cs, go_sem]).below hb (by simp)
          have hxl : wr.heap.size < w5.heap.size := by have := hb.size; simp at this; omega
          have HP6 := Lib.hid (HP5.out.below ((Below.refl _ _).alloc (Nat.le_refl _) (.cells X.cs 37)))
          have HCX := Lib.hid (msg_row8 w5 X 37)
          clear hb
          go_wp2_with (at_builtin; refine wpList_append_lies _ rfl (.tmp 28) (.tmp 30) 22 rfl B 37 i0 _ 7 64 Try.underlying22 HI.out HZ.out.1 HZ.out.2.1 HZ.out.2.2 rfl (by omega) (.slice A1 T.length c1) T.length (lcs T) rfl HP6.out.o1 ⟨w5.heap.size, 0, none⟩ 1 1 X.l rfl (by simp [Msg.l_len]) (fun j u hu => by have := HCX.out j u hu; simpa using this) X.l_one (by omega) (by have := HTL.out; unfold maxLen; omega) (by have := HTL.out; omega) HP6.out.old.2 _ rfl ?_; intro g cp w8 hown hgrow hat hglt)
          have HP9 := Lib.hid (HP6.out.app1 (own8_end hown) hgrow (fun q e => by
            rcases hat with h | h
            · left; rw [h]; simpa [Value.ownBlock] using e
            · right; simp only [Value.ownBlock] at e; injection e with e; rw [← e, h]; exact Nat.le_refl _))
          clear hown hgrow hat hglt
          clear x0 x1 x2 x3 x4 x5 x6 hxl
          go_wp2
          go_roundw
          case rel => exact ⟨k + 1, by omega, by go_num, by rw [HPK.out]; exact HP9.out⟩
          case measure => simp [intOf]; omega
        | false =>
          have HPK := Lib.hid (HPN'.out (fun h => by rw [hf] at h; exact absurd h.2 (by decide)))
          rw [hf] at HTX
          clear hf HPN' HPY'
          go_wp2_with fail
          refine (HTX.out _ (HCC.out.below HPA.out.tw.bel)).mono ?_
          rintro e w5 ⟨rfl, hb⟩
          have HP5 := Lib.hid (HPA.out.below hb)
          obtain ⟨x0, x1, x2, x3, x4, x5, x6⟩ := (show C7 (wr.alloc (.cells X.cs 37)) wr.heap.size 0 X by simp [C7, Msg.cs, go_sem]).below hb (by simp)
          have hxl : wr.heap.size < w5.heap.size := by have := hb.size; simp at this; omega
          have HP6 := Lib.hid (HP5.out.below ((Below.refl _ _).alloc (Nat.le_refl _) (.cells X.cs 37)))
          have HCX := Lib.hid (msg_row8 w5 X 37)
          clear hb
          go_wp2_with (at_builtin; refine wpList_append_lies _ rfl (.tmp 32) (.tmp 34) 22 rfl B 37 i0 _ 7 64 Try.underlying22 HI.out HZ.out.1 HZ.out.2.1 HZ.out.2.2 rfl (by omega) (.slice A2 R.length c2) R.length (lcs R) rfl HP6.out.o2 ⟨w5.heap.size, 0, none⟩ 1 1 X.l rfl (by simp [Msg.l_len]) (fun j u hu => by have := HCX.out j u hu; simpa using this) X.l_one (by omega) (by have := HTL.out; unfold maxLen; omega) (by have := HTL.out; omega) HP6.out.old.2 _ rfl ?_; intro g cp w8 hown hgrow hat hglt)
          have HP9 := Lib.hid (HP6.out.app2 (own8_end hown) hgrow (fun q e => by
            rcases hat with h | h
            · left; rw [h]; simpa [Value.ownBlock] using e
            · right; simp only [Value.ownBlock] at e; injection e with e; rw [← e, h]; exact Nat.le_refl _))
          clear hown hgrow hat hglt
          clear x0 x1 x2 x3 x4 x5 x6 hxl
          go_wp2
          go_roundw
          case rel => exact ⟨k + 1, by omega, by go_num, by rw [HPK.out]; exact HP9.out⟩
          case measure => simp [intOf]; omega
      · have HPK := Lib.hid (HPN'.out (fun h => hmx h.1))
        clear HPN' HPY' HTX
        have HP6 := Lib.hid (HPA.out.below ((Below.refl _ _).alloc (Nat.le_refl _) (.cells X.cs 37)))
        have hcx := msg_row8 (wr.alloc (.cells X.cs 37)) X 37
        rw [show (wr.alloc (.cells X.cs 37)).heap.size = wr.heap.size + 1 by simp] at hcx
        have HCX := Lib.hid hcx
        clear hcx
        go_wp2_with (at_builtin; refine wpList_append_lies _ rfl (.tmp 32) (.tmp 34) 22 rfl B 37 i0 _ 7 64 Try.underlying22 HI.out HZ.out.1 HZ.out.2.1 HZ.out.2.2 rfl (by omega) (.slice A2 R.length c2) R.length (lcs R) rfl HP6.out.o2 ⟨wr.heap.size + 1, 0, none⟩ 1 1 X.l rfl (by simp [Msg.l_len]) (fun j u hu => by have := HCX.out j u hu; simpa using this) X.l_one (by omega) (by have := HTL.out; unfold maxLen; omega) (by have := HTL.out; omega) HP6.out.old.2 _ rfl ?_; intro g cp w8 hown hgrow hat hglt)
        have HP9 := Lib.hid (HP6.out.app2 (own8_end hown) hgrow (fun q e => by
          rcases hat with h | h
          · left; rw [h]; simpa [Value.ownBlock] using e
          · right; simp only [Value.ownBlock] at e; injection e with e; rw [← e, h]; exact Nat.le_refl _))
        clear hown hgrow hat hglt
        go_wp2
        go_roundw
        case rel => exact ⟨k + 1, by omega, by go_num, by rw [HPK.out]; exact HP9.out⟩
        case measure => simp [intOf]; omega
    · obtain rfl : k = l.length := by omega
      have HE1 := Lib.hid (congrArg Prod.fst HPE.out)
      have HE2 := Lib.hid (congrArg Prod.snd HPE.out)
      obtain ⟨A1, c1, rfl⟩ := own_form HR.out.o1
      obtain ⟨A2, c2, rfl⟩ := own_form HR.out.o2
      clear HPN HPY HT HPE HPL
      generalize (pl8 mx ff (l.take l.length)).1 = T at *
      generalize (pl8 mx ff (l.take l.length)).2 = R at *
      obtain ⟨t0, t1, tl, f0, f1⟩ := HR.out.tw.db.all
      obtain ⟨r0, r1, rl, g0, g1⟩ := HR.out.tw.rs.all
      obtain ⟨hpr, hrp⟩ : ¬ p = r ∧ ¬ r = p := by have := HR.out.tw.old; omega
      go_wp2
      exact bodyPost_ret (v := .tuple #[.agg #[.int .i64 cap, .slice A2 R.length c2], .slice A1 T.length c1]) (by simp only [results, Try.results39]; go_simp <;> rfl) rfl (by rw [HE1.out, HE2.out]; exact HR.out.out)
end Go.Proofs.Ytbeafcjbldnkhaa
