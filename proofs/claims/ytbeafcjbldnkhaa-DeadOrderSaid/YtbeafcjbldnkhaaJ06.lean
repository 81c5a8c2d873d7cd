/- What is proved here: a set of numbers that is kept as a map with bool elements: what a look-up gives, what a store leaves; dead.hasSameID by one contract; dead.isCapacity, dead.New, dead.Validate, dead.Room, dead.examine by contracts. -/
import Derived.Test.YtbeafcjbldnkhaaJ01
import Derived.Maps.OwnOps
import Derived.Maps.Views
import Derived.Carry
import Derived.Test.YtbeafcjbldnkhaaJ05
namespace Go.Proofs.Ytbeafcjbldnkhaa
open Go.RowKit
set_option linter.unusedVariables false

theorem met_key : Maps.Keyed Try.prog 3 := Maps.int_keyed Try.underlying3
theorem met_zero (w : World) : (zeroValue 4).run Try.prog w = .ok (.bool false) w := by kernel_rfl
theorem wf_i64 {x : Int} (h1 : -9223372036854775808 ≤ x) (h2 : x ≤ 9223372036854775807) : (Lit.int .i64 x).wf = true := by
  have e1 : IntKind.i64.min = -9223372036854775808 := by decide
  have e2 : IntKind.i64.max = 9223372036854775807 := by decide
  simp only [Lit.wf, decide_eq_true_eq, Bool.and_eq_true]
  omega
/-- Block b is the set of the numbers ks. -/
def MetAt (w : World) (b : Nat) (ks : List Int) : Prop := ∃ D : DataW Unit, w.ownsMap Try.prog 3 (plainElem Try.prog 4) b ks.length D ∧ Maps.IsMap D ∧ ∀ x : Int, D.atKey (.int .i64 x) (.lit (.bool false)) = .lit (.bool (ks.contains x))
theorem MetAt.lt {w : World} {b : Nat} {ks : List Int} (h : MetAt w b ks) : b < w.heap.size := by obtain ⟨D, ho, _⟩ := h; exact ho.lt
theorem met_new (w : World) : MetAt (w.alloc (.map #[] 0)) w.heap.size [] := ⟨.map [], World.ownsMap_made _ _ _ _, Maps.isMap_empty, fun x => by simp [DataW.atKey]⟩
theorem MetAt.below {w w' : World} {b : Nat} {ks : List Int} (h : MetAt w b ks) (hb : Below w.heap.size w w') : MetAt w' b ks := by
  have hl := h.lt
  obtain ⟨D, ⟨es, clock, he, r⟩, hD, ha⟩ := h
  exact ⟨D, ⟨es, clock, (hb.block b hl).trans he, r⟩, hD, ha⟩
theorem plainElem_bool_of {v : Value} {c : Bool} {ps : List MemPlace} (h : plainElem (H := Unit) Try.prog 4 v = some (.lit (.bool c), ps)) : v = .bool c := by
  have hb := Try.underlying4
  cases v <;> simp [plainElem, hb] at h
  rw [h.1]
theorem MetAt.look {w : World} {b : Nat} {ks : List Int} (h : MetAt w b ks) {x : Int} (hx : (Lit.int .i64 x).wf = true) :
    (Instr.lookup 75 (.map (some b)) (.int .i64 x) false).run Try.prog w = .ok (.bool (ks.contains x)) w := by
  obtain ⟨D, ho, hD, ha⟩ := h
  obtain ⟨v, ps, hrun, hv⟩ := ho.lookup met_key Try.underlying75 (met_zero w) (plainElem_bool Try.underlying4 false) (Maps.keyOf_int_mk Try.underlying3 hx)
  rw [ha] at hv
  rw [hrun, plainElem_bool_of hv]
theorem wpList_met {w : World} {ops : Array Oper} {rest : List Oper} {o : Oper} {a : Act} {Q : Exit → Act → World → Prop}
    (hg : o.guard = none) (m x v : Operand) (hop : o.op = Op.mapUpdate 75 m x v) (b : Nat) (ks : List Int) (key : Int)
    (hm : a.eval m = .map (some b)) (hx : a.eval x = .int .i64 key) (hv : a.eval v = .bool true) (hown : MetAt w b ks) (hn : ks.length < maxLen) (hwf : (Lit.int .i64 key).wf = true)
    (hK : ∀ w', MetAt w' b (key :: ks) → w.grownBy w' (some b) → wpList Try.prog ops Q rest (a.put o.dst undef) w') :
    wpList Try.prog ops Q (o :: rest) a w := by
  obtain ⟨D, ho, hD, ha⟩ := hown
  refine wpList_mapUpdate_own w hg m x v _ hop 3 4 met_key Try.underlying75 _ b ks.length D hm ho hn _ _ (.int .i64 key) hx hv (Maps.keyOf_int_mk Try.underlying3 hwf) (.lit (.bool true)) [] (plainElem_bool Try.underlying4 true) ?_
  intro w' ho' hgr
  refine hK w' ⟨_, ho', hD.put _ _, fun y => ?_⟩ hgr
  by_cases e : y = key
  · subst e
    rw [Maps.atKey_put_same hD (show WideAt.IsKeyLit (.int .i64 y) from trivial)]
    simp
  · rw [Maps.atKey_put_other (fun h => e (by injection h)), ha]
    simp [e]
end Go.Proofs.Ytbeafcjbldnkhaa
namespace Go.Proofs.Ytbeafcjbldnkhaa
open Go.RowKit
set_option linter.unusedVariables false

/-- The IDs of the first k messages, the last one first. -/
def ids8 (l : List Msg) (k : Nat) : List Int := ((l.take k).map Msg.id).reverse
theorem ids8_succ {l : List Msg} {k : Nat} (h : k < l.length) : ids8 l (k + 1) = l[k].id :: ids8 l k := by
  unfold ids8
  rw [← List.take_append_getElem h, List.map_append, List.reverse_append]
  rfl
theorem ids8_len {l : List Msg} {k : Nat} (h : k ≤ l.length) : (ids8 l k).length = k := by simp [ids8, Nat.min_eq_left h]
theorem ids8_dup {l : List Msg} {k : Nat} (hk : k < l.length) : ((ids8 l k).contains l[k].id = true → dupP l) ∧ ((ids8 l k).contains l[k].id = false → ∀ i (hi : i < l.length), i < k → l[i].id ≠ l[k].id) := by
  have key : (ids8 l k).contains l[k].id = true ↔ ∃ i, ∃ hi : i < l.length, i < k ∧ l[i].id = l[k].id := by
    rw [List.contains_iff_mem]
    unfold ids8
    rw [List.mem_reverse, List.mem_map]
    constructor
    · rintro ⟨N, hN, e⟩
      rw [List.mem_take_iff_getElem] at hN
      obtain ⟨i, hi, rfl⟩ := hN
      exact ⟨i, by omega, by omega, e⟩
    · rintro ⟨i, hi, hik, e⟩
      exact ⟨l[i], List.mem_take_iff_getElem.2 ⟨i, by omega, rfl⟩, e⟩
  constructor
  · intro h
    obtain ⟨i, hi, hik, e⟩ := key.1 h
    exact ⟨i, k, hi, hk, hik, e⟩
  · intro h i hi hik e
    rw [key.2 ⟨i, hi, hik, e⟩] at h
    cases h
/-- The state of the loop. -/
structure HsAt (w : World) (B : Nat) (A : Option Addr) (c : Nat) (l : List Msg) (k : Nat) (W : World) : Prop where
  met : MetAt W B (ids8 l k)
  bel : Below w.heap.size w W
  old : w.heap.size ≤ B
  ls : Ls W w.heap.size (.slice A l.length c) l
  no : ∀ i j (hi : i < l.length) (hj : j < l.length), i < j → j < k → l[i].id ≠ l[j].id
theorem HsAt.below {w W W' : World} {B c k : Nat} {A : Option Addr} {l : List Msg} (h : HsAt w B A c l k W) (hb : Below W.heap.size W W') : HsAt w B A c l k W' :=
  ⟨h.met.below hb, h.bel.trans (hb.mono h.bel.size), h.old, h.ls.below (hb.mono h.bel.size), h.no⟩
theorem HsAt.put {w W W' : World} {B c k : Nat} {A : Option Addr} {l : List Msg} (h : HsAt w B A c l k W) (hk : k < l.length) (hm : MetAt W' B (l[k].id :: ids8 l k)) (hg : W.grownBy W' (some B)) (hn : ∀ i (hi : i < l.length), i < k → l[i].id ≠ l[k].id) : HsAt w B A c l (k + 1) W' :=
  ⟨by rw [ids8_succ hk]; exact hm, h.bel.grown hg h.bel.size (fun j hj => by cases hj; exact h.old), h.old, h.ls.growno h.bel.size hg (fun q e => by cases e; exact ob_ls h.ls h.old), fun i j hi hj hij hjk => by
    by_cases e : j = k
    · subst e; exact hn i hi hij
    · exact h.no i j hi hj hij (by omega)⟩
set_option maxHeartbeats 4000000 in
set_option maxRecDepth 20000 in
theorem same8_any (A : Option Addr) (n c : Nat) (l : List Msg) (w : World) (hv : Ls w w.heap.size (.slice A n c) l) (hok : ∀ M ∈ l, vf M = 0) :
    Calls Try.prog 45 #[.slice A n c] w fun e w' => e = .returned (.bool (dp8 l)) ∧ Below w.heap.size w w' := by
  obtain ⟨rfl, hm1, hm2⟩ := hv.len
  have hL : l.length ≤ 9223372036854775807 := by unfold maxLen at hm2; omega
  have HML := Lib.hid (show l.length ≤ maxLen by omega)
  have HW := Lib.hid (fun k (hk : k < l.length) => show (Lit.int .i64 l[k].id).wf = true by
    have := (vf_ok (hok l[k] (List.getElem_mem hk))).1
    exact wf_i64 (by omega) (by omega))
  have hmm := @run_makeMap Try.prog
  have H0 := Lib.hid (show HsAt w w.heap.size A c l 0 (w.alloc (.map #[] 0)) from ⟨met_new w, (Below.refl _ _).alloc (Nat.le_refl _) _, Nat.le_refl _, hv.alloc (Nat.le_refl _) _, fun i j _ _ _ h => absurd h (by omega)⟩)
  clear hv hm1 hm2 hok
  go_enter Try.func45, Try.ntmps45
  go_wp2
  obtain ⟨B, hB⟩ : ∃ B, B = w.heap.size := ⟨_, rfl⟩
  rw [← hB]
  have H1 := Lib.hid (show HsAt w B A c l 0 (w.alloc (.map #[] 0)) by rw [hB]; exact H0.out)
  clear hB H0 hmm
  go_loopw [9] (fun i wr => ∃ k : Nat, k ≤ l.length ∧ i = .int .i64 k ∧ HsAt w B A c l k wr) (fun i _ => l.length - (intOf i).toNat)
  case atStart => exact ⟨0, by omega, rfl, H1.out⟩
  case round =>
    obtain ⟨k, hk, rfl, hr⟩ := hrel
    have HR := Lib.hid hr
    clear hr H1
    by_cases hlt : k < l.length
    · have HD := Lib.hid (ids8_dup hlt)
      have HWK := Lib.hid (HW.out k hlt)
      have HPUT := Lib.hid (fun W W' (h : HsAt w B A c l k W) => HsAt.put (W' := W') h hlt)
      have hb := (Below.refl wr.heap.size wr).alloc (Nat.le_refl _) (.cells (l[k]).cs 37)
      have HRA := Lib.hid (HR.out.below hb)
      have HLN := Lib.hid (show (ids8 l k).length < maxLen by rw [ids8_len hk]; have := HML.out; omega)
      have hlk := HRA.out.met.look HWK.out
      clear hb
      obtain ⟨b, o, rfl, hb, c0, c1, c2, c3, c4, c5, c6⟩ := HR.out.ls.at_ hlt
      cases he : (ids8 l k).contains l[k].id with
      | true =>
        have HY := Lib.hid (dp8_yes (HD.out.1 he))
        rw [he] at hlk
        clear he HD HPUT
        generalize l[k] = X at *
        go_wp2
        go_ret
        exact ⟨by rw [HY.out]; rfl, HRA.out.bel⟩
      | false =>
        have HNN := Lib.hid (HD.out.2 he)
        rw [he] at hlk
        clear he HD
        generalize hX : l[k] = X at *
        have HX := Lib.hid hX
        clear hX
        go_wp2_with (at_mapUpdate; refine wpList_met rfl _ _ _ rfl B (ids8 l k) X.id rfl rfl rfl HRA.out.met HLN.out HWK.out ?_; intro w2 hm2 hg2)
        have HR2 := Lib.hid (HPUT.out _ w2 HRA.out hm2 hg2 HNN.out)
        clear hm2 hg2
        go_wp2
        go_roundw
        case rel => exact ⟨k + 1, by omega, by go_num, HR2.out⟩
        case measure => simp [intOf]; omega
    · have HY := Lib.hid (dp8_no (l := l) (by rintro ⟨i, j, hi, hj, hij, e⟩; exact HR.out.no i j hi hj hij (by omega) e))
      go_wp2
      go_ret
      exact ⟨by rw [HY.out]; rfl, HR.out.bel⟩
end Go.Proofs.Ytbeafcjbldnkhaa
namespace Go.Proofs.Ytbeafcjbldnkhaa
open Go.RowKit
set_option linter.unusedVariables false

theorem iscap8_any (n : Int) (w : World) : Calls Try.prog 24 #[.int .i64 n] w fun e w' => e = .returned (.bool (wi n 1 24)) ∧ w = w' := by
  by_cases h1 : 1 ≤ n
  · by_cases h2 : n ≤ 24
    · have HF := Lib.hid (wi_true h1 h2)
      go_enter Try.func24, Try.ntmps24
      go_wp2
      go_ret
      exact ⟨by rw [HF.out]; rfl, rfl⟩
    · have HF := Lib.hid (wi_high (lo := 1) (show (24 : Int) < n by omega))
      go_enter Try.func24, Try.ntmps24
      go_wp2
      go_ret
      exact ⟨by rw [HF.out]; rfl, rfl⟩
  · have HF := Lib.hid (wi_low (hi := 24) (show n < 1 by omega))
    go_enter Try.func24, Try.ntmps24
    go_wp2
    go_ret
    exact ⟨by rw [HF.out]; rfl, rfl⟩
/-- What New gives. -/
def nw8 (n : Int) : Int := if wi n 1 24 = true then n else 0
def nw8E (n : Int) : Int := if wi n 1 24 = true then 0 else 1
def N8 (w : World) (cap x : Int) (e : Ending) (w' : World) : Prop := e = .returned (.tuple #[.agg #[.int .i64 cap, .slice none 0 0], .int .i64 x]) ∧ Below w.heap.size w w'
theorem new8_any (n : Int) (w : World) : Calls Try.prog 7 #[.int .i64 n] w (N8 w (nw8 n) (nw8E n)) := by
  have HC := Lib.hid (fun W => iscap8_any n W)
  have HB := Lib.hid (DB.fresh w 0 none 0 0 24)
  have HW := Lib.hid ((Below.refl w.heap.size w).alloc (Nat.le_refl _) (.cells #[.int .i64 0, .slice none 0 0] 24))
  cases h : wi n 1 24 with
  | true =>
    have HE := Lib.hid (show nw8 n = n ∧ nw8E n = 0 from ⟨if_pos h, if_pos h⟩)
    rw [h] at HC
    clear h
    go_enter Try.func7, Try.ntmps7
    go_wp2_with fail
    refine (HC.out _).mono ?_
    rintro e w1 ⟨rfl, rfl⟩
    obtain ⟨b0, b1, bl, f0, f1⟩ := HB.out.all
    go_wp2
    exact bodyPost_ret (v := .tuple #[.agg #[.int .i64 n, .slice none 0 0], .int .i64 0]) (by simp only [results, Try.results7]; go_simp <;> rfl) rfl ⟨by rw [HE.out.1, HE.out.2], (Below.refl _ _).alloc (Nat.le_refl _) _⟩
  | false =>
    have HE := Lib.hid (show nw8 n = 0 ∧ nw8E n = 1 from ⟨if_neg (by rw [h]; decide), if_neg (by rw [h]; decide)⟩)
    rw [h] at HC
    clear h
    go_enter Try.func7, Try.ntmps7
    go_wp2_with fail
    refine (HC.out _).mono ?_
    rintro e w1 ⟨rfl, rfl⟩
    obtain ⟨b0, b1, bl, f0, f1⟩ := HB.out.all
    go_wp2
    exact bodyPost_ret (v := .tuple #[.agg #[.int .i64 0, .slice none 0 0], .int .i64 1]) (by simp only [results, Try.results7]; go_simp <;> rfl) rfl ⟨by rw [HE.out.1, HE.out.2], (Below.refl _ _).alloc (Nat.le_refl _) _⟩
/-- A box of a store in a later world. -/
structure VaAt8 (w : World) (p : Nat) (cap : Int) (A : Option Addr) (c : Nat) (l : List Msg) (W : World) : Prop where
  db : DB W p cap A l.length c
  ls : Ls W w.heap.size (.slice A l.length c) l
  bel : Below w.heap.size w W
  old : w.heap.size ≤ p
section
variable {w W W' : World} {p c : Nat} {cap : Int} {A : Option Addr} {l : List Msg}
theorem VaAt8.below (h : VaAt8 w p cap A c l W) (hb : Below W.heap.size W W') : VaAt8 w p cap A c l W' :=
  ⟨h.db.up hb, h.ls.below (hb.mono h.bel.size), h.bel.trans (hb.mono h.bel.size), h.old⟩
theorem VaAt8.alloc (h : VaAt8 w p cap A c l W) (o : Obj) : VaAt8 w p cap A c l (W.alloc o) := h.below ((Below.refl _ _).alloc (Nat.le_refl _) o)
theorem VaAt8.here (h : VaAt8 w p cap A c l W) : Ls W W.heap.size (.slice A l.length c) l := h.ls.more h.bel.size
theorem VaAt8.start (t : TypeId) (cap : Int) (hv : Ls w w.heap.size (.slice A l.length c) l) : VaAt8 w w.heap.size cap A c l (w.alloc (.cells #[.int .i64 cap, .slice A l.length c] t)) :=
  ⟨DB.fresh w cap A l.length c t, hv.alloc (Nat.le_refl _) _, (Below.refl _ _).alloc (Nat.le_refl _) _, Nat.le_refl _⟩
end
set_option maxHeartbeats 4000000 in
set_option maxRecDepth 20000 in
theorem va8_any (cap : Int) (A : Option Addr) (n c : Nat) (l : List Msg) (w : World) (hv : Ls w w.heap.size (.slice A n c) l) :
    Calls Try.prog 26 #[.agg #[.int .i64 cap, .slice A n c]] w (V8 w (va8 cap l)) := by
  obtain ⟨rfl, hm1, hm2⟩ := hv.len
  have hL : l.length ≤ 9223372036854775807 := by unfold maxLen at hm2; omega
  have HC := Lib.hid (fun W => iscap8_any cap W)
  have H0 := Lib.hid (VaAt8.start 24 cap hv)
  have HF := Lib.hid (fun hok W (h : VaAt8 w w.heap.size cap A c l W) => same8_any A l.length c l W h.here hok)
  clear hv hm1 hm2
  cases h0 : wi cap 1 24 with
  | false =>
    rw [va8_cap h0]
    rw [h0] at HC
    clear h0
    obtain ⟨b0, b1, bl⟩ := H0.out.db.facts
    go_enter Try.func26, Try.ntmps26
    go_wp2_with fail
    refine (HC.out _).mono ?_
    rintro e w1 ⟨rfl, rfl⟩
    go_wp2
    go_ret
    exact ⟨rfl, H0.out.bel⟩
  | true =>
    rw [h0] at HC
    have hcp := wi_of h0
    by_cases h1 : cap < (l.length : Int)
    · rw [va8_long h0 h1]
      clear h0
      obtain ⟨b0, b1, bl⟩ := H0.out.db.facts
      go_enter Try.func26, Try.ntmps26
      go_wp2_with fail
      refine (HC.out _).mono ?_
      rintro e w1 ⟨rfl, rfl⟩
      go_wp2
      go_ret
      exact ⟨rfl, H0.out.bel⟩
    · rw [va8_so h0 h1]
      have HE := Lib.hid (fun k (hk : k < l.length) hn h => so8_fe (l := l) (by rw [fe_hit hk hn h]; exact h) |>.trans (fe_hit hk hn h))
      have HD := Lib.hid (fun (h : ∀ M ∈ l, vf M = 0) => so8_dup (fe_all h))
      have HK := Lib.hid (fun (h : ∀ M ∈ l, vf M = 0) => so8_ok (fe_all h))
      clear h0
      obtain ⟨b0, b1, bl⟩ := H0.out.db.facts
      go_enter Try.func26, Try.ntmps26
      go_wp2_with fail
      refine (HC.out _).mono ?_
      rintro e w1 ⟨rfl, rfl⟩
      generalize so8 l = R at *
      go_wp2
      clear b0 b1 bl hcp h1
      obtain ⟨p, hp⟩ : ∃ p, p = w.heap.size := ⟨_, rfl⟩
      have HPP := Lib.hid hp
      rw [← hp]
      have H1 := Lib.hid (show VaAt8 w p cap A c l (w.alloc (.cells #[.int .i64 cap, .slice A l.length c] 24)) by rw [hp]; exact H0.out)
      clear hp H0
      go_loopw [19] (fun i wr => ∃ k : Nat, k ≤ l.length ∧ i = .int .i64 k ∧ VaAt8 w p cap A c l wr ∧ ∀ j (hj : j < l.length), j < k → vf l[j] = 0) (fun i _ => l.length - (intOf i).toNat)
      case atStart => exact ⟨0, by omega, rfl, H1.out, fun j _ h => absurd h (by omega)⟩
      case round =>
        obtain ⟨k, hk, rfl, hr, hn⟩ := hrel
        have HR := Lib.hid hr
        have HN := Lib.hid hn
        clear hr hn H1
        by_cases hlt : k < l.length
        · have HRA := Lib.hid (HR.out.alloc (.cells (l[k]).cs 37))
          have HEK := Lib.hid (HE.out k hlt HN.out)
          have HX := Lib.hid (fun W => validate_any l[k] W)
          obtain ⟨b, o, rfl, hb, c0, c1, c2, c3, c4, c5, c6⟩ := HR.out.ls.at_ hlt
          by_cases h0 : vf l[k] = 0
          · have HV0 := Lib.hid h0
            rw [h0] at HX
            clear h0 HEK
            generalize hX0 : l[k] = X at *
            have HX0 := Lib.hid hX0
            clear hX0
            go_wp2_with fail
            refine (HX.out _).mono ?_
            rintro e w2 ⟨rfl, hb⟩
            have HR2 := Lib.hid (HRA.out.below hb)
            clear hb
            go_wp2
            go_roundw
            case rel => exact ⟨k + 1, by omega, by go_num, HR2.out, fun j hj hjk => by
              by_cases e : j = k
              · subst e; rw [HX0.out]; exact HV0.out
              · exact HN.out j hj (by omega)⟩
            case measure => simp [intOf]; omega
          · have HQ := Lib.hid (HEK.out h0)
            have hne : (vf l[k] != 0) = true := by simpa using h0
            clear h0 HEK
            generalize l[k] = X at *
            generalize vf X = v at *
            go_wp2_with fail
            refine (HX.out _).mono ?_
            rintro e w2 ⟨rfl, hb⟩
            have HR2 := Lib.hid (HRA.out.below hb)
            clear hb
            go_wp2
            go_ret
            exact ⟨by rw [HQ.out]; rfl, HR2.out.bel⟩
        · have HAL := Lib.hid (show ∀ M ∈ l, vf M = 0 from fun M hM => by
            obtain ⟨j, hj, rfl⟩ := List.getElem_of_mem hM
            exact HN.out j hj (by omega))
          have HFF := Lib.hid (show Calls Try.prog 45 #[.slice A l.length c] wr fun e w' => e = .returned (.bool (dp8 l)) ∧ Below wr.heap.size wr w' from HF.out HAL.out wr (by rw [← HPP.out]; exact HR.out))
          obtain ⟨b0, b1, bl⟩ := HR.out.db.facts
          cases hd : dp8 l with
          | true =>
            have HQ := Lib.hid (HD.out HAL.out (dp8_of hd))
            rw [hd] at HFF
            clear hd
            go_wp2_with fail
            refine HFF.out.mono ?_
            rintro e w2 ⟨rfl, hb⟩
            have HR2 := Lib.hid (HR.out.below hb)
            clear hb
            go_wp2
            go_ret
            exact ⟨by rw [HQ.out]; rfl, HR2.out.bel⟩
          | false =>
            have HQ := Lib.hid (HK.out HAL.out (dp8_not hd))
            rw [hd] at HFF
            clear hd
            go_wp2_with fail
            refine HFF.out.mono ?_
            rintro e w2 ⟨rfl, hb⟩
            have HR2 := Lib.hid (HR.out.below hb)
            clear hb
            go_wp2
            go_ret
            exact ⟨by rw [HQ.out]; rfl, HR2.out.bel⟩
set_option maxHeartbeats 1000000 in
theorem room8_any (cap : Int) (A : Option Addr) (n c : Nat) (l : List Msg) (w : World) (hv : Ls w w.heap.size (.slice A n c) l) :
    Calls Try.prog 22 #[.agg #[.int .i64 cap, .slice A n c]] w (V8 w (ro8 cap l)) := by
  obtain ⟨rfl, hm1, hm2⟩ := hv.len
  have H0 := Lib.hid (VaAt8.start 24 cap hv)
  have HV := Lib.hid (fun W (h : VaAt8 w w.heap.size cap A c l W) => va8_any cap A l.length c l W h.here)
  clear hv hm1 hm2
  by_cases h0 : va8 cap l = 0
  · have HQ := Lib.hid (show ro8 cap l = cap - l.length from if_pos h0)
    have hk := ok8_iff.1 h0
    obtain ⟨k1, k2, k3, _, _⟩ := hk
    rw [h0] at HV
    have hwr : wrap64 (cap - (l.length : Int)) = cap - (l.length : Int) := IntWalk.wrap64_in _ (by omega)
    have HWR := Lib.hid hwr
    clear h0 hwr
    obtain ⟨b0, b1, bl⟩ := H0.out.db.facts
    go_enter Try.func22, Try.ntmps22
    go_wp2_with fail
    refine (HV.out _ H0.out).mono ?_
    rintro e w1 ⟨rfl, hb⟩
    have H1 := Lib.hid (H0.out.below hb)
    clear hb b0 b1 bl
    obtain ⟨b0, b1, bl⟩ := H1.out.db.facts
    go_wp2
    go_ret
    exact ⟨by rw [HQ.out]; rfl, H1.out.bel⟩
  · have HQ := Lib.hid (show ro8 cap l = 0 from if_neg h0)
    have hne : (va8 cap l != 0) = true := by simpa using h0
    clear h0
    generalize va8 cap l = v at *
    obtain ⟨b0, b1, bl⟩ := H0.out.db.facts
    go_enter Try.func22, Try.ntmps22
    go_wp2_with fail
    refine (HV.out _ H0.out).mono ?_
    rintro e w1 ⟨rfl, hb⟩
    have H1 := Lib.hid (H0.out.below hb)
    clear hb
    go_wp2
    go_ret
    exact ⟨by rw [HQ.out]; rfl, H1.out.bel⟩
set_option maxHeartbeats 1000000 in
theorem exam8_any (cap : Int) (A : Option Addr) (n c : Nat) (l : List Msg) (ep : Int) (w : World) (hv : Ls w w.heap.size (.slice A n c) l) :
    Calls Try.prog 38 #[.agg #[.int .i64 cap, .slice A n c], .int .i64 ep] w (V8 w (ex8 cap l ep)) := by
  obtain ⟨rfl, hm1, hm2⟩ := hv.len
  have H0 := Lib.hid (VaAt8.start 24 cap hv)
  have HV := Lib.hid (fun W (h : VaAt8 w w.heap.size cap A c l W) => va8_any cap A l.length c l W h.here)
  clear hv hm1 hm2
  by_cases h0 : va8 cap l = 0
  · rw [h0] at HV
    by_cases a1 : ep < 0
    · have HQ := Lib.hid (ex8_ep h0 (wi_low (hi := 65536) a1))
      clear h0
      obtain ⟨b0, b1, bl⟩ := H0.out.db.facts
      go_enter Try.func38, Try.ntmps38
      go_wp2_with fail
      refine (HV.out _ H0.out).mono ?_
      rintro e w1 ⟨rfl, hb⟩
      have H1 := Lib.hid (H0.out.below hb)
      clear hb b0 b1 bl
      go_wp2
      go_ret
      exact ⟨by rw [HQ.out]; rfl, H1.out.bel⟩
    · by_cases a2 : 65536 < ep
      · have HQ := Lib.hid (ex8_ep h0 (wi_high (lo := 0) a2))
        clear h0
        obtain ⟨b0, b1, bl⟩ := H0.out.db.facts
        go_enter Try.func38, Try.ntmps38
        go_wp2_with fail
        refine (HV.out _ H0.out).mono ?_
        rintro e w1 ⟨rfl, hb⟩
        have H1 := Lib.hid (H0.out.below hb)
        clear hb b0 b1 bl
        go_wp2
        go_ret
        exact ⟨by rw [HQ.out]; rfl, H1.out.bel⟩
      · have HQ := Lib.hid (ex8_ok (ep := ep) h0 (wi_true (lo := 0) (hi := 65536) (by omega) (by omega)))
        clear h0
        obtain ⟨b0, b1, bl⟩ := H0.out.db.facts
        go_enter Try.func38, Try.ntmps38
        go_wp2_with fail
        refine (HV.out _ H0.out).mono ?_
        rintro e w1 ⟨rfl, hb⟩
        have H1 := Lib.hid (H0.out.below hb)
        clear hb b0 b1 bl
        go_wp2
        go_ret
        exact ⟨by rw [HQ.out]; rfl, H1.out.bel⟩
  · have HQ := Lib.hid (ex8_va (ep := ep) h0)
    have hne : (va8 cap l != 0) = true := by simpa using h0
    clear h0
    generalize va8 cap l = v at *
    obtain ⟨b0, b1, bl⟩ := H0.out.db.facts
    go_enter Try.func38, Try.ntmps38
    go_wp2_with fail
    refine (HV.out _ H0.out).mono ?_
    rintro e w1 ⟨rfl, hb⟩
    have H1 := Lib.hid (H0.out.below hb)
    clear hb
    go_wp2
    go_ret
    exact ⟨by rw [HQ.out]; rfl, H1.out.bel⟩
end Go.Proofs.Ytbeafcjbldnkhaa
