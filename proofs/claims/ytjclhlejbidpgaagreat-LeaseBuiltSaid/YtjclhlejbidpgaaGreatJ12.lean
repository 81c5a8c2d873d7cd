/- What is proved here: slices.BinarySearchFunc of leases, lease.place by contracts; cuts of a list of leases: what the walk gets, and how it reads; (plain) 'copy' between rows whose elements take more than one cell; rows known whole. -/
import Derived.Test.YtjclhlejbidpgaaGreatJ10
import Derived.Test.YtjclhlejbidpgaaGreatJ07
import Derived.Deep.LoopGhost
import Derived.Test.YtjclhlejbidpgaaGreatJ06
import Derived.Test.YtjclhlejbidpgaaGreatJ02
import Derived.Laws.Slices
import Derived.Laws.CopyRow
import Derived.Laws.CopyOwn
import Derived.Deep.RegionLaw
namespace Go.Proofs.YtjclhlejbidpgaaGreat
open Go.RowKit
set_option linter.unusedVariables false

theorem place1_any (X : Le) (id : Int) (w : World) : Calls Tryz.prog 72 #[X.v, .int .i64 id] w fun e w' => e = .returned (.int .i64 (ciF X.m.id id)) ∧ Below w.heap.size w w' := by
  have HB := Lib.hid ((Below.refl w.heap.size w).alloc (Nat.le_refl _) (.cells #[.int .i64 X.m.id, .int .i64 X.m.rt, .int .i64 X.m.ep, .int .i64 X.m.ct, .int .i64 X.m.gn, .int .i64 X.m.st, .string X.m.bd, .int .i64 X.dl] 39))
  have HC := Lib.hid (fun W => cmpint_any X.m.id id W)
  go_enter Tryz.func72, Tryz.ntmps72
  go_wp2_with fail
  refine (HC.out _).mono ?_
  rintro e w1 ⟨rfl, rfl⟩
  go_wp2
  go_ret
  exact ⟨rfl, HB.out⟩
theorem ciF_lt {x y : Int} (h : x < y) : ciF x y = -1 := if_pos h
theorem ciF_gt {x y : Int} (h : y < x) : ciF x y = 1 := by unfold ciF; rw [if_neg (by omega), if_pos h]
theorem ciF_eq {x y : Int} (h : x = y) : ciF x y = 0 := by unfold ciF; rw [if_neg (by omega), if_neg (by omega)]
theorem ciF_ne {x y : Int} (h : ¬ x = y) : (ciF x y == 0) = false := by
  rcases Int.lt_trichotomy x y with k | k | k
  · rw [ciF_lt k]; rfl
  · exact absurd k h
  · rw [ciF_gt k]; rfl
/-- What a search has found out: all before lo are less, none from hi on is. -/
structure Bs2 (l : List Le) (x : Int) (lo hi : Nat) : Prop where
  lo_ : ∀ j (hj : j < l.length), j < lo → l[j].id < x
  hi_ : ∀ j (hj : j < l.length), hi ≤ j → x ≤ l[j].id
theorem Bs2.start (l : List Le) (x : Int) : Bs2 l x 0 l.length := ⟨fun j _ h => absurd h (Nat.not_lt_zero _), fun j hj h => absurd hj (by omega)⟩
theorem Bs2.up {l : List Le} {x : Int} {lo hi m : Nat} (h : Bs2 l x lo hi) (ha : Asc Le.id l) (hm : m < l.length) (hx : l[m].id < x) : Bs2 l x (m + 1) hi :=
  ⟨fun j hj h' => by
    by_cases e : j = m
    · subst e; exact hx
    · exact Int.lt_trans (ha.lt (i := j) (j := m) (by omega) hm) hx, h.hi_⟩
theorem Bs2.dn {l : List Le} {x : Int} {lo hi m : Nat} (h : Bs2 l x lo hi) (ha : Asc Le.id l) (hm : m < l.length) (hx : x ≤ l[m].id) : Bs2 l x lo m :=
  ⟨h.lo_, fun j hj h' => by
    by_cases e : j = m
    · subst e; exact hx
    · exact Int.le_trans hx (Int.le_of_lt (ha.lt (i := m) (j := j) (by omega) hj))⟩
theorem Bs2.at_ {l : List Le} {x : Int} {i : Nat} (h : Bs2 l x i i) (hi : i ≤ l.length) : kAt Le.id l x = i :=
  kAt_hit hi (fun j hj => h.lo_ j _ hj) fun hk => h.hi_ i hk (Nat.le_refl _)
/-- What place tells. -/
def PlR (l : List Le) (x : Int) (w : World) (e : Ending) (w' : World) : Prop := e = .returned (.tuple #[.int .i64 (kAt Le.id l x), .bool (kHas Le.id l x)]) ∧ Below w.heap.size w w'
set_option maxHeartbeats 4000000 in
set_option maxRecDepth 20000 in
theorem bsearch_any (A : Option Addr) (n c : Nat) (l : List Le) (id : Int) (w : World) (hv : El w w.heap.size (.slice A n c) l) (ha : Asc Le.id l) (h12 : n ≤ 1000) :
    Calls Tryz.prog 71 #[.slice A n c, .int .i64 id, .func (.func 72) #[] #[]] w (PlR l id w) := by
  obtain ⟨rfl, hm1, hm2⟩ := hv.len
  have HV := Lib.hid hv
  have HA := Lib.hid ha
  have HB := Lib.hid (Below.refl w.heap.size w)
  have HS := Lib.hid (Bs2.start l id)
  clear hv ha hm1 hm2
  go_enter Tryz.func71, Tryz.ntmps71
  go_wp2
  go_loopg [9, 10] l.length (fun kx s9 s10 wr => ∃ lo hi : Nat, s9 = .int .i64 lo ∧ s10 = .int .i64 hi ∧ lo ≤ hi ∧ hi ≤ l.length ∧ hi - lo ≤ kx ∧ Hid (Below w.heap.size w wr) ∧ Hid (Bs2 l id lo hi))
  case atStart => exact ⟨0, l.length, rfl, rfl, Nat.zero_le _, Nat.le_refl _, by omega, HB, HS⟩
  case round =>
    clear HB HS
    obtain ⟨lo, hi, rfl, rfl, hlh, hin, hg, HB, HS⟩ := hrel
    have HVK := Lib.hid (HV.out.below HB.out)
    by_cases hlt : lo < hi
    · have hm : (lo + hi) / 2 < l.length := by omega
      obtain ⟨b, o, rfl, _⟩ := HVK.out.some_ (by omega)
      obtain ⟨⟨c0, c1, c2, c3, c4, c5, c6, c7⟩, hb⟩ := HVK.out.c8 hm
      obtain ⟨X, hX⟩ : ∃ X, l[(lo + hi) / 2] = X := ⟨_, rfl⟩
      rw [hX] at c0 c1 c2 c3 c4 c5 c6 c7
      have HX := Lib.hid hX
      have HC := Lib.hid (fun W => place1_any X id W)
      clear hX hb
      by_cases hx : X.m.id < id
      · rw [ciF_lt hx] at HC
        have HN := Lib.hid (HS.out.up HA.out hm (by rw [HX.out]; exact hx))
        clear hx
        go_wp2_with fail
        refine (HC.out _).mono ?_
        rintro e w1 ⟨rfl, hb1⟩
        have HB1 := Lib.hid (HB.out.trans (hb1.mono HB.out.size))
        clear hb1 c0 c1 c2 c3 c4 c5 c6 c7
        go_wp2
        go_roundg (hi - ((lo + hi) / 2 + 1))
        case measure => omega
        case rel => exact ⟨(lo + hi) / 2 + 1, hi, by rw [show ((lo : Int) + (hi : Int)) / 2 + 1 = (((lo + hi) / 2 + 1 : Nat) : Int) by omega], rfl, by omega, hin, Nat.le_refl _, HB1, HN⟩
      · have HN := Lib.hid (HS.out.dn HA.out hm (by rw [HX.out]; exact Int.not_lt.1 hx))
        have hci : ¬ ciF X.m.id id < 0 := by unfold ciF; rw [if_neg hx]; split <;> omega
        clear hx
        generalize ciF X.m.id id = y at *
        go_wp2_with fail
        refine (HC.out _).mono ?_
        rintro e w1 ⟨rfl, hb1⟩
        have HB1 := Lib.hid (HB.out.trans (hb1.mono HB.out.size))
        clear hb1 c0 c1 c2 c3 c4 c5 c6 c7
        go_wp2
        go_roundg ((lo + hi) / 2 - lo)
        case measure => omega
        case rel => exact ⟨lo, (lo + hi) / 2, rfl, by rw [show ((lo : Int) + (hi : Int)) / 2 = (((lo + hi) / 2 : Nat) : Int) by omega], by omega, by omega, Nat.le_refl _, HB1, HN⟩
    · obtain rfl : hi = lo := by omega
      have HK := Lib.hid (HS.out.at_ hin)
      by_cases hn : hi < l.length
      · obtain ⟨b, o, rfl, _⟩ := HVK.out.some_ (by omega)
        obtain ⟨⟨c0, c1, c2, c3, c4, c5, c6, c7⟩, hb⟩ := HVK.out.c8 hn
        obtain ⟨X, hX⟩ : ∃ X, l[hi] = X := ⟨_, rfl⟩
        rw [hX] at c0 c1 c2 c3 c4 c5 c6 c7
        have HX := Lib.hid hX
        have HC := Lib.hid (fun W => place1_any X id W)
        clear hX hb
        by_cases hx : X.m.id = id
        · have HR := Lib.hid (show kHas Le.id l id = true from kAt_eq (by rw [HK.out]; exact hn) (by simp only [HK.out]; rw [HX.out]; exact hx))
          rw [ciF_eq hx] at HC
          clear hx
          go_wp2_with fail
          refine (HC.out _).mono ?_
          rintro e w1 ⟨rfl, hb1⟩
          have HB1 := Lib.hid (HB.out.trans (hb1.mono HB.out.size))
          clear hb1 c0 c1 c2 c3 c4 c5 c6 c7
          go_wp2
          go_ret2
          exact ⟨by rw [HK.out, HR.out]; rfl, HB1.out⟩
        · have HR := Lib.hid (show kHas Le.id l id = false from kAt_ne HA.out (fun hl => by simp only [HK.out]; rw [HX.out]; exact hx))
          have hci : (ciF X.m.id id == 0) = false := ciF_ne hx
          clear hx
          generalize ciF X.m.id id = y at *
          go_wp2_with fail
          refine (HC.out _).mono ?_
          rintro e w1 ⟨rfl, hb1⟩
          have HB1 := Lib.hid (HB.out.trans (hb1.mono HB.out.size))
          clear hb1 c0 c1 c2 c3 c4 c5 c6 c7
          go_wp2
          go_ret2
          exact ⟨by rw [HK.out, HR.out]; rfl, HB1.out⟩
      · have HR := Lib.hid (show kHas Le.id l id = false from kAt_ne HA.out (fun hl => absurd hl (by rw [HK.out]; exact hn)))
        go_wp2
        go_ret2
        exact ⟨by rw [HK.out, HR.out]; rfl, HB.out⟩
theorem place_any (A : Option Addr) (n c : Nat) (l : List Le) (id : Int) (w : World) (hv : El w w.heap.size (.slice A n c) l) (ha : Asc Le.id l) (h12 : n ≤ 1000) :
    Calls Tryz.prog 41 #[.slice A n c, .int .i64 id] w (PlR l id w) := by
  have HC := Lib.hid (bsearch_any A n c l id w hv ha h12)
  clear hv ha
  generalize kAt Le.id l id = i at *
  go_enter Tryz.func41, Tryz.ntmps41
  go_wp2_with fail
  refine HC.out.mono ?_
  rintro e w1 ⟨rfl, hb⟩
  have HB := Lib.hid hb
  clear hb
  go_wp2
  go_ret2
  exact ⟨rfl, HB.out⟩
end Go.Proofs.YtjclhlejbidpgaaGreat
namespace Go.Proofs.YtjclhlejbidpgaaGreat
open Go.RowKit
set_option linter.unusedVariables false

section
variable {w : World} {B : Nat} {A : Option Addr} {n c : Nat} {l : List Le}
theorem el_under : Tryz.prog.underlying 22 = some (.slice (Tryz.prog.elem 22)) := by kernel_rfl
theorem el_elem : Tryz.prog.elem 22 = 39 := by kernel_rfl
theorem El.upto (h : El w B (.slice A n c) l) (j : Nat) (hj : j ≤ n) : El w B (.slice A j c) (l.take j) := by
  obtain ⟨hn, hl, hm⟩ := h.len
  have hlen : (l.take j).length = j := by simp; omega
  refine ⟨A, c, by rw [hlen], by rw [hlen]; omega, hm, by rw [ecs_len], fun h0 => ?_⟩
  rw [hlen] at h0
  obtain ⟨b, o, rfl, hb, hc⟩ := h.rd.2 (by omega)
  refine ⟨b, o, rfl, hb, fun k u hu => hc k u ?_⟩
  rw [← ecs_take] at hu
  have hk : k < j * 8 := by
    have := (List.getElem?_eq_some_iff.1 hu).1
    simp at this; omega
  rw [← hu, List.getElem?_take_of_lt hk]
theorem El.cut (h : El w B (.slice A n c) l) (k : Nat) (hk : k ≤ n) : El w B (.slice (if c = k then A else A.map (·.add (k * 8))) (n - k) (c - k)) (l.drop k) := by
  obtain ⟨hn, hl, hm⟩ := h.len
  refine ⟨_, c - k, by rw [List.length_drop, hn], by simp; omega, by omega, by rw [ecs_len], fun h0 => ?_⟩
  rw [List.length_drop] at h0
  obtain ⟨b, o, rfl, hb, hc⟩ := h.rd.2 (by omega)
  rw [if_neg (by omega)]
  refine ⟨b, o + k * 8, by rw [Option.map_some, add_mk], hb, fun j u hu => ?_⟩
  rw [Nat.add_assoc]
  refine hc _ u ?_
  rw [← hu, ← ecs_drop, List.getElem?_drop]
theorem run_eupto (A : Option Addr) (n c : Nat) (kh : IntKind) (j : Nat) (hj : j ≤ c) : ∀ W, (Instr.slice 22 (.slice A n c) none (some (.int kh (j : Int))) none).run Tryz.prog W = .ok (.slice A j c) W := fun W => by
  rw [run_slice_h W _ _ _ _ el_under kh _ (by omega) (by omega), el_elem, Tryz.sizeOf39]
  cases A <;> simp [Result.andThen, sliced, Addr.add]
theorem run_ecut (A : Option Addr) (n c : Nat) (kl : IntKind) (k : Nat) (hk : k ≤ n) : ∃ A', A' = (if c = k then A else A.map (·.add (k * 8))) ∧ ∀ W, (Instr.slice 22 (.slice A n c) (some (.int kl (k : Int))) none none).run Tryz.prog W = .ok (.slice A' (n - k) (c - k)) W := by
  refine ⟨_, rfl, fun W => ?_⟩
  rw [run_slice_l W _ _ _ _ el_under kl _ (by omega) (by omega), el_elem, Tryz.sizeOf39]
  simp [Result.andThen, sliced]
end
end Go.Proofs.YtjclhlejbidpgaaGreat
namespace Go.Proofs.YtjclhlejbidpgaaGreat
open Go.RowKit
set_option linter.unusedVariables false

section
variable {P : Program}
theorem run_copy_sized (w : World) (dT sT ty elem : TypeId) (size g o dLen dCap : Nat) (a : Addr) (sLen sCap : Nat) (cur : List Value) (t : TypeId) (cs : List Value)
    (hu : P.underlying dT = some (.slice elem)) (hs : (P.info? elem).map (·.size) = some size)
    (hg : w.heap[g]? = some (.cells cur.toArray t (0, 0))) (hn : cs.length = Nat.min sLen dLen * size)
    (hsrc : ∀ j v, cs[j]? = some v → w.cell? (a.add j) = some v) (hfit : o + cs.length ≤ cur.length) (h1 : ∀ v ∈ cs, v.oneCell' = true) :
    (Builtin.copy_ #[dT, sT] ty #[.slice (some ⟨g, o, none⟩) dLen dCap, .slice (some a) sLen sCap]).run P w =
      .ok (goInt (Nat.min sLen dLen)) (w.setRow g (splice cur o cs).toArray) := by
  have hl := run_loadCells_list (P := P) w a cs hsrc
  have hst := run_storeCells_at P g o t cs 0 cur.toArray w hg (by simpa using hfit) h1
  cases hq : P.info? elem with
  | none => simp [hq] at hs
  | some i =>
    have hi : i.size = size := by simpa [hq] using hs
    have e : w.setRow g (cur.take o ++ cs ++ cur.drop (o + cs.length)).toArray = w.setRow g (splice cur o cs).toArray := by
      unfold splice; rw [List.append_assoc]
    simp [Builtin.copy_, run_underlying hu, Builtin.lenOf, Builtin.firstCells, sizeOf, typeInfo, hq, hi, ← hn, hl, hst]
    rw [← e]
    simp
end

/-- A row of leases that is known whole: block g has the cells cur. -/
abbrev Rw (W : World) (g : Nat) (t : TypeId) (cur : List Value) : Prop := W.heap[g]? = some (.cells cur.toArray t (0, 0))
section
variable {W : World} {g base n cap size : Nat} {t e : TypeId} {cur xs : List Value} {v : Value}
theorem Rw.set (h : Rw W g t cur) (o : Nat) (cs : List Value) : Rw (W.setRow g (splice cur o cs).toArray) g t (splice cur o cs) := setRow_heap W g _ _ t _ h
theorem Rw.cell (h : Rw W g t cur) {j : Nat} {u : Value} (hj : cur[j]? = some u) : W.cell? ⟨g, j, none⟩ = some u := by
  simp [World.cell?, h, hj]
theorem Rw.of_own (h : W.ownsRow base e size v n xs) (h0 : 0 < n) : ∃ g cap cur, v = .slice (some ⟨g, 0, none⟩) n cap ∧ base ≤ g ∧ Rw W g e cur ∧ n ≤ cap ∧ cap ≤ maxLen ∧ cur.length = cap * size ∧ cur.take (n * size) = xs := by
  rcases h.2 with ⟨_, h⟩ | ⟨g, cap, cur, hv, hb, hh, hl, hm, hs, ht⟩
  · omega
  · exact ⟨g, cap, cur.toList, hv, hb, by simpa using hh, hl, hm, by simpa using hs, ht⟩
theorem Rw.own (h : Rw W g e cur) (hb : base ≤ g) (hl : n ≤ cap) (hm : cap ≤ maxLen) (hs : cur.length = cap * size) (ht : cur.take (n * size) = xs) : W.ownsRow base e size (.slice (some ⟨g, 0, none⟩) n cap) n xs := by
  refine ⟨?_, .inr ⟨g, cap, cur.toArray, rfl, hb, h, hl, hm, by simpa using hs, by simpa using ht⟩⟩
  rw [← ht, List.length_take, hs]
  exact Nat.min_eq_left (Nat.mul_le_mul_right _ hl)
theorem Rw.lt (h : Rw W g t cur) : g < W.heap.size := (Array.getElem?_eq_some_iff.1 h).1
theorem splice_len (cur : List Value) (o : Nat) (cs : List Value) (h : o + cs.length ≤ cur.length) : (splice cur o cs).length = cur.length := length_splice cur o cs h
/-- Shifting up, then laying in. -/
theorem splice_shift {A M B C : List Value} {cur : List Value} (h : cur = A ++ (B ++ C)) (hM : M.length ≤ C.length) :
    splice (splice cur (A.length + M.length) B) A.length M = A ++ (M ++ (B ++ C.drop M.length)) := by
  subst h
  have e1 : splice (A ++ (B ++ C)) (A.length + M.length) B = (A ++ (B ++ C)).take (A.length + M.length) ++ (B ++ C.drop M.length) := by
    unfold splice
    congr 2
    rw [show A.length + M.length + B.length = A.length + (B.length + M.length) by omega, List.drop_append, List.drop_eq_nil_of_le (by omega), List.nil_append, show A.length + (B.length + M.length) - A.length = B.length + M.length by omega, List.drop_append, List.drop_eq_nil_of_le (by omega), List.nil_append, show B.length + M.length - B.length = M.length by omega]
  have hT : ((A ++ (B ++ C)).take (A.length + M.length)).length = A.length + M.length := by
    rw [List.length_take]; simp; omega
  rw [e1]
  unfold splice
  rw [List.take_append, hT, show A.length - (A.length + M.length) = 0 by omega, List.take_zero, List.append_nil, List.take_take, Nat.min_eq_left (by omega), List.take_left, List.drop_append, hT, Nat.sub_self, List.drop_zero, List.drop_eq_nil_of_le (by omega), List.nil_append]
/-- Laying two parts behind what is there. -/
theorem splice_two {A M B : List Value} {cur : List Value} (hA : cur.take A.length = A) (hl : A.length + M.length + B.length ≤ cur.length) :
    (splice (splice cur A.length M) (A.length + M.length) B).take (A.length + M.length + B.length) = A ++ (M ++ B) := by
  have e1 : splice cur A.length M = A ++ (M ++ cur.drop (A.length + M.length)) := by unfold splice; rw [hA]
  have e2 : splice (A ++ (M ++ cur.drop (A.length + M.length))) (A.length + M.length) B = A ++ M ++ (B ++ cur.drop (A.length + M.length + B.length)) := by
    unfold splice
    rw [show A ++ (M ++ cur.drop (A.length + M.length)) = (A ++ M) ++ cur.drop (A.length + M.length) by simp, List.take_append_of_le_length (by simp), List.take_of_length_le (by simp), List.drop_append, List.drop_eq_nil_of_le (by simp), List.nil_append, List.length_append, List.drop_drop, show A.length + M.length + (A.length + M.length + B.length - (A.length + M.length)) = A.length + M.length + B.length by omega]
  rw [e1, e2, List.take_append, List.take_of_length_le (by simp)]
  rw [show A.length + M.length + B.length - (A ++ M).length = B.length by simp, List.take_append_of_le_length (Nat.le_refl _), List.take_of_length_le (Nat.le_refl _)]
  simp
theorem grown_setRow (w : World) (g : Nat) (cs : Array Value) : w.grownBy (w.setRow g cs) (some g) :=
  ⟨rfl, rfl, rfl, by simp [World.setRow], fun k _ hne => setRow_other w g k cs (fun e => hne (by rw [e]))⟩
theorem Rw.grown {W W' : World} {g : Nat} {t : TypeId} {cur : List Value} {row : Option Nat} (h : Rw W g t cur) (hg : W.grownBy W' row) (hne : some g ≠ row) : Rw W' g t cur := (hg.block g h.lt hne).trans h
theorem Rw.below {W W' : World} {B g : Nat} {t : TypeId} {cur : List Value} (h : Rw W g t cur) (hb : Below B W W') (hl : g < B) : Rw W' g t cur := (hb.block g hl).trans h
theorem Rw.shape {W : World} {g : Nat} {t : TypeId} {cur : List Value} (h : Rw W g t cur) : W.shape? g = some (t, cur.length) := by
  have h : W.heap[g]? = some (.cells cur.toArray t (0, 0)) := h
  simp [World.shape?, h]
theorem Rw.free {W : World} {g : Nat} {t : TypeId} {cur : List Value} (h : Rw W g t cur) (o : Nat) : W.frozen? ⟨g, o, none⟩ = false := by
  have h : W.heap[g]? = some (.cells cur.toArray t (0, 0)) := h
  simp [World.frozen?, h]
theorem Rw.fresh (w : World) (cs : Array Value) (t : TypeId) : Rw (w.alloc (.cells cs t)) w.heap.size t cs.toList := by
  show (w.heap.push (.cells cs t))[w.heap.size]? = some (.cells cs.toList.toArray t (0, 0))
  simp
section
variable {P : Program} {ops : Array Oper} {o : Oper} {a : Act} {w : World}
/-- 'copy' into a row that is known whole. -/
theorem wp_copy_rw {K : Act → World → Prop} {Q : Exit → Act → World → Prop} (d s : Operand) (t : TypeId)
    (ho : o.op = .call { callee := .builtin .copy, args := #[d, s], argTypes := #[t, t] }) (elem : TypeId) (size : Nat) (hu : P.underlying t = some (.slice elem)) (hsz : (P.info? elem).map (·.size) = some size)
    (g off dLen dCap : Nat) (ad : Addr) (sLen sCap : Nat) (hd : a.eval d = .slice (some ⟨g, off, none⟩) dLen dCap) (hs : a.eval s = .slice (some ad) sLen sCap)
    (cur : List Value) (e : TypeId) (hg : Rw w g e cur) (cs : List Value) (hn : cs.length = Nat.min sLen dLen * size)
    (hsrc : ∀ j v, cs[j]? = some v → w.cell? (ad.add j) = some v) (hfit : off + cs.length ≤ cur.length) (h1 : ∀ v ∈ cs, v.oneCell' = true)
    (h : ∀ n w', Rw w' g e (splice cur off cs) → w.grownBy w' (some g) → K (a.put o.dst (goInt n)) w') : o.wp P a w K Q := by
  have hrun := run_copy_sized (P := P) w t t o.type elem size g off dLen dCap ad sLen sCap cur e cs hu hsz hg hn hsrc hfit h1
  unfold Oper.wp
  simp [execOp, ho, resolve, invoke, builtin, hd, hs, hrun, Result.andThen]
  exact h _ _ (Rw.set hg off cs) (grown_setRow w g _)
theorem wpList_copy_rw {rest : List Oper} {Q : Exit → Act → World → Prop} (hgd : o.guard = none) (d s : Operand) (t : TypeId)
    (ho : o.op = .call { callee := .builtin .copy, args := #[d, s], argTypes := #[t, t] }) (elem : TypeId) (size : Nat) (hu : P.underlying t = some (.slice elem)) (hsz : (P.info? elem).map (·.size) = some size)
    (g off dLen dCap : Nat) (ad : Addr) (sLen sCap : Nat) (hd : a.eval d = .slice (some ⟨g, off, none⟩) dLen dCap) (hs : a.eval s = .slice (some ad) sLen sCap)
    (cur : List Value) (e : TypeId) (hg : Rw w g e cur) (cs : List Value) (hn : cs.length = Nat.min sLen dLen * size)
    (hsrc : ∀ j v, cs[j]? = some v → w.cell? (ad.add j) = some v) (hfit : off + cs.length ≤ cur.length) (h1 : ∀ v ∈ cs, v.oneCell' = true)
    (h : ∀ n w', Rw w' g e (splice cur off cs) → w.grownBy w' (some g) → wpList P ops Q rest (a.put o.dst (goInt n)) w') : wpList P ops Q (o :: rest) a w :=
  wpList_plain hgd fun _ hK => wp_copy_rw d s t ho elem size hu hsz g off dLen dCap ad sLen sCap hd hs cur e hg cs hn hsrc hfit h1 fun n w' x y => hK _ _ (h n w' x y)
theorem step_copy_rw (w : World) {K : Act → World → Prop} {Q : Exit → Act → World → Prop} {E : Prop} (hgd : o.guard = none) (d s : Operand) (t : TypeId)
    (ho : o.op = .call { callee := .builtin .copy, args := #[d, s], argTypes := #[t, t] }) (elem : TypeId) (size : Nat) (hu : P.underlying t = some (.slice elem)) (hsz : (P.info? elem).map (·.size) = some size)
    (g off dLen dCap : Nat) (ad : Addr) (sLen sCap : Nat) (hd : a.eval d = .slice (some ⟨g, off, none⟩) dLen dCap) (hs : a.eval s = .slice (some ad) sLen sCap)
    (cur : List Value) (e : TypeId) (hg : Rw w g e cur) (cs : List Value) (hn : cs.length = Nat.min sLen dLen * size)
    (hsrc : ∀ j v, cs[j]? = some v → w.cell? (ad.add j) = some v) (hfit : off + cs.length ≤ cur.length) (h1 : ∀ v ∈ cs, v.oneCell' = true)
    (h : ∀ n w', Rw w' g e (splice cur off cs) → w.grownBy w' (some g) → K (a.put o.dst (goInt n)) w') :
    if Region.wanted o (yielded ops a.tmps) = true then Oper.wp P o a w K Q else E := by
  have hw : Region.wanted o (yielded ops a.tmps) = true := by simp [Region.wanted, hgd]
  rw [if_pos hw]
  exact wp_copy_rw d s t ho elem size hu hsz g off dLen dCap ad sLen sCap hd hs cur e hg cs hn hsrc hfit h1 h
end
end
end Go.Proofs.YtjclhlejbidpgaaGreat
