/- What is proved here: slices.BinarySearchFunc of leases, lease.place by contracts; lease.Find by a contract; the reference's Purged of message, by one contract for all arguments. -/
import Derived.Test.YtnldgfhkdllinaaGreatJ26
import Derived.Test.YtnldgfhkdllinaaGreatJ17
import Derived.Deep.LoopGhost
import Derived.Test.YtnldgfhkdllinaaGreatJ27
import Derived.Test.YtnldgfhkdllinaaGreatJ19
import Derived.Test.YtnldgfhkdllinaaGreatJ16
namespace Go.Proofs.YtnldgfhkdllinaaGreat
open Go.RowKit
set_option linter.unusedVariables false

theorem place1_any (X : Le) (id : Int) (w : World) : Calls Tryz.prog 168 #[X.v, .int .i64 id] w fun e w' => e = .returned (.int .i64 (ciF X.m.id id)) ∧ Below w.heap.size w w' := by
  have HB := Lib.hid ((Below.refl w.heap.size w).alloc (Nat.le_refl _) (.cells #[.int .i64 X.m.id, .int .i64 X.m.rt, .int .i64 X.m.ep, .int .i64 X.m.ct, .int .i64 X.m.gn, .int .i64 X.m.st, .string X.m.bd, .int .i64 X.dl] 61))
  have HC := Lib.hid (fun W => cmpint_any X.m.id id W)
  go_enter Tryz.func168, Tryz.ntmps168
  go_wp2_with fail
  refine (HC.out _).mono ?_
  rintro e w1 ⟨rfl, rfl⟩
  go_wp2
  go_ret
  exact ⟨rfl, HB.out⟩
theorem ciF_lt {x y : Int} (h : x < y) : ciF x y = -1 := if_pos h
theorem ciF_gt {x y : Int} (h : y < x) : ciF x y = 1 := by unfold ciF; rw [if_neg (by omega), if_pos h]
theorem ciF_eq {x y : Int} (h : x = y) : ciF x y = 0 := by unfold ciF; rw [if_neg (by omega), if_neg (by omega)]
theorem ciF_ne {x y : Int} (h : ¬ x = y) : (ciF x y == 0) = false := by
  rcases Int.lt_trichotomy x y with k | k | k
  · rw [ciF_lt k]; rfl
  · exact absurd k h
  · rw [ciF_gt k]; rfl
/-- What a search has found out: all before lo are less, none from hi on is. -/
structure Bs2 (l : List Le) (x : Int) (lo hi : Nat) : Prop where
  lo_ : ∀ j (hj : j < l.length), j < lo → l[j].id < x
  hi_ : ∀ j (hj : j < l.length), hi ≤ j → x ≤ l[j].id
theorem Bs2.start (l : List Le) (x : Int) : Bs2 l x 0 l.length := ⟨fun j _ h => absurd h (Nat.not_lt_zero _), fun j hj h => absurd hj (by omega)⟩
theorem Bs2.up {l : List Le} {x : Int} {lo hi m : Nat} (h : Bs2 l x lo hi) (ha : Asc Le.id l) (hm : m < l.length) (hx : l[m].id < x) : Bs2 l x (m + 1) hi :=
  ⟨fun j hj h' => by
    by_cases e : j = m
    · subst e; exact hx
    · exact Int.lt_trans (ha.lt (i := j) (j := m) (by omega) hm) hx, h.hi_⟩
theorem Bs2.dn {l : List Le} {x : Int} {lo hi m : Nat} (h : Bs2 l x lo hi) (ha : Asc Le.id l) (hm : m < l.length) (hx : x ≤ l[m].id) : Bs2 l x lo m :=
  ⟨h.lo_, fun j hj h' => by
    by_cases e : j = m
    · subst e; exact hx
    · exact Int.le_trans hx (Int.le_of_lt (ha.lt (i := m) (j := j) (by omega) hj))⟩
theorem Bs2.at_ {l : List Le} {x : Int} {i : Nat} (h : Bs2 l x i i) (hi : i ≤ l.length) : kAt Le.id l x = i :=
  kAt_hit hi (fun j hj => h.lo_ j _ hj) fun hk => h.hi_ i hk (Nat.le_refl _)
/-- What place tells. -/
def PlR (l : List Le) (x : Int) (w : World) (e : Ending) (w' : World) : Prop := e = .returned (.tuple #[.int .i64 (kAt Le.id l x), .bool (kHas Le.id l x)]) ∧ Below w.heap.size w w'
set_option maxHeartbeats 4000000 in
set_option maxRecDepth 20000 in
theorem bsearch_any (A : Option Addr) (n c : Nat) (l : List Le) (id : Int) (w : World) (hv : El w w.heap.size (.slice A n c) l) (ha : Asc Le.id l) (h12 : n ≤ 1000) :
    Calls Tryz.prog 167 #[.slice A n c, .int .i64 id, .func (.func 168) #[] #[]] w (PlR l id w) := by
  obtain ⟨rfl, hm1, hm2⟩ := hv.len
  have HV := Lib.hid hv
  have HA := Lib.hid ha
  have HB := Lib.hid (Below.refl w.heap.size w)
  have HS := Lib.hid (Bs2.start l id)
  clear hv ha hm1 hm2
  go_enter Tryz.func167, Tryz.ntmps167
  go_wp2
  go_loopg [9, 10] l.length (fun kx s9 s10 wr => ∃ lo hi : Nat, s9 = .int .i64 lo ∧ s10 = .int .i64 hi ∧ lo ≤ hi ∧ hi ≤ l.length ∧ hi - lo ≤ kx ∧ Hid (Below w.heap.size w wr) ∧ Hid (Bs2 l id lo hi))
  case atStart => exact ⟨0, l.length, rfl, rfl, Nat.zero_le _, Nat.le_refl _, by omega, HB, HS⟩
  case round =>
    clear HB HS
    obtain ⟨lo, hi, rfl, rfl, hlh, hin, hg, HB, HS⟩ := hrel
    have HVK := Lib.hid (HV.out.below HB.out)
    by_cases hlt : lo < hi
    · have hm : (lo + hi) / 2 < l.length := by omega
      obtain ⟨b, o, rfl, _⟩ := HVK.out.some_ (by omega)
      obtain ⟨⟨c0, c1, c2, c3, c4, c5, c6, c7⟩, hb⟩ := HVK.out.c8 hm
      obtain ⟨X, hX⟩ : ∃ X, l[(lo + hi) / 2] = X := ⟨_, rfl⟩
      rw [hX] at c0 c1 c2 c3 c4 c5 c6 c7
      have HX := Lib.hid hX
      have HC := Lib.hid (fun W => place1_any X id W)
      clear hX hb
      by_cases hx : X.m.id < id
      · rw [ciF_lt hx] at HC
        have HN := Lib.hid (HS.out.up HA.out hm (by rw [HX.out]; exact hx))
        clear hx
        go_wp2_with fail
        refine (HC.out _).mono ?_
        rintro e w1 ⟨rfl, hb1⟩
        have HB1 := Lib.hid (HB.out.trans (hb1.mono HB.out.size))
        clear hb1 c0 c1 c2 c3 c4 c5 c6 c7
        go_wp2
        go_roundg (hi - ((lo + hi) / 2 + 1))
        case measure => omega
        case rel => exact ⟨(lo + hi) / 2 + 1, hi, by rw [show ((lo : Int) + (hi : Int)) / 2 + 1 = (((lo + hi) / 2 + 1 : Nat) : Int) by omega], rfl, by omega, hin, Nat.le_refl _, HB1, HN⟩
      · have HN := Lib.hid (HS.out.dn HA.out hm (by rw [HX.out]; exact Int.not_lt.1 hx))
        have hci : ¬ ciF X.m.id id < 0 := by unfold ciF; rw [if_neg hx]; split <;> omega
        clear hx
        generalize ciF X.m.id id = y at *
        go_wp2_with fail
        refine (HC.out _).mono ?_
        rintro e w1 ⟨rfl, hb1⟩
        have HB1 := Lib.hid (HB.out.trans (hb1.mono HB.out.size))
        clear hb1 c0 c1 c2 c3 c4 c5 c6 c7
        go_wp2
        go_roundg ((lo + hi) / 2 - lo)
        case measure => omega
        case rel => exact ⟨lo, (lo + hi) / 2, rfl, by rw [show ((lo : Int) + (hi : Int)) / 2 = (((lo + hi) / 2 : Nat) : Int) by omega], by omega, by omega, Nat.le_refl _, HB1, HN⟩
    · obtain rfl : hi = lo := by omega
      have HK := Lib.hid (HS.out.at_ hin)
      by_cases hn : hi < l.length
      · obtain ⟨b, o, rfl, _⟩ := HVK.out.some_ (by omega)
        obtain ⟨⟨c0, c1, c2, c3, c4, c5, c6, c7⟩, hb⟩ := HVK.out.c8 hn
        obtain ⟨X, hX⟩ : ∃ X, l[hi] = X := ⟨_, rfl⟩
        rw [hX] at c0 c1 c2 c3 c4 c5 c6 c7
        have HX := Lib.hid hX
        have HC := Lib.hid (fun W => place1_any X id W)
        clear hX hb
        by_cases hx : X.m.id = id
        · have HR := Lib.hid (show kHas Le.id l id = true from kAt_eq (by rw [HK.out]; exact hn) (by simp only [HK.out]; rw [HX.out]; exact hx))
          rw [ciF_eq hx] at HC
          clear hx
          go_wp2_with fail
          refine (HC.out _).mono ?_
          rintro e w1 ⟨rfl, hb1⟩
          have HB1 := Lib.hid (HB.out.trans (hb1.mono HB.out.size))
          clear hb1 c0 c1 c2 c3 c4 c5 c6 c7
          go_wp2
          go_ret2
          exact ⟨by rw [HK.out, HR.out]; rfl, HB1.out⟩
        · have HR := Lib.hid (show kHas Le.id l id = false from kAt_ne HA.out (fun hl => by simp only [HK.out]; rw [HX.out]; exact hx))
          have hci : (ciF X.m.id id == 0) = false := ciF_ne hx
          clear hx
          generalize ciF X.m.id id = y at *
          go_wp2_with fail
          refine (HC.out _).mono ?_
          rintro e w1 ⟨rfl, hb1⟩
          have HB1 := Lib.hid (HB.out.trans (hb1.mono HB.out.size))
          clear hb1 c0 c1 c2 c3 c4 c5 c6 c7
          go_wp2
          go_ret2
          exact ⟨by rw [HK.out, HR.out]; rfl, HB1.out⟩
      · have HR := Lib.hid (show kHas Le.id l id = false from kAt_ne HA.out (fun hl => absurd hl (by rw [HK.out]; exact hn)))
        go_wp2
        go_ret2
        exact ⟨by rw [HK.out, HR.out]; rfl, HB.out⟩
theorem lplace_any (A : Option Addr) (n c : Nat) (l : List Le) (id : Int) (w : World) (hv : El w w.heap.size (.slice A n c) l) (ha : Asc Le.id l) (h12 : n ≤ 1000) :
    Calls Tryz.prog 124 #[.slice A n c, .int .i64 id] w (PlR l id w) := by
  have HC := Lib.hid (bsearch_any A n c l id w hv ha h12)
  clear hv ha
  generalize kAt Le.id l id = i at *
  go_enter Tryz.func124, Tryz.ntmps124
  go_wp2_with fail
  refine HC.out.mono ?_
  rintro e w1 ⟨rfl, hb⟩
  have HB := Lib.hid hb
  clear hb
  go_wp2
  go_ret2
  exact ⟨rfl, HB.out⟩
end Go.Proofs.YtnldgfhkdllinaaGreat
namespace Go.Proofs.YtnldgfhkdllinaaGreat
open Go.RowKit
set_option linter.unusedVariables false

theorem fn_has {l : List Le} {h : List Du} {id : Int} (t : TbOk l h) (e : kHas Le.id l id = true) : ∃ hk : kAt Le.id l id < l.length, fnO l h id = true ∧ fnX l h id = l[kAt Le.id l id] := by
  obtain ⟨e1, e2⟩ := kAt_fi t.asc (kHas_iff.1 e)
  exact ⟨e2, fn_yes ((tbV_iff l h).2 t) e2 e1⟩
set_option maxHeartbeats 8000000 in
set_option maxRecDepth 20000 in
theorem lfind_any (A : Option Addr) (n c : Nat) (l : List Le) (A2 : Option Addr) (n2 c2 : Nat) (h : List Du) (id : Int) (w : World) (hv : El w w.heap.size (.slice A n c) l) (hd : Dl w w.heap.size (.slice A2 n2 c2) h) :
    Calls Tryz.prog 80 #[tv A n c A2 n2 c2, .int .i64 id] w fun e w' => e = .returned (.tuple #[(fnX l h id).v, .bool (fnO l h id)]) ∧ Below w.heap.size w w' := by
  obtain ⟨rfl, hm1, hm2⟩ := hv.len
  obtain ⟨rfl, hm3, hm4⟩ := hd.len
  have H0 := Lib.hid ((VaA.start 31 hv hd).alloc (.cells #[.int .i64 0, .int .i64 0, .int .i64 0, .int .i64 0, .int .i64 0, .int .i64 0, .string ⟨#[]⟩, .int .i64 0] 61))
  have HR0 := Lib.hid (RL.start (w.alloc (.cells #[.slice A l.length c, .slice A2 h.length c2] 31)) zL 61)
  clear hv hd hm1 hm2 hm3 hm4
  obtain ⟨O, hO⟩ : ∃ O, O = fnO l h id := ⟨_, rfl⟩
  obtain ⟨X, hX⟩ : ∃ X, X = fnX l h id := ⟨_, rfl⟩
  obtain ⟨z, hz⟩ : ∃ z, z = tbV l h := ⟨_, rfl⟩
  have HV := Lib.hid (fun p W (k : VaA w p A c l A2 c2 h W) => lvalid_any A l.length c l A2 h.length c2 h W k.el k.dl)
  rw [← hz] at HV
  rw [← hO, ← hX]
  have HO := Lib.hid hO
  have HX := Lib.hid hX
  have HZ := Lib.hid hz
  clear hO hX hz
  go_enter Tryz.func80, Tryz.ntmps80
  obtain ⟨t0, t1, tl⟩ := H0.out.tb
  go_wp2_with fail
  clear t0 t1 tl
  obtain ⟨p, hp⟩ : ∃ p, p = w.heap.size := ⟨_, rfl⟩
  obtain ⟨r, hr⟩ : ∃ r, r = w.heap.size + 1 := ⟨_, rfl⟩
  have HPR := Lib.hid (show ¬ p = r ∧ w.heap.size ≤ r by omega)
  have e1 : (w.alloc (.cells #[.slice A l.length c, .slice A2 h.length c2] 31)).heap.size = r := by rw [hr]; simp
  rw [e1] at HR0
  have HS := Lib.hid (show VaA w p A c l A2 c2 h ((w.alloc (.cells #[.slice A l.length c, .slice A2 h.length c2] 31)).alloc (.cells #[.int .i64 0, .int .i64 0, .int .i64 0, .int .i64 0, .int .i64 0, .int .i64 0, .string ⟨#[]⟩, .int .i64 0] 61)) ∧ RL ((w.alloc (.cells #[.slice A l.length c, .slice A2 h.length c2] 31)).alloc (.cells #[.int .i64 0, .int .i64 0, .int .i64 0, .int .i64 0, .int .i64 0, .int .i64 0, .string ⟨#[]⟩, .int .i64 0] 61)) r zL from ⟨by rw [hp]; exact H0.out, HR0.out⟩)
  rw [← hr, ← hp]
  clear e1 H0 HR0 hp hr
  generalize ((w.alloc (.cells #[.slice A l.length c, .slice A2 h.length c2] 31)).alloc (.cells #[.int .i64 0, .int .i64 0, .int .i64 0, .int .i64 0, .int .i64 0, .int .i64 0, .string ⟨#[]⟩, .int .i64 0] 61)) = w2 at *
  have hpr : ¬ p = r := HPR.out.1
  have hrp : ¬ r = p := fun e => HPR.out.1 e.symm
  by_cases hz0 : z = 0
  · rw [hz0] at HV
    have HT := Lib.hid ((tbV_iff l h).1 (HZ.out.symm.trans hz0))
    have HP := Lib.hid (fun p W (k : VaA w p A c l A2 c2 h W) => lplace_any A l.length c l id W k.el HT.out.asc (by have := HT.out.len; omega))
    have HFH := Lib.hid (fun e => fn_has (id := id) HT.out e)
    have HFN := Lib.hid (fun e => fn_no (l := l) (h := h) (id := id) e)
    have HKN := Lib.hid (fun e => (kHas_not (key := Le.id) (l := l) (x := id)).1 e)
    unfold PlR at HP
    obtain ⟨i, hi⟩ : ∃ i, i = kAt Le.id l id := ⟨_, rfl⟩
    rw [← hi] at HP
    have HI := Lib.hid hi
    clear hz0 hi
    refine (HV.out _ _ HS.out.1).mono ?_
    rintro e w3 ⟨rfl, hb⟩
    have HS3 := Lib.hid (show VaA w p A c l A2 c2 h w3 ∧ RL w3 r zL from ⟨HS.out.1.below hb, HS.out.2.below hb HS.out.2.lt⟩)
    clear hb
    obtain ⟨t0, t1, tl⟩ := HS3.out.1.tb
    go_wp2_with fail
    clear t0 t1 tl
    cases ho : kHas Le.id l id with
    | false =>
      rw [ho] at HP
      have HXO := Lib.hid (show X = zL ∧ O = false from ⟨HX.out.trans (HFN.out (fun hh => by have := HKN.out ho; omega)).2, HO.out.trans (HFN.out (fun hh => by have := HKN.out ho; omega)).1⟩)
      clear ho
      refine (HP.out _ _ HS3.out.1).mono ?_
      rintro e w4 ⟨rfl, hb⟩
      have HS4 := Lib.hid (show VaA w p A c l A2 c2 h w4 ∧ RL w4 r zL from ⟨HS3.out.1.below hb, HS3.out.2.below hb HS3.out.2.lt⟩)
      clear hb
      obtain ⟨r0, r1, r2, r3, r4, r5, r6, r7, g0, g1, g2, g3, g4, g5, g6, g7, rl⟩ := HS4.out.2
      go_wp2
      exact bodyPost_ret (v := .tuple #[.agg #[.int .i64 0, .int .i64 0, .int .i64 0, .int .i64 0, .int .i64 0, .int .i64 0, .string ⟨#[]⟩, .int .i64 0], .bool false]) (by simp only [results, Tryz.results80]; go_simp <;> rfl) rfl ⟨by rw [HXO.out.1, HXO.out.2]; rfl, sets_below HPR.out.2 zL.l 0 _ HS4.out.1.bel⟩
    | true =>
      rw [ho] at HP
      obtain ⟨hk, e1, e2⟩ := HFH.out ho
      have hki : i < l.length := by rw [HI.out]; exact hk
      have hki' : (i : Int) < (l.length : Int) := by omega
      obtain ⟨Y, hY⟩ : ∃ Y, l[i] = Y := ⟨_, rfl⟩
      have HXO := Lib.hid (show X = Y ∧ O = true from ⟨(HX.out.trans e2).trans (by rw [← hY]; simp only [HI.out]), HO.out.trans e1⟩)
      have HYK := Lib.hid hY
      clear ho e1 e2 hk hY
      refine (HP.out _ _ HS3.out.1).mono ?_
      rintro e w4 ⟨rfl, hb⟩
      have HS4 := Lib.hid (show VaA w p A c l A2 c2 h w4 ∧ RL w4 r zL from ⟨HS3.out.1.below hb, HS3.out.2.below hb HS3.out.2.lt⟩)
      clear hb
      obtain ⟨t0, t1, tl⟩ := HS4.out.1.tb
      obtain ⟨r0, r1, r2, r3, r4, r5, r6, r7, g0, g1, g2, g3, g4, g5, g6, g7, rl⟩ := HS4.out.2
      obtain ⟨b, o, rfl, hbl⟩ := HS4.out.1.el.some_ (by omega)
      obtain ⟨⟨c0, c1, c2', c3, c4, c5, c6, c7⟩, _⟩ := HS4.out.1.el.c8 hki
      rw [HYK.out] at c0 c1 c2' c3 c4 c5 c6 c7
      go_wp2
      exact bodyPost_ret (v := .tuple #[Y.v, .bool true]) (by simp only [results, Tryz.results80]; go_simp <;> rfl) rfl ⟨by rw [HXO.out.1, HXO.out.2], sets_below HPR.out.2 Y.l 0 _ HS4.out.1.bel⟩
  · have hz' : (z != 0) = true := by simpa using hz0
    have HXO := Lib.hid (show X = zL ∧ O = false from ⟨HX.out.trans (fn_no fun hh => by have := HZ.out; omega).2, HO.out.trans (fn_no fun hh => by have := HZ.out; omega).1⟩)
    clear hz0
    refine (HV.out _ _ HS.out.1).mono ?_
    rintro e w4 ⟨rfl, hb⟩
    have HS4 := Lib.hid (show VaA w p A c l A2 c2 h w4 ∧ RL w4 r zL from ⟨HS.out.1.below hb, HS.out.2.below hb HS.out.2.lt⟩)
    clear hb
    obtain ⟨r0, r1, r2, r3, r4, r5, r6, r7, g0, g1, g2, g3, g4, g5, g6, g7, rl⟩ := HS4.out.2
    go_wp2
    exact bodyPost_ret (v := .tuple #[.agg #[.int .i64 0, .int .i64 0, .int .i64 0, .int .i64 0, .int .i64 0, .int .i64 0, .string ⟨#[]⟩, .int .i64 0], .bool false]) (by simp only [results, Tryz.results80]; go_simp <;> rfl) rfl ⟨by rw [HXO.out.1, HXO.out.2]; rfl, sets_below HPR.out.2 zL.l 0 _ HS4.out.1.bel⟩
end Go.Proofs.YtnldgfhkdllinaaGreat
namespace Go.Proofs.YtnldgfhkdllinaaGreat
open Go.RowKit
set_option linter.unusedVariables false

theorem rpurged_any (M : Msg) (k : Int) (w : World) : Calls Tryz.prog 96 #[M.v, .int .i64 k] w fun e w' => e = .returned (.bool (puF M k)) ∧ Below w.heap.size w w' := by
  have HB := Lib.hid ((Below.refl w.heap.size w).alloc (Nat.le_refl _) (.cells M.cs 44))
  by_cases h : M.ep < k
  · have HF := Lib.hid (show puF M k = true from decide_eq_true h)
    go_enter Tryz.func96, Tryz.ntmps96
    go_wp2
    go_ret
    exact ⟨by rw [HF.out]; rfl, HB.out⟩
  · have HF := Lib.hid (show puF M k = false from decide_eq_false h)
    go_enter Tryz.func96, Tryz.ntmps96
    go_wp2
    go_ret
    exact ⟨by rw [HF.out]; rfl, HB.out⟩
end Go.Proofs.YtnldgfhkdllinaaGreat
