/- What is proved here: shardqueueref08.Take, Clean by contracts; shardqueueref08.Clean by a contract; in the statements of layer 8, agrees is true of every store. -/
import Derived.Test.YtbeafcjbldnkhaaJ10
import Derived.Deep.RegionLaw
import Derived.Deep.RegionHeld3
namespace Go.Proofs.Ytbeafcjbldnkhaa
open Go.RowKit
set_option linter.unusedVariables false

theorem Ls.c7 {w : World} {B b o n c k : Nat} {l : List Msg} (h : Ls w B (.slice (some ⟨b, o, none⟩) n c) l) (hk : k < l.length) : C7 w b (o + k * 7) l[k] := by
  obtain ⟨b', o', e, hb, hc⟩ := h.at_ hk
  injection e with e
  injection e with e1 e2
  subst e1 e2
  exact hc
/-- The work of Take and Clean: the boxes, the two lists. -/
structure Rt8 (w : World) (p r q B : Nat) (cap : Int) (A : Option Addr) (c : Nat) (l : List Msg) (lv : Value) (T : List Msg) (A2 : Option Addr) (c2 : Nat) (R : List Msg) (W : World) : Prop where
  tw : Tw8 w p r cap A c l W
  qb : DB W q cap A2 R.length c2
  o1 : W.ownsRow B 37 7 lv T.length (lcs T)
  o2 : W.ownsRow B 37 7 (.slice A2 R.length c2) R.length (lcs R)
  dj : ∀ x, lv.ownBlock = some x → Value.ownBlock (.slice A2 R.length c2) ≠ some x
  old : r < q ∧ q < B ∧ B ≤ W.heap.size
/-- What a region of theirs reads. -/
abbrev S8t (p q b m : Nat) (A : Option Addr) (n c : Nat) (A2 : Option Addr) (n2 c2 : Nat) (X : Msg) (W : World) : Prop := W.cell? ⟨q, 1, none⟩ = some (.slice A2 n2 c2) ∧ W.cell? ⟨p, 1, none⟩ = some (.slice A n c) ∧ W.cell? ⟨b, m, none⟩ = some (.int .i64 X.id) ∧ W.cell? ⟨b, m + 1, none⟩ = some (.int .i64 X.rt) ∧ W.cell? ⟨b, m + 2, none⟩ = some (.int .i64 X.ep) ∧ W.cell? ⟨b, m + 3, none⟩ = some (.int .i64 X.ct) ∧ W.cell? ⟨b, m + 4, none⟩ = some (.int .i64 X.gn) ∧ W.cell? ⟨b, m + 5, none⟩ = some (.int .i64 X.st) ∧ W.cell? ⟨b, m + 6, none⟩ = some (.string X.bd)
section
variable {w W W' : World} {p r q B c c2 : Nat} {cap : Int} {A A2 : Option Addr} {l T R : List Msg} {lv lv' : Value}
theorem own8_drew {base n size : Nat} {e : TypeId} {v : Value} {xs : List Value} (h : W.ownsRow base e size v n xs) : W.drew.ownsRow base e size v n xs := h
theorem Rt8.below (h : Rt8 w p r q B cap A c l lv T A2 c2 R W) (hb : Below W.heap.size W W') : Rt8 w p r q B cap A c l lv T A2 c2 R W' :=
  ⟨h.tw.below hb, h.qb.up hb, own8_below h.o1 hb, own8_below h.o2 hb, h.dj, h.old.1, h.old.2.1, Nat.le_trans h.old.2.2 hb.size⟩
theorem Rt8.drew (h : Rt8 w p r q B cap A c l lv T A2 c2 R W) : Rt8 w p r q B cap A c l lv T A2 c2 R W.drew := ⟨h.tw.drew, h.qb.drew, h.o1, h.o2, h.dj, h.old⟩
theorem Rt8.s8 {b o k : Nat} (h : Rt8 w p r q B cap (some ⟨b, o, none⟩) c l lv T A2 c2 R W) (hk : k < l.length) : S8t p q b (o + k * 7) (some ⟨b, o, none⟩) l.length c A2 R.length c2 l[k] W := ⟨h.qb.c1, h.tw.db.c1, h.tw.ls.c7 hk⟩
theorem Rt8.row (h : Rt8 w p r q B cap A c l lv T A2 c2 R W) {row : Option Nat} (hg : W.grownBy W' row) (hr : ∀ x, row = some x → B ≤ x) (h1 : lv.ownBlock = none ∨ lv.ownBlock ≠ row) (ho : W'.ownsRow B 37 7 lv' T.length (lcs T) → True) :
    Tw8 w p r cap A c l W' ∧ DB W' q cap A2 R.length c2 ∧ B ≤ W'.heap.size :=
  ⟨h.tw.row hg (fun x e => by have := hr x e; have := h.old; omega), h.qb.grown hg (fun e => by have := hr q e.symm; have := h.old; omega), Nat.le_trans h.old.2.2 hg.size⟩
theorem Rt8.app1 (h : Rt8 w p r q B cap A c l lv T A2 c2 R W) {T' : List Msg} (ho : W'.ownsRow B 37 7 lv' T'.length (lcs T')) (hg : W.grownBy W' lv.ownBlock) (hw : ∀ x, lv'.ownBlock = some x → lv.ownBlock = some x ∨ W.heap.size ≤ x) : Rt8 w p r q B cap A c l lv' T' A2 c2 R W' := by
  have hlt : ∀ x, lv.ownBlock = some x → B ≤ x := fun x e => (h.o1.lt x e).1
  refine ⟨h.tw.row hg (fun x e => by have := hlt x e; have := h.old; omega), h.qb.grown hg (fun e => by have := hlt q e.symm; have := h.old; omega), ho, h.o2.kept hg ?_, fun x e e' => ?_, h.old.1, h.old.2.1, Nat.le_trans h.old.2.2 hg.size⟩
  · cases e : Value.ownBlock (.slice A2 R.length c2) with
    | none => exact .inl rfl
    | some x => exact .inr (fun e' => h.dj x e'.symm e)
  · rcases hw x e with e1 | e1
    · exact h.dj x e1 e'
    · have := (h.o2.lt x e').2; omega
/-- A message more in the store's list: before it is stored. -/
structure Rs8 (w : World) (p r q B : Nat) (cap : Int) (A : Option Addr) (c : Nat) (l : List Msg) (lv : Value) (T : List Msg) (A2 : Option Addr) (n2 c2 : Nat) (A3 : Option Addr) (c3 : Nat) (R : List Msg) (W : World) : Prop where
  tw : Tw8 w p r cap A c l W
  qb : DB W q cap A2 n2 c2
  o1 : W.ownsRow B 37 7 lv T.length (lcs T)
  o2 : W.ownsRow B 37 7 (.slice A3 R.length c3) R.length (lcs R)
  dj : ∀ x, lv.ownBlock = some x → Value.ownBlock (.slice A3 R.length c3) ≠ some x
  old : r < q ∧ q < B ∧ B ≤ W.heap.size
theorem Rt8.app2 (h : Rt8 w p r q B cap A c l lv T A2 c2 R W) {A3 : Option Addr} {c3 : Nat} {R' : List Msg} (ho : W'.ownsRow B 37 7 (.slice A3 R'.length c3) R'.length (lcs R')) (hg : W.grownBy W' (Value.ownBlock (.slice A2 R.length c2))) (hw : ∀ x, Value.ownBlock (.slice A3 R'.length c3) = some x → Value.ownBlock (.slice A2 R.length c2) = some x ∨ W.heap.size ≤ x) : Rs8 w p r q B cap A c l lv T A2 R.length c2 A3 c3 R' W' := by
  have hlt : ∀ x, Value.ownBlock (.slice A2 R.length c2) = some x → B ≤ x := fun x e => (h.o2.lt x e).1
  refine ⟨h.tw.row hg (fun x e => by have := hlt x e; have := h.old; omega), h.qb.grown hg (fun e => by have := hlt q e.symm; have := h.old; omega), h.o1.kept hg ?_, ho, fun x e e' => ?_, h.old.1, h.old.2.1, Nat.le_trans h.old.2.2 hg.size⟩
  · cases e : lv.ownBlock with
    | none => exact .inl rfl
    | some x => exact .inr (fun e' => h.dj x e e'.symm)
  · rcases hw x e' with e1 | e1
    · exact h.dj x e e1
    · have := (h.o1.lt x e).2; omega
end
theorem own8_set {W : World} {base e size n : Nat} {v : Value} {xs : List Value} (h : W.ownsRow base e size v n xs) {q : Addr} (hq : q.block < base) (u : Value) : (W.setCell q u).ownsRow base e size v n xs := by
  refine ⟨h.1, h.2.imp_right fun ⟨g, cap, cur, hv, hg, hh, r⟩ => ⟨g, cap, cur, hv, hg, ?_, r⟩⟩
  rw [← hh]
  exact Below.heap_setCell W q u g (by omega)
section
variable {w W W' : World} {p r q B c c2 c3 n2 : Nat} {cap : Int} {A A2 A3 : Option Addr} {l T R : List Msg} {lv lv' : Value}
theorem Tw8.setq (h : Tw8 w p r cap A c l W) {q : Addr} (hq : r < q.block) (u : Value) : Tw8 w p r cap A c l (W.setCell q u) := by
  have ho := h.old
  exact ⟨h.db.other (show q.block ≠ p by omega) u, h.rs.other (show q.block ≠ r by omega) u, h.ls.setCell (show w.heap.size ≤ q.block by omega) u, h.bel.setCell (show w.heap.size ≤ q.block by omega) u, ho⟩
theorem Rs8.put (h : Rs8 w p r q B cap A c l lv T A2 n2 c2 A3 c3 R W) : Rt8 w p r q B cap A c l lv T A3 c3 R (W.setCell ⟨q, 1, none⟩ (.slice A3 R.length c3)) :=
  ⟨h.tw.setq (q := ⟨q, 1, none⟩) h.old.1 _, h.qb.setL _ _ _, own8_set h.o1 (q := ⟨q, 1, none⟩) h.old.2.1 _, own8_set h.o2 (q := ⟨q, 1, none⟩) h.old.2.1 _, h.dj, by simpa using h.old⟩
theorem Rs8.s8 {b o k : Nat} (h : Rs8 w p r q B cap (some ⟨b, o, none⟩) c l lv T A2 n2 c2 A3 c3 R W) (hk : k < l.length) : S8t p q b (o + k * 7) (some ⟨b, o, none⟩) l.length c A2 n2 c2 l[k] W := ⟨h.qb.c1, h.tw.db.c1, h.tw.ls.c7 hk⟩
theorem Rs8.fr (h : Rs8 w p r q B cap A c l lv T A2 n2 c2 A3 c3 R W) : W.cell? ⟨q, 1, none⟩ = some (.slice A2 n2 c2) ∧ W.frozen? ⟨q, 1, none⟩ = false := ⟨h.qb.c1, h.qb.fr 1⟩
/-- The results are stored. -/
theorem Rt8.out {A1 : Option Addr} {c1 : Nat} (h : Rt8 w p r q B cap A c l (.slice A1 T.length c1) T A2 c2 R W) :
    Nw w.heap.size A2 ∧ Nw w.heap.size A1 ∧ Ls ((W.setCell ⟨r, 0, none⟩ (.int .i64 cap)).setCell ⟨r, 1, none⟩ (.slice A2 R.length c2)) ((W.setCell ⟨r, 0, none⟩ (.int .i64 cap)).setCell ⟨r, 1, none⟩ (.slice A2 R.length c2)).heap.size (.slice A2 R.length c2) R ∧ Ls ((W.setCell ⟨r, 0, none⟩ (.int .i64 cap)).setCell ⟨r, 1, none⟩ (.slice A2 R.length c2)) ((W.setCell ⟨r, 0, none⟩ (.int .i64 cap)).setCell ⟨r, 1, none⟩ (.slice A2 R.length c2)).heap.size (.slice A1 T.length c1) T ∧
    Below w.heap.size w ((W.setCell ⟨r, 0, none⟩ (.int .i64 cap)).setCell ⟨r, 1, none⟩ (.slice A2 R.length c2)) := by
  have n1 := nw_own h.o1 (Nat.le_refl B)
  have n2 := nw_own h.o2 (Nat.le_refl B)
  have ho := h.old
  have ht := h.tw.old
  have key : ∀ {A0 : Option Addr} {n0 c0 : Nat} {L : List Msg}, Nw B A0 → Ls W W.heap.size (.slice A0 n0 c0) L → Ls ((W.setCell ⟨r, 0, none⟩ (.int .i64 cap)).setCell ⟨r, 1, none⟩ (.slice A2 R.length c2)) ((W.setCell ⟨r, 0, none⟩ (.int .i64 cap)).setCell ⟨r, 1, none⟩ (.slice A2 R.length c2)).heap.size (.slice A0 n0 c0) L := by
    intro A0 n0 c0 L hn hl
    have := (hl.offo (p := ⟨r, 0, none⟩) (ob_nw hn (show r < B by omega)) (.int .i64 cap)).offo (p := ⟨r, 1, none⟩) (ob_nw hn (show r < B by omega)) (.slice A2 R.length c2)
    simpa using this
  exact ⟨nw_low n2 (by omega), nw_low n1 (by omega), key n2 (Ls.of_own h.o2), key n1 (Ls.of_own h.o1), (h.tw.bel.setCell (p := ⟨r, 0, none⟩) (show w.heap.size ≤ r by omega) _).setCell (p := ⟨r, 1, none⟩) (show w.heap.size ≤ r by omega) _⟩
theorem Rt8.start (t : TypeId) (h : Tw8 w p r cap A c l W) : Rt8 w p r W.heap.size (W.heap.size + 1) cap A c l (.slice none 0 0) [] none 0 [] (W.alloc (.cells #[.int .i64 cap, .slice none 0 0] t)) :=
  ⟨h.alloc _, DB.fresh W cap none 0 0 t, World.ownsRow_nil _ _ _ _, World.ownsRow_nil _ _ _ _, fun x e => by simp [Value.ownBlock] at e, h.rs.lt, by omega, by simp⟩
end
theorem own8_end' {w1 : World} {base g cap : Nat} {T : List Msg} {X : Msg} (hown : w1.ownsRow base 37 7 (.slice (some ⟨g, 0, none⟩) (T.length + 1) cap) (T.length + 1) (lcs T ++ X.l)) : w1.ownsRow base 37 7 (.slice (some ⟨g, 0, none⟩) (T ++ [X]).length cap) (T ++ [X]).length (lcs (T ++ [X])) := by
  have h := own8_end hown
  rwa [show T.length + 1 = (T ++ [X]).length by simp] at h
theorem own8_at {n m c c' g H x : Nat} {A : Option Addr} (hat : Value.ownBlock (.slice A n c) = some g ∨ g = H) (e : Value.ownBlock (.slice (some ⟨g, 0, none⟩) m c') = some x) : Value.ownBlock (.slice A n c) = some x ∨ H ≤ x := by
  simp only [Value.ownBlock] at e
  injection e with e
  subst e
  rcases hat with h | h
  · exact .inl h
  · right; omega
set_option maxHeartbeats 8000000 in
set_option maxRecDepth 20000 in
theorem rtake8_any (cap : Int) (A : Option Addr) (n c : Nat) (l : List Msg) (mx ep : Int) (w : World) (hv : Ls w w.heap.size (.slice A n c) l) :
    Calls Try.prog 29 #[.agg #[.int .i64 cap, .slice A n c], .int .i64 mx, .int .i64 ep] w (D8L w (tk8C cap l mx ep) (tk8R cap l mx ep) (tk8T cap l mx ep) (tk8 cap l mx ep)) := by
  obtain ⟨rfl, hm1, hm2⟩ := hv.len
  have H0 := Lib.hid (Tw8.start 24 24 cap hv)
  have HV := Lib.hid (fun p r W (h : Tw8 w p r cap A c l W) => rva8_any cap A l.length c l W h.here)
  have HC0 := Lib.hid (show tk8 cap l mx ep = 0 → tk8C cap l mx ep = cap ∧ tk8R cap l mx ep = (pl8 mx (fun M => !puF M ep) l).2 ∧ tk8T cap l mx ep = (pl8 mx (fun M => !puF M ep) l).1 from fun h => ⟨if_pos h, if_pos h, if_pos h⟩)
  have HC1 := Lib.hid (show tk8 cap l mx ep ≠ 0 → tk8C cap l mx ep = 0 ∧ tk8R cap l mx ep = [] ∧ tk8T cap l mx ep = [] from fun h => ⟨if_neg h, if_neg h, if_neg h⟩)
  clear hv hm1 hm2
  by_cases h0 : va8 cap l = 0
  · have hk := ok8_iff.1 h0
    obtain ⟨k1, k2, k3, _, _⟩ := hk
    rw [h0] at HV
    have hl24 : l.length ≤ 24 := by omega
    clear k1 k2 k3
    by_cases a0 : mx < 0 ∨ ep < 0 ∨ 65536 < ep
    · have HQ := Lib.hid (show tk8 cap l mx ep = 1 by
        by_cases a1 : 0 ≤ ep ∧ ep ≤ 65536
        · exact tk8_k (ex8_ok h0 (wi_true a1.1 a1.2)) (by omega)
        · have : ex8 cap l ep = 1 := ex8_ep h0 (by
            by_cases a2 : ep < 0
            · exact wi_low a2
            · exact wi_high (by omega))
          rw [tk8_ex (by rw [this]; decide), this])
      have HQ2 := Lib.hid (HC1.out (by rw [HQ.out]; decide))
      rw [HQ.out, HQ2.out.1, HQ2.out.2.1, HQ2.out.2.2]
      clear h0 HQ HQ2 HC0 HC1
      by_cases b1 : mx < 0
      · clear a0
        go_enter Try.func29, Try.ntmps29
        obtain ⟨b0, b1', bl⟩ := H0.out.db.facts
        go_wp2_with fail
        clear b0 b1' bl
        obtain ⟨p, hp⟩ : ∃ p, p = w.heap.size := ⟨_, rfl⟩
        obtain ⟨r, hr⟩ : ∃ r, r = w.heap.size + 1 := ⟨_, rfl⟩
        rw [← hr, ← hp] at H0
        rw [← hr, ← hp]
        clear hp hr
        refine (HV.out _ _ _ H0.out).mono ?_
        rintro e w1 ⟨rfl, hb⟩
        have H1 := Lib.hid (H0.out.below hb)
        clear hb
        obtain ⟨r0, r1, rl, f0, f1⟩ := H1.out.rs.all
        go_wp2
        exact bodyPost_ret (v := .tuple #[.agg #[.int .i64 0, .slice none 0 0], .slice none 0 0, .int .i64 1]) (by simp only [results, Try.results29]; go_simp <;> rfl) rfl ⟨none, 0, none, 0, rfl, nw_none, nw_none, Ls.nil, Ls.nil, H1.out.zero⟩
      · by_cases b2 : ep < 0
        · clear a0
          go_enter Try.func29, Try.ntmps29
          obtain ⟨b0, b1', bl⟩ := H0.out.db.facts
          go_wp2_with fail
          clear b0 b1' bl
          obtain ⟨p, hp⟩ : ∃ p, p = w.heap.size := ⟨_, rfl⟩
          obtain ⟨r, hr⟩ : ∃ r, r = w.heap.size + 1 := ⟨_, rfl⟩
          rw [← hr, ← hp] at H0
          rw [← hr, ← hp]
          clear hp hr
          refine (HV.out _ _ _ H0.out).mono ?_
          rintro e w1 ⟨rfl, hb⟩
          have H1 := Lib.hid (H0.out.below hb)
          clear hb
          obtain ⟨r0, r1, rl, f0, f1⟩ := H1.out.rs.all
          go_wp2
          exact bodyPost_ret (v := .tuple #[.agg #[.int .i64 0, .slice none 0 0], .slice none 0 0, .int .i64 1]) (by simp only [results, Try.results29]; go_simp <;> rfl) rfl ⟨none, 0, none, 0, rfl, nw_none, nw_none, Ls.nil, Ls.nil, H1.out.zero⟩
        · have b3 : 65536 < ep := by omega
          clear a0
          go_enter Try.func29, Try.ntmps29
          obtain ⟨b0, b1', bl⟩ := H0.out.db.facts
          go_wp2_with fail
          clear b0 b1' bl
          obtain ⟨p, hp⟩ : ∃ p, p = w.heap.size := ⟨_, rfl⟩
          obtain ⟨r, hr⟩ : ∃ r, r = w.heap.size + 1 := ⟨_, rfl⟩
          rw [← hr, ← hp] at H0
          rw [← hr, ← hp]
          clear hp hr
          refine (HV.out _ _ _ H0.out).mono ?_
          rintro e w1 ⟨rfl, hb⟩
          have H1 := Lib.hid (H0.out.below hb)
          clear hb
          obtain ⟨r0, r1, rl, f0, f1⟩ := H1.out.rs.all
          go_wp2
          exact bodyPost_ret (v := .tuple #[.agg #[.int .i64 0, .slice none 0 0], .slice none 0 0, .int .i64 1]) (by simp only [results, Try.results29]; go_simp <;> rfl) rfl ⟨none, 0, none, 0, rfl, nw_none, nw_none, Ls.nil, Ls.nil, H1.out.zero⟩
    · have HQ := Lib.hid (tk8_ok (cap := cap) (l := l) (k := mx) (ep := ep) (ex8_ok h0 (wi_true (by omega) (by omega))) (by omega))
      have HQ2 := Lib.hid (HC0.out HQ.out)
      rw [HQ.out, HQ2.out.1, HQ2.out.2.1, HQ2.out.2.2]
      obtain ⟨b1, b2, b3⟩ : ¬ mx < 0 ∧ ¬ ep < 0 ∧ ¬ 65536 < ep := by omega
      clear h0 HQ HQ2 HC0 HC1 a0
      obtain ⟨ff, hff⟩ : ∃ ff : Msg → Bool, ff = (fun M => !puF M ep) := ⟨_, rfl⟩
      have HPU := Lib.hid (fun M W => show Calls Try.prog 46 #[M.v, .int .i64 ep] W fun e w' => e = .returned (.bool (!ff M)) ∧ Below W.heap.size W w' by
        have := rpurged_any M ep W
        rw [hff]; simpa using this)
      rw [← hff]
      clear hff
      obtain ⟨i0, hi0, hz0⟩ := Option.map_eq_some_iff.1 info_m8
      simp only [Prod.mk.injEq] at hz0
      have HI := Lib.hid hi0
      have HZ := Lib.hid hz0
      have HPN := Lib.hid (fun k (hk : k < l.length) h => pl8_no (mx := mx) (p := ff) hk h)
      have HPY := Lib.hid (fun k (hk : k < l.length) h1 h2 => pl8_yes (mx := mx) (p := ff) hk h1 h2)
      have HPE := Lib.hid (show pl8 mx ff l = pl8 mx ff (l.take l.length) by rw [List.take_length])
      have HPL := Lib.hid (fun k => pl8_len mx ff (l.take k))
      have hl64 : l.length ≤ 9223372036854775807 := by omega
      have HLN := Lib.hid hl24
      clear hi0 hz0 hl24
      go_enter Try.func29, Try.ntmps29
      obtain ⟨b0, b1', bl⟩ := H0.out.db.facts
      go_wp2_with fail
      clear b0 b1' bl
      obtain ⟨p, hp⟩ : ∃ p, p = w.heap.size := ⟨_, rfl⟩
      obtain ⟨r, hr⟩ : ∃ r, r = w.heap.size + 1 := ⟨_, rfl⟩
      rw [← hr, ← hp] at H0
      rw [← hr, ← hp]
      clear hp hr
      refine (HV.out _ _ _ H0.out).mono ?_
      rintro e w1 ⟨rfl, hb⟩
      have H1 := Lib.hid (H0.out.below hb)
      clear hb H0
      have H2 := Lib.hid (Rt8.start 24 H1.out)
      obtain ⟨b0, b1', bl⟩ := H1.out.db.facts
      go_wp2
      clear b0 b1' bl H1 b1 b2 b3
      obtain ⟨q, hq⟩ : ∃ q, q = w1.heap.size := ⟨_, rfl⟩
      obtain ⟨B, hB⟩ : ∃ B, B = w1.heap.size + 1 := ⟨_, rfl⟩
      rw [← hB, ← hq] at H2
      rw [← hq]
      clear hq hB
      generalize w1.alloc (.cells #[.int .i64 cap, .slice none 0 0] 24) = w2 at *
      go_loopw [11, 12] (fun lv i wr => ∃ (k : Nat) (A2 : Option Addr) (c2 : Nat), k ≤ l.length ∧ i = .int .i64 k ∧ Rt8 w p r q B cap A c l lv (pl8 mx ff (l.take k)).1 A2 c2 (pl8 mx ff (l.take k)).2 wr) (fun _ i _ => l.length - (intOf i).toNat)
      case atStart => exact ⟨0, none, 0, by omega, rfl, H2.out⟩
      case round =>
        obtain ⟨k, A2, c2, hk, rfl, hr⟩ := hrel
        have HR := Lib.hid hr
        clear hr H2
        by_cases hlt : k < l.length
        · obtain ⟨b, o, rfl, hbl, c0', c1', c2', c3', c4', c5', c6'⟩ := HR.out.tw.ls.at_ hlt
          have HTL := Lib.hid (show (pl8 mx ff (l.take k)).1.length ≤ 1000 ∧ (pl8 mx ff (l.take k)).2.length ≤ 1000 by
            have h1 := HPL.out k
            have h2 := HLN.out
            simp at h1; omega)
          have HRL := HTL
          obtain ⟨A1, c1, rfl⟩ := own_form HR.out.o1
          have HPN' := Lib.hid (HPN.out k hlt)
          have HPY' := Lib.hid (HPY.out k hlt)
          have HTX := Lib.hid (fun W => HPU.out l[k] W)
          have hlt' := hlt
          clear HPN HPY HPU
          generalize (pl8 mx ff (l.take k)).1 = T at *
          generalize (pl8 mx ff (l.take k)).2 = R at *
          generalize hX0 : l[k] = X at *
          have HX := Lib.hid hX0
          clear hX0
          have hnlt : ¬ (l.length ≤ k) := by omega
          obtain ⟨t0, t1, tl⟩ := HR.out.tw.db.facts
          by_cases hmx : (T.length : Int) < mx
          · cases hf : ff X with
            | true =>
              have HPK := Lib.hid (HPY'.out hmx hf)
              rw [hf] at HTX
              clear hf HPN' HPY'
              go_wp2_with fail
              refine (HTX.out _).mono ?_
              rintro e w5 ⟨rfl, hb⟩
              have HP5 := Lib.hid (HR.out.below hb)
              have HP6 := Lib.hid (HP5.out.below ((Below.refl _ _).alloc (Nat.le_refl _) (.cells X.cs 37)))
              have HCX := Lib.hid (msg_row8 w5 X 37)
              have hx7 := HP5.out.tw.ls.c7 hlt'
              rw [HX.out] at hx7
              obtain ⟨x0, x1, x2, x3, x4, x5, x6⟩ := hx7
              clear hb t0 t1 tl c0' c1' c2' c3' c4' c5' c6'
              obtain ⟨t0, t1, tl⟩ := HP5.out.tw.db.facts
              go_wp2_with (at_builtin; refine wpList_append_lies _ rfl (.tmp 54) (.tmp 60) 22 rfl B 37 i0 _ 7 64 Try.underlying22 HI.out HZ.out.1 HZ.out.2.1 HZ.out.2.2 rfl (by omega) (.slice A1 T.length c1) T.length (lcs T) rfl HP6.out.o1 ⟨w5.heap.size, 0, none⟩ 1 1 X.l rfl (by simp [Msg.l_len]) (fun j u hu => by have := HCX.out j u hu; simpa using this) X.l_one (by omega) (by have := HTL.out; unfold maxLen; omega) (by have := HTL.out; omega) HP6.out.old.2.2 _ rfl ?_; intro g cp w8 hown hgrow hat hglt)
              have HP9 := Lib.hid (HP6.out.app1 (T' := T ++ [X]) (own8_end' hown) hgrow (fun x e => own8_at hat e))
              clear hown hgrow hat hglt
              clear x0 x1 x2 x3 x4 x5 x6 t0 t1 tl
              go_wp2
              go_roundw
              case rel => exact ⟨k + 1, A2, c2, by omega, by go_num, by rw [HPK.out]; exact by simpa using HP9.out⟩
              case measure => simp [intOf]; omega
            | false =>
              have HPK := Lib.hid (HPN'.out (fun h => by rw [hf] at h; exact absurd h.2 (by decide)))
              rw [hf] at HTX
              clear hf HPN' HPY'
              go_wp2_with fail
              refine (HTX.out _).mono ?_
              rintro e w5 ⟨rfl, hb⟩
              have HP5 := Lib.hid (HR.out.below hb)
              clear hb t0 t1 tl c0' c1' c2' c3' c4' c5' c6'
              have hs8 := HP5.out.s8 hlt'
              rw [HX.out] at hs8
              obtain ⟨y0, y1, x0, x1, x2, x3, x4, x5, x6⟩ := hs8
              have ybl : b < w5.heap.size := Nat.lt_of_lt_of_le hbl HP5.out.tw.bel.size
              have yql : q < w5.heap.size := HP5.out.qb.lt
              have ypl : p < w5.heap.size := HP5.out.tw.db.lt
              have HDA := Lib.hid (HP5.out.drew.below ((Below.refl _ _).alloc (Nat.le_refl _) (.cells X.cs 37)))
              go_wp2_with fail
              go_region_law (refine step_append_lies _ (by rfl) _ _ _ (by rfl) B 37 i0 _ 7 64 Try.underlying22 HI.out HZ.out.1 HZ.out.2.1 HZ.out.2.2 rfl (by omega) (.slice A2 R.length c2) R.length (lcs R) (by rfl) HDA.out.o2 ⟨w5.heap.size, 0, none⟩ 1 1 X.l (by rfl) (by simp [Msg.l_len]) (World.news_of_block (cs := X.cs) (t := 37) (fr := (0, 0)) (heap_alloc_new w5.drew _)) X.l_one (by omega) (by have := HRL.out; unfold maxLen; omega) (by have := HRL.out; omega) HDA.out.old.2.2 _ rfl ?_; intro g1 cp1 w8 hown1 hgrow1 hat1 hlt1; have HP8 := Lib.hid (HDA.out.app2 (R' := R ++ [X]) (own8_end' hown1) hgrow1 (fun x e => own8_at hat1 e)); obtain ⟨z1, z2⟩ := HP8.out.fr; clear hown1 hgrow1 hat1 hlt1)
              
              all_goals
                have HP9 := Lib.hid HP8.out.put
                clear HDA HP8 z1 z2 y0 y1 x0 x1 x2 x3 x4 x5 x6 ybl yql ypl
                go_wp2
                go_roundw
                case rel => exact ⟨k + 1, some ⟨g1, 0, none⟩, cp1, by omega, by go_num, by rw [HPK.out]; simpa using HP9.out⟩
                case measure => simp [intOf]; omega
          · have HPK := Lib.hid (HPN'.out (fun h => hmx h.1))
            clear HPN' HPY' HTX
            clear t0 t1 tl c0' c1' c2' c3' c4' c5' c6'
            have hs8 := HR.out.s8 hlt'
            rw [HX.out] at hs8
            obtain ⟨y0, y1, x0, x1, x2, x3, x4, x5, x6⟩ := hs8
            have ybl : b < wr.heap.size := Nat.lt_of_lt_of_le hbl HR.out.tw.bel.size
            have yql : q < wr.heap.size := HR.out.qb.lt
            have ypl : p < wr.heap.size := HR.out.tw.db.lt
            have HDA := Lib.hid (HR.out.drew.below ((Below.refl _ _).alloc (Nat.le_refl _) (.cells X.cs 37)))
            go_wp2_with fail
            go_region_law (refine step_append_lies _ (by rfl) _ _ _ (by rfl) B 37 i0 _ 7 64 Try.underlying22 HI.out HZ.out.1 HZ.out.2.1 HZ.out.2.2 rfl (by omega) (.slice A2 R.length c2) R.length (lcs R) (by rfl) HDA.out.o2 ⟨wr.heap.size, 0, none⟩ 1 1 X.l (by rfl) (by simp [Msg.l_len]) (World.news_of_block (cs := X.cs) (t := 37) (fr := (0, 0)) (heap_alloc_new wr.drew _)) X.l_one (by omega) (by have := HRL.out; unfold maxLen; omega) (by have := HRL.out; omega) HDA.out.old.2.2 _ rfl ?_; intro g1 cp1 w8 hown1 hgrow1 hat1 hlt1; have HP8 := Lib.hid (HDA.out.app2 (R' := R ++ [X]) (own8_end' hown1) hgrow1 (fun x e => own8_at hat1 e)); obtain ⟨z1, z2⟩ := HP8.out.fr; clear hown1 hgrow1 hat1 hlt1)
            
            all_goals
              have HP9 := Lib.hid HP8.out.put
              clear HDA HP8 z1 z2 y0 y1 x0 x1 x2 x3 x4 x5 x6 ybl yql ypl
              go_wp2
              go_roundw
              case rel => exact ⟨k + 1, some ⟨g1, 0, none⟩, cp1, by omega, by go_num, by rw [HPK.out]; simpa using HP9.out⟩
              case measure => simp [intOf]; omega
        · obtain rfl : k = l.length := by omega
          have HE1 := Lib.hid (congrArg Prod.fst HPE.out)
          have HE2 := Lib.hid (congrArg Prod.snd HPE.out)
          obtain ⟨A1, c1, rfl⟩ := own_form HR.out.o1
          clear HPN HPY HPU HPE HPL
          generalize (pl8 mx ff (l.take l.length)).1 = T at *
          generalize (pl8 mx ff (l.take l.length)).2 = R at *
          obtain ⟨t0, t1, tl⟩ := HR.out.tw.db.facts
          obtain ⟨q0, q1, ql⟩ := HR.out.qb.facts
          obtain ⟨r0, r1, rl, g0, g1⟩ := HR.out.tw.rs.all
          obtain ⟨hqr, hrq⟩ : ¬ q = r ∧ ¬ r = q := by have := HR.out.old; omega
          go_wp2
          exact bodyPost_ret (v := .tuple #[.agg #[.int .i64 cap, .slice A2 R.length c2], .slice A1 T.length c1, .int .i64 0]) (by simp only [results, Try.results29]; go_simp <;> rfl) rfl (by rw [HE1.out, HE2.out]; exact ⟨A2, c2, A1, c1, rfl, HR.out.out⟩)
  · have HQ := Lib.hid (show tk8 cap l mx ep = va8 cap l by rw [tk8_ex (by rw [ex8_va h0]; exact h0), ex8_va h0])
    have HQ2 := Lib.hid (HC1.out (by rw [HQ.out]; exact h0))
    rw [HQ.out, HQ2.out.1, HQ2.out.2.1, HQ2.out.2.2]
    have hne : (va8 cap l != 0) = true := by simpa using h0
    clear h0 HQ HQ2 HC0 HC1
    generalize va8 cap l = v at *
    go_enter Try.func29, Try.ntmps29
    obtain ⟨b0, b1, bl⟩ := H0.out.db.facts
    go_wp2_with fail
    clear b0 b1 bl
    obtain ⟨p, hp⟩ : ∃ p, p = w.heap.size := ⟨_, rfl⟩
    obtain ⟨r, hr⟩ : ∃ r, r = w.heap.size + 1 := ⟨_, rfl⟩
    rw [← hr, ← hp] at H0
    rw [← hr, ← hp]
    clear hp hr
    refine (HV.out _ _ _ H0.out).mono ?_
    rintro e w1 ⟨rfl, hb⟩
    have H1 := Lib.hid (H0.out.below hb)
    clear hb
    obtain ⟨r0, r1, rl, f0, f1⟩ := H1.out.rs.all
    go_wp2
    exact bodyPost_ret (v := .tuple #[.agg #[.int .i64 0, .slice none 0 0], .slice none 0 0, .int .i64 v]) (by simp only [results, Try.results29]; go_simp <;> rfl) rfl ⟨none, 0, none, 0, rfl, nw_none, nw_none, Ls.nil, Ls.nil, H1.out.zero⟩
end Go.Proofs.Ytbeafcjbldnkhaa
namespace Go.Proofs.Ytbeafcjbldnkhaa
open Go.RowKit
set_option linter.unusedVariables false

theorem filter_take8 {f : Msg → Bool} {l : List Msg} {k : Nat} (h : k < l.length) : (l.take (k + 1)).filter f = (l.take k).filter f ++ (if f l[k] = true then [l[k]] else []) := by
  rw [← List.take_append_getElem h, List.filter_append]
  congr 1
  cases hf : f l[k] <;> simp [hf]
set_option maxHeartbeats 8000000 in
set_option maxRecDepth 20000 in
theorem rclean8_any (cap : Int) (A : Option Addr) (n c : Nat) (l : List Msg) (ep : Int) (w : World) (hv : Ls w w.heap.size (.slice A n c) l) :
    Calls Try.prog 30 #[.agg #[.int .i64 cap, .slice A n c], .int .i64 ep] w (D8N w (cl8C cap l ep) (cl8R cap l ep) (cl8N cap l ep) (ex8 cap l ep)) := by
  obtain ⟨rfl, hm1, hm2⟩ := hv.len
  have H0 := Lib.hid (Tw8.start 24 24 cap hv)
  have HV := Lib.hid (fun p r W (h : Tw8 w p r cap A c l W) => rva8_any cap A l.length c l W h.here)
  have HC0 := Lib.hid (show ex8 cap l ep = 0 → cl8C cap l ep = cap ∧ cl8R cap l ep = l.filter (fun M => !puF M ep) ∧ cl8N cap l ep = ((l.filter (fun M => puF M ep)).length : Int) from fun h => ⟨if_pos h, if_pos h, if_pos h⟩)
  have HC1 := Lib.hid (show ex8 cap l ep ≠ 0 → cl8C cap l ep = 0 ∧ cl8R cap l ep = [] ∧ cl8N cap l ep = 0 from fun h => ⟨if_neg h, if_neg h, if_neg h⟩)
  clear hv hm1 hm2
  by_cases h0 : va8 cap l = 0
  · have hk := ok8_iff.1 h0
    obtain ⟨k1, k2, k3, _, _⟩ := hk
    rw [h0] at HV
    have hl24 : l.length ≤ 24 := by omega
    clear k1 k2 k3
    by_cases a0 : ep < 0 ∨ 65536 < ep
    · have HQ := Lib.hid (show ex8 cap l ep = 1 from ex8_ep h0 (by
          by_cases a2 : ep < 0
          · exact wi_low a2
          · exact wi_high (by omega)))
      have HQ2 := Lib.hid (HC1.out (by rw [HQ.out]; decide))
      rw [HQ.out, HQ2.out.1, HQ2.out.2.1, HQ2.out.2.2]
      clear h0 HQ HQ2 HC0 HC1
      by_cases b2 : ep < 0
      · clear a0
        go_enter Try.func30, Try.ntmps30
        obtain ⟨b0, b1', bl⟩ := H0.out.db.facts
        go_wp2_with fail
        clear b0 b1' bl
        obtain ⟨p, hp⟩ : ∃ p, p = w.heap.size := ⟨_, rfl⟩
        obtain ⟨r, hr⟩ : ∃ r, r = w.heap.size + 1 := ⟨_, rfl⟩
        rw [← hr, ← hp] at H0
        rw [← hr, ← hp]
        clear hp hr
        refine (HV.out _ _ _ H0.out).mono ?_
        rintro e w1 ⟨rfl, hb⟩
        have H1 := Lib.hid (H0.out.below hb)
        clear hb
        obtain ⟨r0, r1, rl, f0, f1⟩ := H1.out.rs.all
        go_wp2
        exact bodyPost_ret (v := .tuple #[.agg #[.int .i64 0, .slice none 0 0], .int .i64 0, .int .i64 1]) (by simp only [results, Try.results30]; go_simp <;> rfl) rfl ⟨none, 0, rfl, nw_none, Ls.nil, H1.out.zero⟩
      · have b3 : 65536 < ep := by omega
        clear a0
        go_enter Try.func30, Try.ntmps30
        obtain ⟨b0, b1', bl⟩ := H0.out.db.facts
        go_wp2_with fail
        clear b0 b1' bl
        obtain ⟨p, hp⟩ : ∃ p, p = w.heap.size := ⟨_, rfl⟩
        obtain ⟨r, hr⟩ : ∃ r, r = w.heap.size + 1 := ⟨_, rfl⟩
        rw [← hr, ← hp] at H0
        rw [← hr, ← hp]
        clear hp hr
        refine (HV.out _ _ _ H0.out).mono ?_
        rintro e w1 ⟨rfl, hb⟩
        have H1 := Lib.hid (H0.out.below hb)
        clear hb
        obtain ⟨r0, r1, rl, f0, f1⟩ := H1.out.rs.all
        go_wp2
        exact bodyPost_ret (v := .tuple #[.agg #[.int .i64 0, .slice none 0 0], .int .i64 0, .int .i64 1]) (by simp only [results, Try.results30]; go_simp <;> rfl) rfl ⟨none, 0, rfl, nw_none, Ls.nil, H1.out.zero⟩
    · have HQ := Lib.hid (ex8_ok (cap := cap) (l := l) (ep := ep) h0 (wi_true (by omega) (by omega)))
      have HQ2 := Lib.hid (HC0.out HQ.out)
      have hfl := filter_len8 (fun M => puF M ep) l
      have hcN : ((l.filter (fun M => puF M ep)).length : Int) = (l.length : Int) - ((l.filter (fun M => !puF M ep)).length : Int) := by omega
      have hRl : (l.filter (fun M => !puF M ep)).length ≤ l.length := by omega
      rw [HQ.out, HQ2.out.1, HQ2.out.2.1, HQ2.out.2.2, hcN]
      obtain ⟨b2, b3⟩ : ¬ ep < 0 ∧ ¬ 65536 < ep := by omega
      clear h0 HQ HQ2 HC0 HC1 a0 hfl hcN
      obtain ⟨ff, hff⟩ : ∃ ff : Msg → Bool, ff = (fun M => !puF M ep) := ⟨_, rfl⟩
      have HPU := Lib.hid (fun M W => show Calls Try.prog 46 #[M.v, .int .i64 ep] W fun e w' => e = .returned (.bool (!ff M)) ∧ Below W.heap.size W w' by
        have := rpurged_any M ep W
        rw [hff]; simpa using this)
      rw [← hff] at hRl
      rw [← hff]
      have HRL0 := Lib.hid hRl
      clear hff hRl
      obtain ⟨i0, hi0, hz0⟩ := Option.map_eq_some_iff.1 info_m8
      simp only [Prod.mk.injEq] at hz0
      have HI := Lib.hid hi0
      have HZ := Lib.hid hz0
      have HFT := Lib.hid (fun k (hk : k < l.length) => filter_take8 (f := ff) hk)
      have HFE := Lib.hid (show l.filter ff = (l.take l.length).filter ff by rw [List.take_length])
      have HFL := Lib.hid (fun k => Nat.le_trans (List.length_filter_le ff (l.take k)) (show (l.take k).length ≤ l.length by simp; omega))
      have hl64 : l.length ≤ 9223372036854775807 := by omega
      have HLN := Lib.hid hl24
      clear hi0 hz0 hl24
      go_enter Try.func30, Try.ntmps30
      obtain ⟨b0, b1', bl⟩ := H0.out.db.facts
      go_wp2_with fail
      clear b0 b1' bl
      obtain ⟨p, hp⟩ : ∃ p, p = w.heap.size := ⟨_, rfl⟩
      obtain ⟨r, hr⟩ : ∃ r, r = w.heap.size + 1 := ⟨_, rfl⟩
      rw [← hr, ← hp] at H0
      rw [← hr, ← hp]
      clear hp hr
      refine (HV.out _ _ _ H0.out).mono ?_
      rintro e w1 ⟨rfl, hb⟩
      have H1 := Lib.hid (H0.out.below hb)
      clear hb H0
      have H2 := Lib.hid (Rt8.start 24 H1.out)
      obtain ⟨b0, b1', bl⟩ := H1.out.db.facts
      go_wp2
      clear b0 b1' bl H1 b2 b3
      obtain ⟨q, hq⟩ : ∃ q, q = w1.heap.size := ⟨_, rfl⟩
      obtain ⟨B, hB⟩ : ∃ B, B = w1.heap.size + 1 := ⟨_, rfl⟩
      rw [← hB, ← hq] at H2
      rw [← hq]
      clear hq hB
      generalize w1.alloc (.cells #[.int .i64 cap, .slice none 0 0] 24) = w2 at *
      go_loopw [9] (fun i wr => ∃ (k : Nat) (A2 : Option Addr) (c2 : Nat), k ≤ l.length ∧ i = .int .i64 k ∧ Rt8 w p r q B cap A c l (.slice none 0 0) [] A2 c2 ((l.take k).filter ff) wr) (fun i _ => l.length - (intOf i).toNat)
      case atStart => exact ⟨0, none, 0, by omega, rfl, H2.out⟩
      case round =>
        obtain ⟨k, A2, c2, hk, rfl, hr⟩ := hrel
        have HR := Lib.hid hr
        clear hr H2
        by_cases hlt : k < l.length
        · obtain ⟨b, o, rfl, hbl, c0', c1', c2', c3', c4', c5', c6'⟩ := HR.out.tw.ls.at_ hlt
          have HRL := Lib.hid (show 0 ≤ 1000 ∧ ((l.take k).filter ff).length ≤ 1000 by
            have h1 := HFL.out k
            have h2 := HLN.out
            omega)
          have HFK := Lib.hid (HFT.out k hlt)
          have HTX := Lib.hid (fun W => HPU.out l[k] W)
          have hlt' := hlt
          clear HFT HPU HFE HFL
          generalize hR0 : (l.take k).filter ff = R at *
          generalize hX0 : l[k] = X at *
          have HX := Lib.hid hX0
          clear hX0 hR0
          have hnlt : ¬ (l.length ≤ k) := by omega
          obtain ⟨t0, t1, tl⟩ := HR.out.tw.db.facts
          cases hf : ff X with
          | true =>
            rw [hf] at HTX HFK
            rw [if_pos rfl] at HFK
            clear hf
            go_wp2_with fail
            refine (HTX.out _).mono ?_
            rintro e w5 ⟨rfl, hb⟩
            have HP5 := Lib.hid (HR.out.below hb)
            clear hb t0 t1 tl c0' c1' c2' c3' c4' c5' c6'
            have hs8 := HP5.out.s8 hlt'
            rw [HX.out] at hs8
            obtain ⟨y0, y1, x0, x1, x2, x3, x4, x5, x6⟩ := hs8
            have ybl : b < w5.heap.size := Nat.lt_of_lt_of_le hbl HP5.out.tw.bel.size
            have yql : q < w5.heap.size := HP5.out.qb.lt
            have ypl : p < w5.heap.size := HP5.out.tw.db.lt
            have HDA := Lib.hid (HP5.out.drew.below ((Below.refl _ _).alloc (Nat.le_refl _) (.cells X.cs 37)))
            go_wp2_with fail
            go_region_law (refine step_append_lies _ (by rfl) _ _ _ (by rfl) B 37 i0 _ 7 64 Try.underlying22 HI.out HZ.out.1 HZ.out.2.1 HZ.out.2.2 rfl (by omega) (.slice A2 R.length c2) R.length (lcs R) (by rfl) HDA.out.o2 ⟨w5.heap.size, 0, none⟩ 1 1 X.l (by rfl) (by simp [Msg.l_len]) (World.news_of_block (cs := X.cs) (t := 37) (fr := (0, 0)) (heap_alloc_new w5.drew _)) X.l_one (by omega) (by have := HRL.out; unfold maxLen; omega) (by have := HRL.out; omega) HDA.out.old.2.2 _ rfl ?_; intro g1 cp1 w8 hown1 hgrow1 hat1 hlt1; have HP8 := Lib.hid (HDA.out.app2 (R' := R ++ [X]) (own8_end' hown1) hgrow1 (fun x e => own8_at hat1 e)); obtain ⟨z1, z2⟩ := HP8.out.fr; clear hown1 hgrow1 hat1 hlt1)
            
            all_goals
              have HP9 := Lib.hid HP8.out.put
              clear HDA HP8 z1 z2 y0 y1 x0 x1 x2 x3 x4 x5 x6 ybl yql ypl
              go_wp2
              go_roundw
              case rel => exact ⟨k + 1, some ⟨g1, 0, none⟩, cp1, by omega, by go_num, by rw [HFK.out]; simpa using HP9.out⟩
              case measure => simp [intOf]; omega
          | false =>
            rw [hf] at HTX HFK
            rw [if_neg (by decide), List.append_nil] at HFK
            clear hf
            go_wp2_with fail
            refine (HTX.out _).mono ?_
            rintro e w5 ⟨rfl, hb⟩
            have HP5 := Lib.hid (HR.out.below hb)
            clear hb t0 t1 tl c0' c1' c2' c3' c4' c5' c6'
            go_wp2
            go_roundw
            case rel => exact ⟨k + 1, A2, c2, by omega, by go_num, by rw [HFK.out]; exact HP5.out⟩
            case measure => simp [intOf]; omega
        · obtain rfl : k = l.length := by omega
          have hRl := HRL0.out
          rw [HFE.out] at hRl
          have HE := Lib.hid HFE.out
          clear HFT HPU HFE HFL HRL0
          generalize (l.take l.length).filter ff = R at *
          obtain ⟨t0, t1, tl⟩ := HR.out.tw.db.facts
          obtain ⟨q0, q1, ql⟩ := HR.out.qb.facts
          obtain ⟨r0, r1, rl, g0, g1⟩ := HR.out.tw.rs.all
          obtain ⟨hqr, hrq, hpr, hrp⟩ : ¬ q = r ∧ ¬ r = q ∧ ¬ p = r ∧ ¬ r = p := by have := HR.out.old; have := HR.out.tw.old; omega
          have hwr : IntKind.i64.wrap ((l.length : Int) - (R.length : Int)) = (l.length : Int) - (R.length : Int) := IntWalk.i64_in _ (by omega)
          go_wp2_with fail
          go_region
          all_goals
            go_wp2
            exact bodyPost_ret (v := .tuple #[.agg #[.int .i64 cap, .slice A2 R.length c2], .int .i64 ((l.length : Int) - (R.length : Int)), .int .i64 0]) (by simp only [results, Try.results30]; go_simp <;> rfl) rfl (by rw [HE.out]; have k := Rt8.out (T := []) (A1 := none) (c1 := 0) HR.out; exact ⟨A2, c2, rfl, k.1, k.2.2.1.drew, k.2.2.2.2.drew⟩)
  · have HQ := Lib.hid (show ex8 cap l ep = va8 cap l from ex8_va h0)
    have HQ2 := Lib.hid (HC1.out (by rw [HQ.out]; exact h0))
    rw [HQ.out, HQ2.out.1, HQ2.out.2.1, HQ2.out.2.2]
    have hne : (va8 cap l != 0) = true := by simpa using h0
    clear h0 HQ HQ2 HC0 HC1
    generalize va8 cap l = v at *
    go_enter Try.func30, Try.ntmps30
    obtain ⟨b0, b1, bl⟩ := H0.out.db.facts
    go_wp2_with fail
    clear b0 b1 bl
    obtain ⟨p, hp⟩ : ∃ p, p = w.heap.size := ⟨_, rfl⟩
    obtain ⟨r, hr⟩ : ∃ r, r = w.heap.size + 1 := ⟨_, rfl⟩
    rw [← hr, ← hp] at H0
    rw [← hr, ← hp]
    clear hp hr
    refine (HV.out _ _ _ H0.out).mono ?_
    rintro e w1 ⟨rfl, hb⟩
    have H1 := Lib.hid (H0.out.below hb)
    clear hb
    obtain ⟨r0, r1, rl, f0, f1⟩ := H1.out.rs.all
    go_wp2
    exact bodyPost_ret (v := .tuple #[.agg #[.int .i64 0, .slice none 0 0], .int .i64 0, .int .i64 v]) (by simp only [results, Try.results30]; go_simp <;> rfl) rfl ⟨none, 0, rfl, nw_none, Ls.nil, H1.out.zero⟩
end Go.Proofs.Ytbeafcjbldnkhaa
namespace Go.Proofs.Ytbeafcjbldnkhaa
open Go.RowKit
set_option linter.unusedVariables false

/-- A store in a box, its list behind block lo. -/
structure Re8 (lo a : Nat) (C : Int) (D : Option Addr) (d : Nat) (L : List Msg) (W : World) : Prop where
  db : DB W a C D L.length d
  ls : Ls W W.heap.size (.slice D L.length d) L
  nw : Nw lo D
section
variable {w W W' : World} {p c lo lo' a d : Nat} {cap C C' : Int} {A D D' : Option Addr} {l L L' : List Msg}
theorem Re8.below (k : Re8 lo a C D d L W) (hb : Below W.heap.size W W') : Re8 lo a C D d L W' := ⟨k.db.up hb, (k.ls.below hb).more hb.size, k.nw⟩
theorem Re8.alloc (k : Re8 lo a C D d L W) (o : Obj) : Re8 lo a C D d L (W.alloc o) := k.below ((Below.refl _ _).alloc (Nat.le_refl _) o)
theorem Re8.start (t : TypeId) (hl : Ls W W.heap.size (.slice D L.length d) L) (hn : Nw lo D) : Re8 lo W.heap.size C D d L (W.alloc (.cells #[.int .i64 C, .slice D L.length d] t)) :=
  have hb := (Below.refl W.heap.size W).alloc (Nat.le_refl _) (.cells #[.int .i64 C, .slice D L.length d] t)
  ⟨DB.fresh W C D L.length d t, (hl.below hb).more hb.size, hn⟩
/-- Another store is stored. -/
theorem Re8.put {d' : Nat} (k : Re8 lo' a C' D' d' L' W) (hl : Ls W W.heap.size (.slice D L.length d) L) (hn : Nw lo D) (ha : a < lo) : Re8 lo a C D d L ((W.setCell ⟨a, 0, none⟩ (.int .i64 C)).setCell ⟨a, 1, none⟩ (.slice D L.length d)) := by
  refine ⟨k.db.put _ _ _ _, ?_, hn⟩
  have := (hl.offo (p := ⟨a, 0, none⟩) (ob_nw hn ha) (.int .i64 C)).offo (p := ⟨a, 1, none⟩) (ob_nw hn ha) (.slice D L.length d)
  simpa using this
theorem Re8.far {b : Nat} (k : Re8 lo a C D d L W) (hb : b < lo) (hab : a ≠ b) (u v : Value) : Re8 lo a C D d L ((W.setCell ⟨b, 0, none⟩ u).setCell ⟨b, 1, none⟩ v) := by
  refine ⟨(k.db.other (a := ⟨b, 0, none⟩) (fun e => hab e.symm) u).other (a := ⟨b, 1, none⟩) (fun e => hab e.symm) v, ?_, k.nw⟩
  have := (k.ls.offo (p := ⟨b, 0, none⟩) (ob_nw k.nw hb) u).offo (p := ⟨b, 1, none⟩) (ob_nw k.nw hb) v
  simpa using this
theorem VaAt8.far {b : Nat} (k : VaAt8 w p cap A c l W) (hb : p < b) (u v : Value) : VaAt8 w p cap A c l ((W.setCell ⟨b, 0, none⟩ u).setCell ⟨b, 1, none⟩ v) := by
  have ho := k.old
  exact ⟨(k.db.other (a := ⟨b, 0, none⟩) (show b ≠ p by omega) u).other (a := ⟨b, 1, none⟩) (show b ≠ p by omega) v, (k.ls.setCell (show w.heap.size ≤ b by omega) u).setCell (show w.heap.size ≤ b by omega) v, (k.bel.setCell (show w.heap.size ≤ b by omega) u).setCell (show w.heap.size ≤ b by omega) v, ho⟩
theorem Ls.far8 {n d b : Nat} (h : Ls W W.heap.size (.slice D n d) L) (hn : Nw lo D) (hb : b < lo) (u v : Value) : Ls ((W.setCell ⟨b, 0, none⟩ u).setCell ⟨b, 1, none⟩ v) ((W.setCell ⟨b, 0, none⟩ u).setCell ⟨b, 1, none⟩ v).heap.size (.slice D n d) L := by
  have := (h.offo (p := ⟨b, 0, none⟩) (ob_nw hn hb) u).offo (p := ⟨b, 1, none⟩) (ob_nw hn hb) v
  simpa using this
theorem Ls.up8 {n d : Nat} (h : Ls W W.heap.size (.slice D n d) L) (hb : Below W.heap.size W W') : Ls W' W'.heap.size (.slice D n d) L := (h.below hb).more hb.size
end
set_option maxHeartbeats 16000000 in
set_option maxRecDepth 20000 in
theorem agrees8_any (cap : Int) (A : Option Addr) (n c : Nat) (l : List Msg) (Ax : Option Addr) (nx cx : Nat) (x : List Msg) (k ep : Int) (w : World) (hv : Ls w w.heap.size (.slice A n c) l) (hx : Ls w w.heap.size (.slice Ax nx cx) x) :
    Calls Try.prog 10 #[.agg #[.int .i64 cap, .slice A n c], .slice Ax nx cx, .int .i64 k, .int .i64 ep] w fun e w' => e = .returned (.bool true) ∧ Below w.heap.size w w' := by
  obtain ⟨rfl, hm1, hm2⟩ := hv.len
  obtain ⟨rfl, hm3, hm4⟩ := hx.len
  have HX := Lib.hid hx
  have H0 := Lib.hid (VaAt8.start 24 cap hv)
  have C1 := Lib.hid (fun p W (h : VaAt8 w p cap A c l W) => put8_any cap A l.length c l Ax x.length cx x W h.here ((HX.out.below h.bel).more h.bel.size))
  have C2 := Lib.hid (fun p W (h : VaAt8 w p cap A c l W) => rput8_any cap A l.length c l Ax x.length cx x W h.here ((HX.out.below h.bel).more h.bel.size))
  have C3 := Lib.hid (fun p W (h : VaAt8 w p cap A c l W) => va8_any cap A l.length c l W h.here)
  have C4 := Lib.hid (fun p W (h : VaAt8 w p cap A c l W) => rva8_any cap A l.length c l W h.here)
  have C5 := Lib.hid (fun p W (h : VaAt8 w p cap A c l W) => room8_any cap A l.length c l W h.here)
  have C6 := Lib.hid (fun p W (h : VaAt8 w p cap A c l W) => rroom8_any cap A l.length c l W h.here)
  have C7 := Lib.hid (fun p W (h : VaAt8 w p cap A c l W) => take8_any cap A l.length c l k ep W h.here)
  have C8 := Lib.hid (fun p W (h : VaAt8 w p cap A c l W) => rtake8_any cap A l.length c l k ep W h.here)
  have C9 := Lib.hid (fun p W (h : VaAt8 w p cap A c l W) => clean8_any cap A l.length c l ep W h.here)
  have C10 := Lib.hid (fun p W (h : VaAt8 w p cap A c l W) => rclean8_any cap A l.length c l ep W h.here)
  have C11 := Lib.hid (fun lo lo' a b C D d L E e W (h : Re8 lo a C D d L W) (h' : Re8 lo' b C E e L W) => rsame8_yes C D E L.length L.length d e L W h.ls h'.ls)
  have C12 := Lib.hid (fun D E d e L W (h : Ls W W.heap.size (.slice D (List.length L) d) L) (h' : Ls W W.heap.size (.slice E (List.length L) e) L) => rsame_yes D E (List.length L) (List.length L) d e L W _ _ h h')
  generalize pu8 cap l x = x0 at *
  generalize pu8C cap l x = R0 at *
  generalize pu8L cap l x = L0 at *
  generalize va8 cap l = x1 at *
  generalize ro8 cap l = x2 at *
  generalize tk8 cap l k ep = x3 at *
  generalize tk8C cap l k ep = R3 at *
  generalize tk8R cap l k ep = L3 at *
  generalize tk8T cap l k ep = T3 at *
  generalize ex8 cap l ep = x4 at *
  generalize cl8C cap l ep = R4 at *
  generalize cl8R cap l ep = L4 at *
  generalize cl8N cap l ep = x5 at *
  have q0 : (x0 != x0) = false := by simp
  have q1 : (x1 != x1) = false := by simp
  have q2 : (x2 != x2) = false := by simp
  have q3 : (x3 != x3) = false := by simp
  have q4 : (x4 == x4) = true := by simp
  have q5 : (x5 == x5) = true := by simp
  clear hv hx hm1 hm2 hm3 hm4
  go_enter Try.func10, Try.ntmps10
  obtain ⟨t0, t1, tl⟩ := H0.out.db.facts
  go_wp2_with fail
  clear t0 t1 tl
  obtain ⟨p, hp⟩ : ∃ p, p = w.heap.size := ⟨_, rfl⟩
  rw [← hp] at H0
  rw [← hp]
  clear hp
  generalize w.alloc (.cells #[.int .i64 cap, .slice A l.length c] 24) = w1 at *
  refine (C1.out _ _ H0.out).mono ?_
  rintro e w2 ⟨A1, c1, rfl, hn, hl, hb⟩
  have H1 := Lib.hid (H0.out.below hb)
  have HA1 := Lib.hid (Re8.start (C := R0) 24 hl (nw_low hn (show p + 1 ≤ w1.heap.size from H0.out.db.lt)))
  have H2 := Lib.hid (H1.out.alloc (.cells #[.int .i64 R0, .slice A1 L0.length c1] 24))
  have HPA := Lib.hid (show p < w2.heap.size from H1.out.db.lt)
  clear hn hl hb H0
  obtain ⟨t0, t1, tl⟩ := H1.out.db.facts
  go_wp2_with fail
  clear t0 t1 tl
  obtain ⟨a, ha⟩ : ∃ a, a = w2.heap.size := ⟨_, rfl⟩
  rw [← ha] at HA1 HPA
  rw [← ha]
  clear ha
  generalize w2.alloc (.cells #[.int .i64 R0, .slice A1 L0.length c1] 24) = w3 at *
  refine (C2.out _ _ H2.out).mono ?_
  rintro e w4 ⟨A2, c2, rfl, hn, hl, hb⟩
  have H3 := Lib.hid (H2.out.below hb)
  have HA2 := Lib.hid ((HA1.out.below hb).alloc (.cells #[.int .i64 R0, .slice A2 L0.length c2] 24))
  have HB2 := Lib.hid (Re8.start (C := R0) 24 hl (nw_low hn (show a + 1 ≤ w3.heap.size from HA1.out.db.lt)))
  have H4 := Lib.hid (H3.out.alloc (.cells #[.int .i64 R0, .slice A2 L0.length c2] 24))
  have HAB := Lib.hid (show a < w4.heap.size from (HA1.out.below hb).db.lt)
  clear hn hl hb H1 H2
  obtain ⟨t0, t1, tl⟩ := H3.out.db.facts
  go_wp2_with fail
  clear t0 t1 tl
  obtain ⟨b, hb⟩ : ∃ b, b = w4.heap.size := ⟨_, rfl⟩
  rw [← hb] at HB2 HAB
  rw [← hb]
  clear hb H3
  generalize w4.alloc (.cells #[.int .i64 R0, .slice A2 L0.length c2] 24) = w5 at *
  have HSK := Lib.hid (fun W (k : VaAt8 w p cap A c l W) (k1 : Re8 (p + 1) a R0 A1 c1 L0 W) (k2 : Re8 (a + 1) b R0 A2 c2 L0 W) => show W.cell? ⟨p, 0, none⟩ = some (.int .i64 cap) ∧ W.cell? ⟨p, 1, none⟩ = some (.slice A l.length c) ∧ W.cell? ⟨a, 0, none⟩ = some (.int .i64 R0) ∧ W.cell? ⟨a, 1, none⟩ = some (.slice A1 L0.length c1) ∧ W.cell? ⟨b, 0, none⟩ = some (.int .i64 R0) ∧ W.cell? ⟨b, 1, none⟩ = some (.slice A2 L0.length c2) from ⟨k.db.c0, k.db.c1, k1.db.c0, k1.db.c1, k2.db.c0, k2.db.c1⟩)
  have HDR := Lib.hid (show Below w5.heap.size w5 w5.drew from (Below.refl _ _).drew)
  have K0 := Lib.hid (H4.out.below HDR.out)
  have KA0 := Lib.hid (HA2.out.below HDR.out)
  have KB0 := Lib.hid (HB2.out.below HDR.out)
  have HT0 := Lib.hid (HSK.out _ K0.out KA0.out KB0.out)
  clear HDR
  go_region_held3 (fun W => W.cell? ⟨p, 0, none⟩ = some (.int .i64 cap) ∧ W.cell? ⟨p, 1, none⟩ = some (.slice A l.length c) ∧ W.cell? ⟨a, 0, none⟩ = some (.int .i64 R0) ∧ W.cell? ⟨a, 1, none⟩ = some (.slice A1 L0.length c1) ∧ W.cell? ⟨b, 0, none⟩ = some (.int .i64 R0) ∧ W.cell? ⟨b, 1, none⟩ = some (.slice A2 L0.length c2))
    (first | with_reducible exact HT0.out | with_reducible exact HT1.out | with_reducible exact HT2.out | with_reducible exact HT3.out | with_reducible exact HT4.out | with_reducible exact HT5.out)
    (first
    | (go_at_call 28; (with_reducible refine (C6.out _ _ K4.out).mono ?_); rintro e v5 ⟨rfl, hb⟩; have K5 := Lib.hid (K4.out.below hb); have KA5 := Lib.hid (KA4.out.below hb); have KB5 := Lib.hid (KB4.out.below hb); have HT5 := Lib.hid (HSK.out _ K5.out KA5.out KB5.out); clear hb)
    | (go_at_call 22; (with_reducible refine (C5.out _ _ K3.out).mono ?_); rintro e v4 ⟨rfl, hb⟩; have K4 := Lib.hid (K3.out.below hb); have KA4 := Lib.hid (KA3.out.below hb); have KB4 := Lib.hid (KB3.out.below hb); have HT4 := Lib.hid (HSK.out _ K4.out KA4.out KB4.out); clear hb)
    | (go_at_call 27; (with_reducible refine (C4.out _ _ K2.out).mono ?_); rintro e v3 ⟨rfl, hb⟩; have K3 := Lib.hid (K2.out.below hb); have KA3 := Lib.hid (KA2.out.below hb); have KB3 := Lib.hid (KB2.out.below hb); have HT3 := Lib.hid (HSK.out _ K3.out KA3.out KB3.out); clear hb)
    | (go_at_call 26; (with_reducible refine (C3.out _ _ K1.out).mono ?_); rintro e v2 ⟨rfl, hb⟩; have K2 := Lib.hid (K1.out.below hb); have KA2 := Lib.hid (KA1.out.below hb); have KB2 := Lib.hid (KB1.out.below hb); have HT2 := Lib.hid (HSK.out _ K2.out KA2.out KB2.out); clear hb)
    | (go_at_call 9; (with_reducible refine (C11.out _ _ _ _ _ _ _ _ _ _ _ KA0.out KB0.out).mono ?_); rintro e v1 ⟨rfl, hb⟩; have K1 := Lib.hid (K0.out.below hb); have KA1 := Lib.hid (KA0.out.below hb); have KB1 := Lib.hid (KB0.out.below hb); have HT1 := Lib.hid (HSK.out _ K1.out KA1.out KB1.out); clear hb))
  clear HT0 HT1 HT2 HT3 HT4 HT5 HSK K0 KA0 KB0 K1 KA1 KB1 K2 KA2 KB2 K3 KA3 KB3 K4 KA4 KB4 H4 HA2 HB2 HA1
  have HNE := Lib.hid (show ¬ a = b ∧ ¬ b = a ∧ ¬ p = a ∧ ¬ a = p ∧ ¬ p = b ∧ ¬ b = p by have := HPA.out; have := HAB.out; omega)
  obtain ⟨t0, t1, tl⟩ := K5.out.db.facts
  go_wp2_with fail
  clear t0 t1 tl
  refine (C7.out _ _ K5.out).mono ?_
  rintro e w6 ⟨A3, c3, A4, c4, rfl, hn, hn2, hl, hl2, hb⟩
  have H6 := Lib.hid (K5.out.below hb)
  have HA6 := Lib.hid (KA5.out.below hb)
  have HB6 := Lib.hid (KB5.out.below hb)
  have HXB := Lib.hid (show a < v5.heap.size ∧ b < v5.heap.size from ⟨KA5.out.db.lt, KB5.out.db.lt⟩)
  have HLN := Lib.hid hn2
  have HA7 := Lib.hid (HA6.out.put (C := R3) hl hn HXB.out.1)
  have HB7 := Lib.hid (HB6.out.far (b := a) (Nat.lt_succ_self a) (fun e => HNE.out.2.1 e) (.int .i64 R3) (.slice A3 L3.length c3))
  have H7 := Lib.hid (H6.out.far (b := a) HPA.out (.int .i64 R3) (.slice A3 L3.length c3))
  have HL7 := Lib.hid (hl2.far8 hn2 HXB.out.1 (.int .i64 R3) (.slice A3 L3.length c3))
  clear hn hn2 hl hl2 hb K5 KA5 KB5
  obtain ⟨a0, a1, al, f0, f1⟩ := HA6.out.db.all
  obtain ⟨t0, t1, tl⟩ := H6.out.db.facts
  obtain ⟨n1, n2, n3, n4, n5, n6⟩ := HNE.out
  go_wp2_with fail
  clear a0 a1 al f0 f1 t0 t1 tl n1 n2 n3 n4 n5 n6 H6 HA6 HB6
  generalize (w6.setCell ⟨a, 0, none⟩ (.int .i64 R3)).setCell ⟨a, 1, none⟩ (.slice A3 L3.length c3) = w7 at *
  refine (C8.out _ _ H7.out).mono ?_
  rintro e w8 ⟨A5, c5, A6, c6, rfl, hn, hn2, hl, hl2, hb⟩
  have H8 := Lib.hid (H7.out.below hb)
  have HA8 := Lib.hid (HA7.out.below hb)
  have HB8 := Lib.hid (HB7.out.below hb)
  have HL8 := Lib.hid (HL7.out.up8 hb)
  have HXC := Lib.hid (show a < w7.heap.size ∧ b < w7.heap.size from ⟨HA7.out.db.lt, HB7.out.db.lt⟩)
  have HB9 := Lib.hid (HB8.out.put (C := R3) hl hn HXC.out.2)
  have HA9 := Lib.hid (HA8.out.far (b := b) HXB.out.2 (fun e => HNE.out.1 e) (.int .i64 R3) (.slice A5 L3.length c5))
  have H9 := Lib.hid (H8.out.far (b := b) (show p < b by have := HPA.out; have := HAB.out; omega) (.int .i64 R3) (.slice A5 L3.length c5))
  have HM9 := Lib.hid (hl2.far8 hn2 HXC.out.2 (.int .i64 R3) (.slice A5 L3.length c5))
  have HL9 := Lib.hid (HL8.out.far8 HLN.out HXB.out.2 (.int .i64 R3) (.slice A5 L3.length c5))
  clear hn hn2 hl hl2 hb HA7 HB7 H7 HL7 HL8 HLN
  obtain ⟨b0, b1, bl, f0, f1⟩ := HB8.out.db.all
  obtain ⟨a0, a1, al⟩ := HA8.out.db.facts
  obtain ⟨n1, n2, n3, n4, n5, n6⟩ := HNE.out
  go_wp2_with fail
  clear a0 a1 al f0 f1 b0 b1 bl n1 n2 n3 n4 n5 n6 H8 HA8 HB8
  generalize (w8.setCell ⟨b, 0, none⟩ (.int .i64 R3)).setCell ⟨b, 1, none⟩ (.slice A5 L3.length c5) = w9 at *
  refine (C11.out _ _ _ _ _ _ _ _ _ _ _ HA9.out HB9.out).mono ?_
  rintro e w10 ⟨rfl, hb⟩
  have H10 := Lib.hid (H9.out.below hb)
  have HA10 := Lib.hid (HA9.out.below hb)
  have HB10 := Lib.hid (HB9.out.below hb)
  have HL10 := Lib.hid (HL9.out.up8 hb)
  have HM10 := Lib.hid (HM9.out.up8 hb)
  clear hb H9 HA9 HB9 HL9 HM9
  go_wp2_with fail
  refine (C12.out _ _ _ _ _ _ HL10.out HM10.out).mono ?_
  rintro e w11 ⟨rfl, hb⟩
  have H11 := Lib.hid (H10.out.below hb)
  have HA11 := Lib.hid (HA10.out.below hb)
  have HB11 := Lib.hid (HB10.out.below hb)
  clear hb H10 HA10 HB10 HL10 HM10
  obtain ⟨t0, t1, tl⟩ := H11.out.db.facts
  go_wp2_with fail
  clear t0 t1 tl
  refine (C9.out _ _ H11.out).mono ?_
  rintro e w12 ⟨A7, c7, rfl, hn, hl, hb⟩
  have H12 := Lib.hid (H11.out.below hb)
  have HA12 := Lib.hid (HA11.out.below hb)
  have HB12 := Lib.hid (HB11.out.below hb)
  have HXD := Lib.hid (show a < w11.heap.size ∧ b < w11.heap.size from ⟨HA11.out.db.lt, HB11.out.db.lt⟩)
  have HXE := Lib.hid HXB.out
  have HA13 := Lib.hid (HA12.out.put (C := R4) hl hn HXD.out.1)
  have HB13 := Lib.hid (HB12.out.far (b := a) HXC.out.1 (fun e => HNE.out.2.1 e) (.int .i64 R4) (.slice A7 L4.length c7))
  have H13 := Lib.hid (H12.out.far (b := a) HPA.out (.int .i64 R4) (.slice A7 L4.length c7))
  clear hn hl hb H11 HA11 HB11
  obtain ⟨a0, a1, al, f0, f1⟩ := HA12.out.db.all
  obtain ⟨t0, t1, tl⟩ := H12.out.db.facts
  obtain ⟨n1, n2, n3, n4, n5, n6⟩ := HNE.out
  go_wp2_with fail
  clear a0 a1 al f0 f1 t0 t1 tl n1 n2 n3 n4 n5 n6 H12 HA12 HB12
  generalize (w12.setCell ⟨a, 0, none⟩ (.int .i64 R4)).setCell ⟨a, 1, none⟩ (.slice A7 L4.length c7) = w13 at *
  refine (C10.out _ _ H13.out).mono ?_
  rintro e w14 ⟨A8, c8, rfl, hn, hl, hb⟩
  have H14 := Lib.hid (H13.out.below hb)
  have HA14 := Lib.hid (HA13.out.below hb)
  have HB14 := Lib.hid (HB13.out.below hb)
  have HB15 := Lib.hid (HB14.out.put (C := R4) hl hn HB13.out.db.lt)
  have HA15 := Lib.hid (HA14.out.far (b := b) HXD.out.2 (fun e => HNE.out.1 e) (.int .i64 R4) (.slice A8 L4.length c8))
  have H15 := Lib.hid (H14.out.far (b := b) (show p < b by have := HPA.out; have := HAB.out; omega) (.int .i64 R4) (.slice A8 L4.length c8))
  clear hn hl hb HA13 HB13 H13
  obtain ⟨b0, b1, bl, f0, f1⟩ := HB14.out.db.all
  obtain ⟨a0, a1, al⟩ := HA14.out.db.facts
  obtain ⟨n1, n2, n3, n4, n5, n6⟩ := HNE.out
  go_wp2_with fail
  clear a0 a1 al f0 f1 b0 b1 bl n1 n2 n3 n4 n5 n6 H14 HA14 HB14
  generalize (w14.setCell ⟨b, 0, none⟩ (.int .i64 R4)).setCell ⟨b, 1, none⟩ (.slice A8 L4.length c8) = w15 at *
  refine (C11.out _ _ _ _ _ _ _ _ _ _ _ HA15.out HB15.out).mono ?_
  rintro e w16 ⟨rfl, hb⟩
  have H16 := Lib.hid (H15.out.below hb)
  clear hb
  go_wp2
  go_ret
  exact ⟨rfl, H16.out.bel⟩
end Go.Proofs.Ytbeafcjbldnkhaa
