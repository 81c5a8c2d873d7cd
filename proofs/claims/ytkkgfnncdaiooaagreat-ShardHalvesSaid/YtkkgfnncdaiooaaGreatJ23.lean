/- What is proved here: lease.Find by a contract; the reference's Purged of message, by one contract for all arguments; Purged, Spent, Receivable, Deliver, Revive, Reroute of message and their references, each by one contract for all arguments; shard.Holds by a contract. -/
import Derived.Test.YtkkgfnncdaiooaaGreatJ21
import Derived.Test.YtkkgfnncdaiooaaGreatJ22
import Derived.Test.YtkkgfnncdaiooaaGreatJ15
import Derived.Test.YtkkgfnncdaiooaaGreatJ12
import Derived.Test.YtkkgfnncdaiooaaGreatJ01
namespace Go.Proofs.YtkkgfnncdaiooaaGreat
open Go.RowKit
set_option linter.unusedVariables false

theorem fn_has {l : List Le} {h : List Du} {id : Int} (t : TbOk l h) (e : kHas Le.id l id = true) : ∃ hk : kAt Le.id l id < l.length, fnO l h id = true ∧ fnX l h id = l[kAt Le.id l id] := by
  obtain ⟨e1, e2⟩ := kAt_fi t.asc (kHas_iff.1 e)
  exact ⟨e2, fn_yes ((tbV_iff l h).2 t) e2 e1⟩
set_option maxHeartbeats 8000000 in
set_option maxRecDepth 20000 in
theorem lfind_any (A : Option Addr) (n c : Nat) (l : List Le) (A2 : Option Addr) (n2 c2 : Nat) (h : List Du) (id : Int) (w : World) (hv : El w w.heap.size (.slice A n c) l) (hd : Dl w w.heap.size (.slice A2 n2 c2) h) :
    Calls Tryz.prog 113 #[tv A n c A2 n2 c2, .int .i64 id] w fun e w' => e = .returned (.tuple #[(fnX l h id).v, .bool (fnO l h id)]) ∧ Below w.heap.size w w' := by
  obtain ⟨rfl, hm1, hm2⟩ := hv.len
  obtain ⟨rfl, hm3, hm4⟩ := hd.len
  have H0 := Lib.hid ((VaA.start 31 hv hd).alloc (.cells #[.int .i64 0, .int .i64 0, .int .i64 0, .int .i64 0, .int .i64 0, .int .i64 0, .string ⟨#[]⟩, .int .i64 0] 68))
  have HR0 := Lib.hid (RL.start (w.alloc (.cells #[.slice A l.length c, .slice A2 h.length c2] 31)) zL 68)
  clear hv hd hm1 hm2 hm3 hm4
  obtain ⟨O, hO⟩ : ∃ O, O = fnO l h id := ⟨_, rfl⟩
  obtain ⟨X, hX⟩ : ∃ X, X = fnX l h id := ⟨_, rfl⟩
  obtain ⟨z, hz⟩ : ∃ z, z = tbV l h := ⟨_, rfl⟩
  have HV := Lib.hid (fun p W (k : VaA w p A c l A2 c2 h W) => lvalid_any A l.length c l A2 h.length c2 h W k.el k.dl)
  rw [← hz] at HV
  rw [← hO, ← hX]
  have HO := Lib.hid hO
  have HX := Lib.hid hX
  have HZ := Lib.hid hz
  clear hO hX hz
  go_enter Tryz.func113, Tryz.ntmps113
  obtain ⟨t0, t1, tl⟩ := H0.out.tb
  go_wp2_with fail
  clear t0 t1 tl
  obtain ⟨p, hp⟩ : ∃ p, p = w.heap.size := ⟨_, rfl⟩
  obtain ⟨r, hr⟩ : ∃ r, r = w.heap.size + 1 := ⟨_, rfl⟩
  have HPR := Lib.hid (show ¬ p = r ∧ w.heap.size ≤ r by omega)
  have e1 : (w.alloc (.cells #[.slice A l.length c, .slice A2 h.length c2] 31)).heap.size = r := by rw [hr]; simp
  rw [e1] at HR0
  have HS := Lib.hid (show VaA w p A c l A2 c2 h ((w.alloc (.cells #[.slice A l.length c, .slice A2 h.length c2] 31)).alloc (.cells #[.int .i64 0, .int .i64 0, .int .i64 0, .int .i64 0, .int .i64 0, .int .i64 0, .string ⟨#[]⟩, .int .i64 0] 68)) ∧ RL ((w.alloc (.cells #[.slice A l.length c, .slice A2 h.length c2] 31)).alloc (.cells #[.int .i64 0, .int .i64 0, .int .i64 0, .int .i64 0, .int .i64 0, .int .i64 0, .string ⟨#[]⟩, .int .i64 0] 68)) r zL from ⟨by rw [hp]; exact H0.out, HR0.out⟩)
  rw [← hr, ← hp]
  clear e1 H0 HR0 hp hr
  generalize ((w.alloc (.cells #[.slice A l.length c, .slice A2 h.length c2] 31)).alloc (.cells #[.int .i64 0, .int .i64 0, .int .i64 0, .int .i64 0, .int .i64 0, .int .i64 0, .string ⟨#[]⟩, .int .i64 0] 68)) = w2 at *
  have hpr : ¬ p = r := HPR.out.1
  have hrp : ¬ r = p := fun e => HPR.out.1 e.symm
  by_cases hz0 : z = 0
  · rw [hz0] at HV
    have HT := Lib.hid ((tbV_iff l h).1 (HZ.out.symm.trans hz0))
    have HP := Lib.hid (fun p W (k : VaA w p A c l A2 c2 h W) => lplace_any A l.length c l id W k.el HT.out.asc (by have := HT.out.len; omega))
    have HFH := Lib.hid (fun e => fn_has (id := id) HT.out e)
    have HFN := Lib.hid (fun e => fn_no (l := l) (h := h) (id := id) e)
    have HKN := Lib.hid (fun e => (kHas_not (key := Le.id) (l := l) (x := id)).1 e)
    unfold PlR at HP
    obtain ⟨i, hi⟩ : ∃ i, i = kAt Le.id l id := ⟨_, rfl⟩
    rw [← hi] at HP
    have HI := Lib.hid hi
    clear hz0 hi
    refine (HV.out _ _ HS.out.1).mono ?_
    rintro e w3 ⟨rfl, hb⟩
    have HS3 := Lib.hid (show VaA w p A c l A2 c2 h w3 ∧ RL w3 r zL from ⟨HS.out.1.below hb, HS.out.2.below hb HS.out.2.lt⟩)
    clear hb
    obtain ⟨t0, t1, tl⟩ := HS3.out.1.tb
    go_wp2_with fail
    clear t0 t1 tl
    cases ho : kHas Le.id l id with
    | false =>
      rw [ho] at HP
      have HXO := Lib.hid (show X = zL ∧ O = false from ⟨HX.out.trans (HFN.out (fun hh => by have := HKN.out ho; omega)).2, HO.out.trans (HFN.out (fun hh => by have := HKN.out ho; omega)).1⟩)
      clear ho
      refine (HP.out _ _ HS3.out.1).mono ?_
      rintro e w4 ⟨rfl, hb⟩
      have HS4 := Lib.hid (show VaA w p A c l A2 c2 h w4 ∧ RL w4 r zL from ⟨HS3.out.1.below hb, HS3.out.2.below hb HS3.out.2.lt⟩)
      clear hb
      obtain ⟨r0, r1, r2, r3, r4, r5, r6, r7, g0, g1, g2, g3, g4, g5, g6, g7, rl⟩ := HS4.out.2
      go_wp2
      exact bodyPost_ret (v := .tuple #[.agg #[.int .i64 0, .int .i64 0, .int .i64 0, .int .i64 0, .int .i64 0, .int .i64 0, .string ⟨#[]⟩, .int .i64 0], .bool false]) (by simp only [results, Tryz.results113]; go_simp <;> rfl) rfl ⟨by rw [HXO.out.1, HXO.out.2]; rfl, sets_below HPR.out.2 zL.l 0 _ HS4.out.1.bel⟩
    | true =>
      rw [ho] at HP
      obtain ⟨hk, e1, e2⟩ := HFH.out ho
      have hki : i < l.length := by rw [HI.out]; exact hk
      have hki' : (i : Int) < (l.length : Int) := by omega
      obtain ⟨Y, hY⟩ : ∃ Y, l[i] = Y := ⟨_, rfl⟩
      have HXO := Lib.hid (show X = Y ∧ O = true from ⟨(HX.out.trans e2).trans (by rw [← hY]; simp only [HI.out]), HO.out.trans e1⟩)
      have HYK := Lib.hid hY
      clear ho e1 e2 hk hY
      refine (HP.out _ _ HS3.out.1).mono ?_
      rintro e w4 ⟨rfl, hb⟩
      have HS4 := Lib.hid (show VaA w p A c l A2 c2 h w4 ∧ RL w4 r zL from ⟨HS3.out.1.below hb, HS3.out.2.below hb HS3.out.2.lt⟩)
      clear hb
      obtain ⟨t0, t1, tl⟩ := HS4.out.1.tb
      obtain ⟨r0, r1, r2, r3, r4, r5, r6, r7, g0, g1, g2, g3, g4, g5, g6, g7, rl⟩ := HS4.out.2
      obtain ⟨b, o, rfl, hbl⟩ := HS4.out.1.el.some_ (by omega)
      obtain ⟨⟨c0, c1, c2', c3, c4, c5, c6, c7⟩, _⟩ := HS4.out.1.el.c8 hki
      rw [HYK.out] at c0 c1 c2' c3 c4 c5 c6 c7
      go_wp2
      exact bodyPost_ret (v := .tuple #[Y.v, .bool true]) (by simp only [results, Tryz.results113]; go_simp <;> rfl) rfl ⟨by rw [HXO.out.1, HXO.out.2], sets_below HPR.out.2 Y.l 0 _ HS4.out.1.bel⟩
  · have hz' : (z != 0) = true := by simpa using hz0
    have HXO := Lib.hid (show X = zL ∧ O = false from ⟨HX.out.trans (fn_no fun hh => by have := HZ.out; omega).2, HO.out.trans (fn_no fun hh => by have := HZ.out; omega).1⟩)
    clear hz0
    refine (HV.out _ _ HS.out.1).mono ?_
    rintro e w4 ⟨rfl, hb⟩
    have HS4 := Lib.hid (show VaA w p A c l A2 c2 h w4 ∧ RL w4 r zL from ⟨HS.out.1.below hb, HS.out.2.below hb HS.out.2.lt⟩)
    clear hb
    obtain ⟨r0, r1, r2, r3, r4, r5, r6, r7, g0, g1, g2, g3, g4, g5, g6, g7, rl⟩ := HS4.out.2
    go_wp2
    exact bodyPost_ret (v := .tuple #[.agg #[.int .i64 0, .int .i64 0, .int .i64 0, .int .i64 0, .int .i64 0, .int .i64 0, .string ⟨#[]⟩, .int .i64 0], .bool false]) (by simp only [results, Tryz.results113]; go_simp <;> rfl) rfl ⟨by rw [HXO.out.1, HXO.out.2]; rfl, sets_below HPR.out.2 zL.l 0 _ HS4.out.1.bel⟩
end Go.Proofs.YtkkgfnncdaiooaaGreat
namespace Go.Proofs.YtkkgfnncdaiooaaGreat
open Go.RowKit
set_option linter.unusedVariables false

end Go.Proofs.YtkkgfnncdaiooaaGreat
namespace Go.Proofs.YtkkgfnncdaiooaaGreat
open Go.RowKit
set_option linter.unusedVariables false

def spF (M : Msg) (l : Int) : Bool := decide (l ≤ M.ct)
def rvF (M : Msg) (e l : Int) : Bool := !puF M e && (!spF M l && decide (M.gn < 65536))

theorem spent_any (M : Msg) (k : Int) (w : World) : Calls Tryz.prog 48 #[M.v, .int .i64 k] w fun e w' => e = .returned (.bool (spF M k)) ∧ Below w.heap.size w w' := by
  have HB := Lib.hid ((Below.refl w.heap.size w).alloc (Nat.le_refl _) (.cells M.cs 57))
  by_cases h : k ≤ M.ct
  · have HF := Lib.hid (show spF M k = true from decide_eq_true h)
    go_enter Tryz.func48, Tryz.ntmps48
    go_wp2
    go_ret
    exact ⟨by rw [HF.out]; rfl, HB.out⟩
  · have HF := Lib.hid (show spF M k = false from decide_eq_false h)
    go_enter Tryz.func48, Tryz.ntmps48
    go_wp2
    go_ret
    exact ⟨by rw [HF.out]; rfl, HB.out⟩

set_option maxHeartbeats 1000000 in
theorem receivable_any (M : Msg) (k l : Int) (w : World) : Calls Tryz.prog 42 #[M.v, .int .i64 k, .int .i64 l] w fun e w' => e = .returned (.bool (rvF M k l)) ∧ Below w.heap.size w w' := by
  have HB := Lib.hid ((Below.refl w.heap.size w).alloc (Nat.le_refl _) (.cells M.cs 57))
  have HP := Lib.hid (fun w => purged_any M k w)
  have HS := Lib.hid (fun w => spent_any M l w)
  cases hp : puF M k with
  | true =>
    have HF := Lib.hid (show rvF M k l = false by simp [rvF, hp])
    rw [hp] at HP
    clear hp
    go_enter Tryz.func42, Tryz.ntmps42
    go_wp2_with fail
    refine (HP.out _).mono ?_
    rintro e w1 ⟨rfl, hb⟩
    obtain ⟨hc1, hf1⟩ := bcell hb
    have HB1 := Lib.hid (HB.out.trans (hb.mono HB.out.size))
    have hz1 := hb.size
    try simp at hz1
    clear hb
    go_wp2
    go_ret
    exact ⟨by rw [HF.out]; rfl, HB1.out⟩
  | false =>
    rw [hp] at HP
    cases hs : spF M l with
    | true =>
      have HF := Lib.hid (show rvF M k l = false by simp [rvF, hp, hs])
      rw [hs] at HS
      clear hp hs
      go_enter Tryz.func42, Tryz.ntmps42
      go_wp2_with fail
      refine (HP.out _).mono ?_
      rintro e w1 ⟨rfl, hb⟩
      obtain ⟨hc1, hf1⟩ := bcell hb
      have HB1 := Lib.hid (HB.out.trans (hb.mono HB.out.size))
      have hz1 := hb.size
      try simp at hz1
      clear hb
      go_wp2_with fail
      refine (HS.out _).mono ?_
      rintro e w2 ⟨rfl, hb⟩
      obtain ⟨hc2, hf2⟩ := bcell hb
      have HB2 := Lib.hid (HB1.out.trans (hb.mono HB1.out.size))
      have hz2 := hb.size
      try simp at hz2
      clear hb
      go_wp2
      go_ret
      exact ⟨by rw [HF.out]; rfl, HB2.out⟩
    | false =>
      rw [hs] at HS
      by_cases hg : M.gn < 65536
      · have HF := Lib.hid (show rvF M k l = true by simp [rvF, hp, hs, hg])
        clear hp hs
        go_enter Tryz.func42, Tryz.ntmps42
        go_wp2_with fail
        refine (HP.out _).mono ?_
        rintro e w1 ⟨rfl, hb⟩
        obtain ⟨hc1, hf1⟩ := bcell hb
        have HB1 := Lib.hid (HB.out.trans (hb.mono HB.out.size))
        have hz1 := hb.size
        try simp at hz1
        clear hb
        go_wp2_with fail
        refine (HS.out _).mono ?_
        rintro e w2 ⟨rfl, hb⟩
        obtain ⟨hc2, hf2⟩ := bcell hb
        have HB2 := Lib.hid (HB1.out.trans (hb.mono HB1.out.size))
        have hz2 := hb.size
        try simp at hz2
        clear hb
        have hlt : w.heap.size < w1.heap.size := by omega
        go_wp2
        go_ret
        exact ⟨by rw [HF.out]; rfl, HB2.out⟩
      · have HF := Lib.hid (show rvF M k l = false by simp [rvF, hp, hs]; omega)
        clear hp hs
        go_enter Tryz.func42, Tryz.ntmps42
        go_wp2_with fail
        refine (HP.out _).mono ?_
        rintro e w1 ⟨rfl, hb⟩
        obtain ⟨hc1, hf1⟩ := bcell hb
        have HB1 := Lib.hid (HB.out.trans (hb.mono HB.out.size))
        have hz1 := hb.size
        try simp at hz1
        clear hb
        go_wp2_with fail
        refine (HS.out _).mono ?_
        rintro e w2 ⟨rfl, hb⟩
        obtain ⟨hc2, hf2⟩ := bcell hb
        have HB2 := Lib.hid (HB1.out.trans (hb.mono HB1.out.size))
        have hz2 := hb.size
        try simp at hz2
        clear hb
        have hlt : w.heap.size < w1.heap.size := by omega
        go_wp2
        go_ret
        exact ⟨by rw [HF.out, ← decide_eq_false (show ¬ M.gn < 65536 by omega)]; rfl, HB2.out⟩

end Go.Proofs.YtkkgfnncdaiooaaGreat
namespace Go.Proofs.YtkkgfnncdaiooaaGreat
open Go.RowKit
set_option linter.unusedVariables false

structure Hn where
  id : Int
  gn : Int
  rt : Int
  ht : Int
abbrev Hn.v (H : Hn) : Value := .agg #[.int .i64 H.id, .int .i64 H.gn, .int .i64 H.rt, .int .i64 H.ht]
def hxF (X : Le) (H : Hn) (now ep : Int) : Bool := (X.m.gn == H.gn) && ((X.m.rt == H.rt) && (!puF X.m ep && decide (now < X.dl)))
noncomputable def hoF (S : Sh) (H : Hn) (now ep : Int) : Bool := decide (exS S (wi now 0 1073741824 && wi ep 0 65536) = 0) && (fnO S.l S.h H.id && hxF (fnX S.l S.h H.id) H now ep)
def H4 (W : World) (q : Nat) (H : Hn) : Prop := W.cell? ⟨q, 0, none⟩ = some (.int .i64 H.id) ∧ W.cell? ⟨q, 1, none⟩ = some (.int .i64 H.gn) ∧ W.cell? ⟨q, 2, none⟩ = some (.int .i64 H.rt) ∧ W.cell? ⟨q, 3, none⟩ = some (.int .i64 H.ht) ∧ q < W.heap.size
theorem H4.up {W W' : World} {q : Nat} {H : Hn} (h : H4 W q H) (hb : Below W.heap.size W W') : H4 W' q H := by
  obtain ⟨h0, h1, h2, h3, hl⟩ := h
  exact ⟨(hb.cell (p := ⟨q, 0, none⟩) hl).trans h0, (hb.cell (p := ⟨q, 1, none⟩) hl).trans h1, (hb.cell (p := ⟨q, 2, none⟩) hl).trans h2, (hb.cell (p := ⟨q, 3, none⟩) hl).trans h3, Nat.lt_of_lt_of_le hl hb.size⟩
theorem H4.start (w : World) (H : Hn) (t : TypeId) : H4 (w.alloc (.cells #[.int .i64 H.id, .int .i64 H.gn, .int .i64 H.rt, .int .i64 H.ht] t)) w.heap.size H :=
  ⟨by simp [go_sem], by simp [go_sem], by simp [go_sem], by simp [go_sem], by simp⟩
theorem nl_two (w : World) (a b : Rn) (t : TypeId) : Nl (w.alloc (.cells #[.int .i64 a.n, .int .i64 a.lo, .int .i64 a.hi, .int .i64 b.n, .int .i64 b.lo, .int .i64 b.hi] t)) (w.heap.size + 1) (.slice (some ⟨w.heap.size, 0, none⟩) 2 2) [a, b] := by
  refine ⟨_, 2, rfl, Nat.le_refl _, by unfold maxLen; omega, by simp [rcs, Rn.l], fun _ => ⟨w.heap.size, 0, rfl, Nat.lt_succ_self _, fun j u hu => ?_⟩⟩
  rw [Nat.zero_add, World.cell?_alloc_new]
  simpa [rcs, Rn.l] using hu
set_option maxHeartbeats 8000000 in
set_option maxRecDepth 20000 in
theorem sholds_any (S : Sh) (D : Sx) (H : Hn) (now ep : Int) (w : World) (hs : SR w w.heap.size S D) :
    Calls Tryz.prog 60 #[sv S D, H.v, .int .i64 now, .int .i64 ep] w fun e w' => e = .returned (.bool (hoF S H now ep)) ∧ Below w.heap.size w w' := by
  have H0 := Lib.hid ((SAt.start 33 hs).alloc (.cells #[.int .i64 H.id, .int .i64 H.gn, .int .i64 H.rt, .int .i64 H.ht] 40))
  have Q0 := Lib.hid (H4.start (w.alloc (.cells #[.bool S.lv, .int .i64 S.lo, .int .i64 S.hi, .slice D.A S.cs.length D.c, .int .i64 S.hd, .int .i64 S.sz, .slice D.A2 S.l.length D.c2, .slice D.A3 S.h.length D.c3] 33)) H 40)
  have HV := Lib.hid (fun A c p W (k : SAt w p S D W) (hn : Nl W W.heap.size (.slice A 2 c) [⟨now, 0, 1073741824⟩, ⟨ep, 0, 65536⟩]) => sexam_any S D A 2 c [⟨now, 0, 1073741824⟩, ⟨ep, 0, 65536⟩] W k.sr hn)
  have HE : ([⟨now, 0, 1073741824⟩, ⟨ep, 0, 65536⟩] : List Rn).all Rn.ok = (wi now 0 1073741824 && wi ep 0 65536) := by simp [Rn.ok]
  rw [HE] at HV
  clear HE
  have HT := Lib.hid (fun W => atime_any now W)
  have HP := Lib.hid (fun W => aepoch_any ep W)
  have HF := Lib.hid (fun p W (k : SAt w p S D W) => lfind_any D.A2 S.l.length D.c2 S.l D.A3 S.h.length D.c3 S.h H.id W k.sr.el k.sr.dl)
  have HHO : Hid (hoF S H now ep = (decide (exS S (wi now 0 1073741824 && wi ep 0 65536) = 0) && (fnO S.l S.h H.id && hxF (fnX S.l S.h H.id) H now ep))) := Lib.hid rfl
  clear hs
  generalize exS S (wi now 0 1073741824 && wi ep 0 65536) = z at *
  generalize hoF S H now ep = a at *
  generalize fnX S.l S.h H.id = X at *
  generalize fnO S.l S.h H.id = O at *
  unfold hxF at HHO
  have HPU := Lib.hid (fun W => purged_any X.m ep W)
  generalize puF X.m ep = pu at *
  go_enter Tryz.func60, Tryz.ntmps60
  obtain ⟨p, hp⟩ : ∃ p, p = w.heap.size := ⟨_, rfl⟩
  obtain ⟨q, hq⟩ : ∃ q, q = w.heap.size + 1 := ⟨_, rfl⟩
  have e1 : (w.alloc (.cells #[.bool S.lv, .int .i64 S.lo, .int .i64 S.hi, .slice D.A S.cs.length D.c, .int .i64 S.hd, .int .i64 S.sz, .slice D.A2 S.l.length D.c2, .slice D.A3 S.h.length D.c3] 33)).heap.size = q := by rw [hq]; simp
  rw [e1] at Q0
  rw [← hp] at H0
  have HPQ := Lib.hid (show w.heap.size ≤ p ∧ p < q by omega)
  clear e1
  go_upto_region 1 with (fail)
  rw [← hq, ← hp]
  clear hp hq
  generalize ((w.alloc (.cells #[.bool S.lv, .int .i64 S.lo, .int .i64 S.hi, .slice D.A S.cs.length D.c, .int .i64 S.hd, .int .i64 S.sz, .slice D.A2 S.l.length D.c2, .slice D.A3 S.h.length D.c3] 33)).alloc (.cells #[.int .i64 H.id, .int .i64 H.gn, .int .i64 H.rt, .int .i64 H.ht] 40)) = w1 at *
  have HD := Lib.hid H0.out.drew
  have Q1 := Lib.hid (Q0.out.up ((Below.refl _ _).drew))
  have HT0 := Lib.hid (show K8 p S D w1.drew from HD.out.k8)
  go_region_held3 (fun W => K8 p S D W)
    (first | with_reducible exact HT0.out | with_reducible exact HT1.out | with_reducible exact HT2.out | with_reducible exact HT3.out | with_reducible exact HT4.out)
    (first
    | (go_at_call 36; (with_reducible refine (HT.out _).mono ?_); rintro e w3 ⟨rfl, hb⟩; have HA1 := Lib.hid (HD.out.below hb); have Q2 := Lib.hid (Q1.out.up hb); have HT1 := Lib.hid HA1.out.k8; clear hb)
    | (go_at_call 38; (with_reducible refine (HP.out _).mono ?_); rintro e w4 ⟨rfl, hb⟩; have HA2 := Lib.hid (HA1.out.below hb); have Q3 := Lib.hid (Q2.out.up hb); have HT2 := Lib.hid HA2.out.k8; have HA3 := Lib.hid (HA2.out.alloc (.cells #[.int .i64 now, .int .i64 0, .int .i64 1073741824, .int .i64 ep, .int .i64 0, .int .i64 65536] 78)); have Q4 := Lib.hid (Q3.out.up ((Below.refl _ _).alloc (Nat.le_refl _) (.cells #[.int .i64 now, .int .i64 0, .int .i64 1073741824, .int .i64 ep, .int .i64 0, .int .i64 65536] 78))); have HT3 := Lib.hid HA3.out.k8; have HNL := Lib.hid (nl_two w4 ⟨now, 0, 1073741824⟩ ⟨ep, 0, 65536⟩ 78); clear hb)
    | (go_at_call 35; (with_reducible refine (HV.out _ _ _ _ HA3.out ?_).mono ?_); (have := HNL.out; simpa using this); rintro e w5 ⟨rfl, hb⟩; have HA4 := Lib.hid (HA3.out.below hb); have Q5 := Lib.hid (Q4.out.up hb); have HT4 := Lib.hid HA4.out.k8; clear hb))
  by_cases hz : z = 0
  · subst hz
    obtain ⟨t0, t1, t2, t3, t4, t5, t6, t7, tl⟩ := HA4.out.s8.facts
    obtain ⟨q0, q1, q2, q3, ql⟩ := Q5.out
    go_wp2_with fail
    clear t0 t1 t2 t3 t4 t5 t6 t7 tl q0 q1 q2 q3 ql
    refine (HF.out _ _ HA4.out).mono ?_
    rintro e w6 ⟨rfl, hb⟩
    have B6 := Lib.hid (bal (btr HA4.out.bel hb) (.cells #[.int .i64 X.m.id, .int .i64 X.m.rt, .int .i64 X.m.ep, .int .i64 X.m.ct, .int .i64 X.m.gn, .int .i64 X.m.st, .string X.m.bd, .int .i64 X.dl] 68))
    obtain ⟨q0, q1, q2, q3, ql⟩ := Q5.out.up hb
    clear hb
    cases O with
    | false =>
      have HX := Lib.hid (show a = false by rw [HHO.out]; simp)
      clear HHO
      go_wp2
      go_ret
      exact ⟨by rw [HX.out]; rfl, B6.out⟩
    | true =>
      cases h1 : (X.m.gn == H.gn) with
      | false =>
        have HX := Lib.hid (show a = false by rw [HHO.out, h1]; simp)
        clear HHO
        go_wp2
        go_ret
        exact ⟨by rw [HX.out]; rfl, B6.out⟩
      | true =>
        cases h2 : (X.m.rt == H.rt) with
        | false =>
          have HX := Lib.hid (show a = false by rw [HHO.out, h2]; simp)
          clear HHO
          go_wp2
          go_ret
          exact ⟨by rw [HX.out]; rfl, B6.out⟩
        | true =>
          cases pu with
          | true =>
            have HX := Lib.hid (show a = false by rw [HHO.out]; simp)
            clear HHO
            go_wp2_with fail
            refine (HPU.out _).mono ?_
            rintro e w7 ⟨rfl, hb⟩
            have B7 := Lib.hid (btr B6.out hb)
            clear hb
            go_wp2
            go_ret
            exact ⟨by rw [HX.out]; rfl, B7.out⟩
          | false =>
            have hz' := B6.out.size
            have HX := Lib.hid (show a = decide (now < X.dl) by rw [HHO.out, h1, h2]; simp)
            clear HHO
            go_wp2_with fail
            refine (HPU.out _).mono ?_
            rintro e w7 ⟨rfl, hb⟩
            have B7 := Lib.hid (btr B6.out hb)
            have c7 := (hb.cell (p := ⟨w6.heap.size, 7, none⟩) (by simp)).trans (show _ = some (.int .i64 X.dl) by simp [go_sem])
            clear hb
            go_wp2
            go_ret
            exact ⟨by rw [HX.out]; rfl, B7.out⟩
  · have hne : (z != 0) = true := bne_iff_ne.2 hz
    have HX := Lib.hid (show a = false by rw [HHO.out, decide_eq_false hz]; simp)
    clear hz HHO
    go_wp2
    go_ret
    exact ⟨by rw [HX.out]; rfl, HA4.out.bel⟩
end Go.Proofs.YtkkgfnncdaiooaaGreat
