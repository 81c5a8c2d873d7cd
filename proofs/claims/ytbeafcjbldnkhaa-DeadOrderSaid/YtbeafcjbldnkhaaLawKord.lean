/- What is proved here: shardqueuelaw08.DeadOrder returns true for every input and leaves its argument as it was. No condition. -/
import Derived.Test.YtbeafcjbldnkhaaJ17
import Derived.Test.YtbeafcjbldnkhaaJ18
import Derived.Test.YtbeafcjbldnkhaaJ19
import Derived.Test.YtbeafcjbldnkhaaJ20
import Derived.Deep.RegionHeld3
import Derived.Deep.DeepCutAuto
import Derived.Deep.RegionLaw
import Derived.ProofKit
import Derived.OpenShut
import Derived.ShutString
import Derived.ChangeOld
namespace Go.Proofs.Ytbeafcjbldnkhaa
open Go.RowKit
set_option linter.unusedVariables false

/-- A list is cut at its beginning. -/
theorem Wn.cutk {W : World} {base Bd n c : Nat} {A : Option Addr} {l : List Msg} (h : Wn W base Bd (.slice A n c) l) (k : Nat) (hk : k ≤ n) : Wn W base Bd (.slice (if c = k then A else A.map (·.add (k * 7))) (n - k) (c - k)) (l.drop k) := by
  obtain ⟨A', c', e, h1, h2, h3, h4⟩ := h
  injection e with e1 e2 e3
  subst e1; subst e3
  refine ⟨_, c - k, by rw [List.length_drop, e2], by rw [List.length_drop]; omega, by omega, fun h => ?_, fun h0 => ?_⟩
  · by_cases hc : c = k
    · omega
    · rw [if_neg hc] at h
      have : A = none := by cases A with | none => rfl | some a => simp at h
      have := h3 this
      omega
  · obtain ⟨b, o, e, k1, k2, k3, k4⟩ := h4 (by omega)
    subst e
    rw [if_neg (by omega)]
    refine ⟨b, o + k * 7, by rw [Option.map_some, add_mk], k1, k2, fun j u hu => ?_, fun j hj => ?_⟩
    · rw [Nat.add_assoc]
      refine k3 (k * 7 + j) u ?_
      rw [← hu, ← lcs_drop, List.getElem?_drop]
    · rw [Nat.add_assoc]
      exact k4 (k * 7 + j) (by omega)
theorem take8_good (cap : Int) (A : Option Addr) (c : Nat) (l : List Msg) (k : Nat) (w : World) (h : Ok8 cap l) (hv : Ls w w.heap.size (.slice A l.length c) l) :
    Calls Try.prog 20 #[.agg #[.int .i64 cap, .slice A l.length c], .int .i64 (k : Int), .int .i64 0] w (D8L w cap (l.drop k) (l.take k) 0) := by
  have hx : tk8 cap l k 0 = 0 := tk8_ok (ex8_ok (ok8_iff.2 h) (by decide)) (by omega)
  have hp : pl8 (k : Int) (fun M => !puF M 0) l = (l.take k, l.drop k) := pl8_first l k (fun M hM => by
    have := (vf_ok (h.all M hM)).2.2.1.1
    show (!decide (M.ep < 0)) = true
    simp; omega)
  have := take8_any cap A l.length c l k 0 w hv
  rwa [hx, show tk8C cap l k 0 = cap from if_pos hx, show tk8R cap l k 0 = l.drop k from (if_pos hx).trans (by rw [hp]), show tk8T cap l k 0 = l.take k from (if_pos hx).trans (by rw [hp])] at this
theorem room8_good (cap : Int) (A : Option Addr) (c : Nat) (l : List Msg) (w : World) (h : Ok8 cap l) (hv : Ls w w.heap.size (.slice A l.length c) l) :
    Calls Try.prog 22 #[.agg #[.int .i64 cap, .slice A l.length c]] w (V8 w (cap - l.length)) := by
  have := room8_any cap A l.length c l w hv
  rwa [show ro8 cap l = cap - l.length from if_pos (ok8_iff.2 h)] at this
/-- The source, the store's box and the list of what is wanted. -/
structure Dp8 (w : World) (g p Bd : Nat) (cap : Int) (A : Option Addr) (n c : Nat) (L : List Msg) (v : Value) (W : World) : Prop where
  src : SrcAt W w.heap.size g
  db : DB W p cap A n c
  wn : Wn W (p + 1) Bd v L
  bel : Below w.heap.size w W
  old : w.heap.size ≤ g ∧ g < p ∧ p < Bd ∧ Bd ≤ W.heap.size
/-- With the store's own list. -/
structure Do8 (w : World) (g p Bd : Nat) (cap : Int) (A : Option Addr) (c : Nat) (L : List Msg) (v : Value) (W : World) : Prop where
  dp : Dp8 w g p Bd cap A L.length c L v W
  ls : Ls W Bd (.slice A L.length c) L
  nw : Nw (p + 1) A
section
variable {w W W' : World} {g p Bd n c : Nat} {cap : Int} {A : Option Addr} {L : List Msg} {v : Value}
theorem Dp8.below (h : Dp8 w g p Bd cap A n c L v W) (hb : Below W.heap.size W W') : Dp8 w g p Bd cap A n c L v W' :=
  ⟨h.src.below hb, h.db.up hb, h.wn.below h.old.2.2.2 hb, h.bel.trans (hb.mono h.bel.size), h.old.1, h.old.2.1, h.old.2.2.1, Nat.le_trans h.old.2.2.2 hb.size⟩
theorem Dp8.turn (h : Dp8 w g p Bd cap A n c L v W) (hs : SrcAt W' w.heap.size g) (hg : W.grownBy W' (some g)) : Dp8 w g p Bd cap A n c L v W' := by
  have ho := h.old
  exact ⟨hs, h.db.grown hg (fun e => by injection e with e; omega), h.wn.grown ho.2.2.2 hg (fun x e => by injection e with e; left; omega), below_only h.bel hg ho.1 (Nat.le_refl _), ho.1, ho.2.1, ho.2.2.1, Nat.le_trans ho.2.2.2 hg.size⟩
theorem Do8.below (h : Do8 w g p Bd cap A c L v W) (hb : Below W.heap.size W W') : Do8 w g p Bd cap A c L v W' := ⟨h.dp.below hb, h.ls.below (hb.mono h.dp.old.2.2.2), h.nw⟩
theorem Do8.turn (h : Do8 w g p Bd cap A c L v W) (hs : SrcAt W' w.heap.size g) (hg : W.grownBy W' (some g)) : Do8 w g p Bd cap A c L v W' := by
  have ho := h.dp.old
  exact ⟨h.dp.turn hs hg, h.ls.growno ho.2.2.2 hg (fun x e => by cases e; exact ob_nw h.nw (by omega)), h.nw⟩
theorem Do8.here (h : Do8 w g p Bd cap A c L v W) : Ls W W.heap.size (.slice A L.length c) L := h.ls.more h.dp.old.2.2.2
theorem Do8.now (h : Do8 w g p Bd cap A c L v W) : Do8 w g p W.heap.size cap A c L v W :=
  ⟨⟨h.dp.src, h.dp.db, h.dp.wn.more h.dp.old.2.2.2, h.dp.bel, h.dp.old.1, h.dp.old.2.1, h.dp.db.lt, Nat.le_refl _⟩, h.here, h.nw⟩
/-- Another store is stored. -/
theorem Dp8.put {lo q d : Nat} {D : Option Addr} {L1 : List Msg} {v1 : Value} (h : Dp8 w g p Bd cap A n c L v W) (k : Re8 lo q cap D d L1 W) (hlo : p < lo) (hw : Wn W (p + 1) Bd v1 L1) :
    Do8 w g p W.heap.size cap D d L1 v1 ((W.setCell ⟨p, 0, none⟩ (.int .i64 cap)).setCell ⟨p, 1, none⟩ (.slice D L1.length d)) := by
  have ho := h.old
  have hp := h.db.lt
  refine ⟨⟨(h.src.other (p := ⟨p, 0, none⟩) (show p ≠ g by omega) (show w.heap.size ≤ p by omega) _).other (p := ⟨p, 1, none⟩) (show p ≠ g by omega) (show w.heap.size ≤ p by omega) _, h.db.put _ _ _ _, ?_, (h.bel.setCell (p := ⟨p, 0, none⟩) (show w.heap.size ≤ p by omega) _).setCell (p := ⟨p, 1, none⟩) (show w.heap.size ≤ p by omega) _, ho.1, ho.2.1, hp, by simp⟩, ?_, nw_low k.nw (by omega)⟩
  · exact ((hw.set (p := ⟨p, 0, none⟩) (.inl (Nat.lt_succ_self p)) _).set (p := ⟨p, 1, none⟩) (.inl (Nat.lt_succ_self p)) _).more (by simpa using ho.2.2.2)
  · have := (k.ls.offo (p := ⟨p, 0, none⟩) (ob_nw k.nw hlo) (.int .i64 cap)).offo (p := ⟨p, 1, none⟩) (ob_nw k.nw hlo) (.slice D L1.length d)
    simpa using this
/-- What is wanted grows. -/
theorem Dp8.row {v1 : Value} {L1 : List Msg} {row : Option Nat} (h : Dp8 w g p Bd cap A n c L v W) (hw : Wn W' (p + 1) W'.heap.size v1 L1) (hg : W.grownBy W' row) (hr : ∀ x, row = some x → p + 1 ≤ x ∧ x < Bd) : Dp8 w g p W'.heap.size cap A n c L1 v1 W' := by
  have ho := h.old
  have hsl := h.src.2.1
  have hdb := h.db.grown hg (fun e => by have := hr p e.symm; omega)
  exact ⟨h.src.keep hg.size (fun o => hg.cell_far ⟨g, o, none⟩ hsl (fun e => by have := hr g e.symm; omega)) (fun o => hg.frozen_far ⟨g, o, none⟩ hsl (fun e => by have := hr g e.symm; omega)) (fun x hx => hg.cell_far x (by omega) (fun e => by have := hr _ e.symm; omega)),
    hdb, hw, h.bel.grown hg h.bel.size (fun x e => by have := hr x e; omega), ho.1, ho.2.1, hdb.lt, Nat.le_refl _⟩
theorem Re8.row {lo q d : Nat} {D : Option Addr} {row : Option Nat} (k : Re8 lo q cap D d L W) (hg : W.grownBy W' row) (hr : ∀ x, row = some x → x < lo ∧ x < q) : Re8 lo q cap D d L W' :=
  ⟨k.db.grown hg (fun e => by have := hr q e.symm; omega), (k.ls.growno (Nat.le_refl _) hg (fun x e => ob_nw k.nw (hr x e).1)).more hg.size, k.nw⟩
end
/-- A box of a message. -/
structure Mb8 (W : World) (m : Nat) (M : Msg) : Prop where
  lt : m < W.heap.size
  c7 : C7 W m 0 M
theorem Mb8.up {W W' : World} {m : Nat} {M : Msg} (h : Mb8 W m M) (hb : Below W.heap.size W W') : Mb8 W' m M := ⟨Nat.lt_of_lt_of_le h.lt hb.size, h.c7.below hb h.lt⟩
theorem Mb8.start (W : World) (M : Msg) (t : TypeId) : Mb8 (W.alloc (.cells M.cs t)) W.heap.size M := ⟨by simp, by simp [C7, Msg.cs, go_sem]⟩
theorem ls_box8 (W : World) (M : Msg) (t : TypeId) : Ls (W.alloc (.cells #[.int .i64 M.id, .int .i64 M.rt, .int .i64 M.ep, .int .i64 M.ct, .int .i64 M.gn, .int .i64 M.st, .string M.bd] t)) (W.alloc (.cells #[.int .i64 M.id, .int .i64 M.rt, .int .i64 M.ep, .int .i64 M.ct, .int .i64 M.gn, .int .i64 M.st, .string M.bd] t)).heap.size (.slice (some ⟨W.heap.size, 0, none⟩) 1 1) [M] := ls_one8 W M t
set_option maxHeartbeats 32000000 in
set_option maxRecDepth 20000 in
theorem DeadOrder_walk (w : World) (a0 : Option Addr) (l0 c0 : Nat) (zs : List Int) (hz : Ns w w.heap.size (.slice a0 l0 c0) zs) :
    Calls Try.prog 5 #[.slice a0 l0 c0] w fun e w' => e = .returned (.bool true) ∧ Below w.heap.size w w' := by
  have HN := Lib.hid (new_src a0 l0 c0 zs w hz)
  have HAW := Lib.hid (fun W => awake8_any W)
  obtain ⟨i0, hi0, hz0⟩ := Option.map_eq_some_iff.1 info_m8
  simp only [Prod.mk.injEq] at hz0
  have HI := Lib.hid hi0
  have HZ := Lib.hid hz0
  clear hz hi0 hz0
  go_enter Try.func5, Try.ntmps5
  go_wp2_with fail
  refine HN.out.mono ?_
  rintro e w1 ⟨g, rfl, hs, hb⟩
  have HW1 := Lib.hid hb
  have HS1 := Lib.hid hs
  clear hb hs HN
  go_wp2_with fail
  refine (range_any w.heap.size g _ HS1.out 1 24 (by omega) (by omega) (by omega)).mono ?_
  rintro e w2 ⟨cap, rfl, k1, k2, hs, hg⟩
  have HC := Lib.hid (And.intro k1 k2)
  have HS2 := Lib.hid hs
  have HW2 := Lib.hid (below_only HW1.out hg HS1.out.1 (Nat.le_refl _))
  have HG := Lib.hid (show w.heap.size ≤ g from HS1.out.1)
  clear hs hg HS1 HW1
  go_wp2_with fail
  refine (show Calls Try.prog 7 #[.int .i64 cap] w2 (N8 w2 cap 0) by
    have := new8_any cap w2
    rwa [show nw8 cap = cap from if_pos (wi_true k1 k2), show nw8E cap = 0 from if_pos (wi_true k1 k2)] at this).mono ?_
  rintro e w3 ⟨rfl, hb⟩
  have H3 := Lib.hid (show Do8 w g w3.heap.size (w3.heap.size + 1) cap none 0 [] (.slice none 0 0) (w3.alloc (.cells #[.int .i64 cap, .slice none 0 0] 24)) from
    ⟨⟨(HS2.out.below hb).alloc _, DB.fresh w3 cap none 0 0 _, Wn.nil, (HW2.out.trans (hb.mono HW2.out.size)).alloc (by have := HW2.out.size; have := hb.size; omega) _, HG.out, (HS2.out.below hb).2.1, by omega, by simp⟩, Ls.nil, nw_none⟩)
  clear hb HS2 HW2
  go_wp2
  obtain ⟨p, hp⟩ : ∃ p, p = w3.heap.size := ⟨_, rfl⟩
  obtain ⟨B0, hB⟩ : ∃ B, B = w3.heap.size + 1 := ⟨_, rfl⟩
  rw [← hB, ← hp] at H3
  rw [← hp]
  clear hp hB
  generalize w3.alloc (.cells #[.int .i64 cap, .slice none 0 0] 24) = w4 at *
  go_loopw [6, 7] (fun v iv wr => ∃ (i Bd : Nat) (A : Option Addr) (c : Nat) (L : List Msg), iv = .int .i64 i ∧ 1 ≤ i ∧ i ≤ 30 ∧ Ok8 cap L ∧ (∀ N ∈ L, N.id < i) ∧ Do8 w g p Bd cap A c L v wr) (fun _ iv _ => 30 - (intOf iv).toNat)
  case atStart => exact ⟨1, B0, none, 0, [], rfl, by omega, by omega, ⟨HC.out.1, HC.out.2, by simpa using (show (0 : Int) ≤ cap by have := HC.out; omega), by simp, by rintro ⟨i, _, h, _⟩; simp at h⟩, by simp, H3.out⟩
  case round =>
    rename_i v6
    obtain ⟨i, Bd, A, c, L, rfl, i1, i2, hok, hids, hh⟩ := hrel
    have HOK := Lib.hid hok
    have HID := Lib.hid hids
    have HH := Lib.hid hh
    clear hok hids hh H3
    obtain ⟨Av, cv, rfl⟩ := HH.out.dp.wn.form
    have HL24 := Lib.hid (show L.length ≤ 24 by have := HOK.out.len; have := HC.out.2; omega)
    go_upto_region 7 with (fail)
    go_cut [35] (fun s35 wx => ∃ b : Bool, s35 = .bool b ∧ (b = true → i < 30) ∧ Hid (Do8 w g p Bd cap A c L (.slice Av L.length cv) wx))
    case first =>
      by_cases h30 : i < 30
      · have h30' : (i : Int) < 30 := by omega
        by_cases h4 : i < 4
        · have h4' : (i : Int) < 4 := by omega
          go_wp2_with fail
          go_meet
          exact ⟨true, rfl, fun _ => h30, HH⟩
        · have h4' : ¬ (i : Int) < 4 := by omega
          go_wp2_with fail
          refine (more_any w.heap.size g _ HH.out.dp.src).mono ?_
          rintro e w5 ⟨b, rfl, hs, hg⟩
          have H5 := Lib.hid (HH.out.turn hs hg)
          clear hs hg
          go_wp2_with fail
          go_meet
          exact ⟨b, rfl, fun _ => h30, H5⟩
      · have h30' : ¬ (i : Int) < 30 := by omega
        go_wp2_with fail
        go_meet
        exact ⟨false, rfl, (fun h => by cases h), HH⟩
    case rest =>
      clear HH
      obtain ⟨b, rfl, hb30, HH⟩ := hcut
      cases b with
      | false =>
        clear hb30
        go_wp2_with fail
        refine (HAW.out _).mono ?_
        rintro e w7 ⟨rfl, hb⟩
        have HF := Lib.hid (HH.out.below hb)
        clear hb
        go_wp2
        go_ret
        exact ⟨rfl, HF.out.dp.bel⟩
      | true =>
        have h30 := hb30 rfl
        clear hb30
        go_wp2_with fail
        refine (n_any w.heap.size g _ HH.out.dp.src 3 (by omega) (by omega)).mono ?_
        rintro e w5 ⟨y, rfl, _, _, hs, hg⟩
        have H5 := Lib.hid (HH.out.turn hs hg).now
        clear hs hg HH
        by_cases hy : 0 < y
        · go_wp2_with fail
          refine (message_any w.heap.size g _ H5.out.dp.src (i : Int) 0 65535).mono ?_
          rintro e w6 ⟨M, rfl, m1, m2, m3, m4, m5, m6, m7, hs, hg⟩
          have HM7 := Lib.hid (show vf M = 0 ∧ M.id = (i : Int) from ⟨msg_ok8 m1 m2 m3 m4 m5 m6 m7 (by omega) (by omega), m1⟩)
          have H6 := Lib.hid ((H5.out.turn hs hg).below ((Below.refl _ _).alloc (Nat.le_refl _) (.cells #[.int .i64 M.id, .int .i64 M.rt, .int .i64 M.ep, .int .i64 M.ct, .int .i64 M.gn, .int .i64 M.st, .string M.bd] 37)))
          have HB6 := Lib.hid (show Mb8 (w6.alloc (.cells #[.int .i64 M.id, .int .i64 M.rt, .int .i64 M.ep, .int .i64 M.ct, .int .i64 M.gn, .int .i64 M.st, .string M.bd] 37)) w6.heap.size M from Mb8.start w6 M _)
          have H56 := Lib.hid hg.size
          clear m1 m2 m3 m4 m5 m6 m7 hs hg
          go_upto_region 11 with (fail)
          obtain ⟨m, hm⟩ : ∃ m, m = w6.heap.size := ⟨_, rfl⟩
          have HMP := Lib.hid (show p < m ∧ w5.heap.size ≤ m by have := H5.out.dp.db.lt; have := H56.out; omega)
          rw [← hm] at HB6
          rw [← hm]
          clear hm H56
          generalize w6.alloc (.cells #[.int .i64 M.id, .int .i64 M.rt, .int .i64 M.ep, .int .i64 M.ct, .int .i64 M.gn, .int .i64 M.st, .string M.bd] 37) = w7 at *
          have HL1 := Lib.hid (ls_box8 w7 M 37)
          have H7 := Lib.hid (H6.out.below ((Below.refl _ _).alloc (Nat.le_refl _) (.cells #[.int .i64 M.id, .int .i64 M.rt, .int .i64 M.ep, .int .i64 M.ct, .int .i64 M.gn, .int .i64 M.st, .string M.bd] 37)))
          have HB7 := Lib.hid (HB6.out.up ((Below.refl _ _).alloc (Nat.le_refl _) (.cells #[.int .i64 M.id, .int .i64 M.rt, .int .i64 M.ep, .int .i64 M.ct, .int .i64 M.gn, .int .i64 M.st, .string M.bd] 37)))
          obtain ⟨t0, t1, tl⟩ := H6.out.dp.db.facts
          obtain ⟨x0, x1, x2, x3, x4, x5, x6⟩ := HB6.out.c7
          have xl := HB6.out.lt
          by_cases hlc : (L.length : Int) < cap
          · have HG2 := Lib.hid (pu8_good HOK.out hlc HM7.out.1 (fun N hN => by have := HID.out N hN; have := HM7.out.2; omega)).2
            have HID2 := Lib.hid (show ∀ N ∈ L ++ [M], N.id < ((i + 1 : Nat) : Int) from fun N hN => by
              rcases List.mem_append.1 hN with h | h
              · have := HID.out N h; omega
              · simp at h; subst h; have := HM7.out.2; omega)
            have HPU := Lib.hid (put8_good cap A c L (some ⟨w7.heap.size, 0, none⟩) 1 M _ HOK.out hlc HM7.out.1 (fun N hN => by have := HID.out N hN; have := HM7.out.2; omega) H7.out.here HL1.out)
            have HLO := Lib.hid (show w5.heap.size ≤ (w7.alloc (.cells #[.int .i64 M.id, .int .i64 M.rt, .int .i64 M.ep, .int .i64 M.ct, .int .i64 M.gn, .int .i64 M.st, .string M.bd] 37)).heap.size by have := H7.out.dp.old.2.2.2; omega)
            obtain ⟨Y, hY⟩ : ∃ Y, Y = L ++ [M] := ⟨_, rfl⟩
            rw [← hY] at HG2 HPU HID2
            have HYY := Lib.hid hY
            clear hY
            go_wp2_with fail
            clear t0 t1 tl x0 x1 x2 x3 x4 x5 x6 xl
            refine HPU.out.mono ?_
            rintro e w8 ⟨D, d, rfl, hn, hl, hb⟩
            have H8 := Lib.hid ((H7.out.dp.below hb).below ((Below.refl _ _).alloc (Nat.le_refl _) (.cells #[.int .i64 cap, .slice D Y.length d] 24)))
            have HM8 := Lib.hid ((HB7.out.up hb).up ((Below.refl _ _).alloc (Nat.le_refl _) (.cells #[.int .i64 cap, .slice D Y.length d] 24)))
            have HX8 := Lib.hid (Re8.start (C := cap) 24 hl hn)
            obtain ⟨lo, hlo⟩ : ∃ lo, lo = (w7.alloc (.cells #[.int .i64 M.id, .int .i64 M.rt, .int .i64 M.ep, .int .i64 M.ct, .int .i64 M.gn, .int .i64 M.st, .string M.bd] 37)).heap.size := ⟨_, rfl⟩
            have HLX := Lib.hid (show lo ≤ w8.heap.size by rw [hlo]; exact hb.size)
            rw [← hlo] at HX8 HLO
            clear hn hl hb hlo HPU HL1 H7 HB7 H6 HB6
            obtain ⟨t0, t1, tl⟩ := H8.out.db.facts
            go_upto_region 15 with (fail)
            obtain ⟨x, hx⟩ : ∃ x, x = w8.heap.size := ⟨_, rfl⟩
            rw [← hx] at HX8 HLX
            rw [← hx]
            clear hx t0 t1 tl
            generalize w8.alloc (.cells #[.int .i64 cap, .slice D Y.length d] 24) = w9 at *
            have HD9 := Lib.hid (show Below w9.heap.size w9 (w9.drew.alloc (.cells #[.int .i64 M.id, .int .i64 M.rt, .int .i64 M.ep, .int .i64 M.ct, .int .i64 M.gn, .int .i64 M.st, .string M.bd] 37)) from (Below.refl _ _).drew.alloc (Nat.le_refl _) _)
            have HDA := Lib.hid (H8.out.below HD9.out)
            have HXA := Lib.hid (HX8.out.below HD9.out)
            have HNE := Lib.hid (show ¬ p = x ∧ ¬ x = p ∧ p < lo by have := HMP.out; have := HLO.out; have := HLX.out; have := H8.out.old; omega)
            obtain ⟨b0, b1, bl⟩ := HX8.out.db.facts
            obtain ⟨x0, x1, x2, x3, x4, x5, x6⟩ := HM8.out.c7
            have xl := HM8.out.lt
            obtain ⟨n1, n2, n3⟩ := HNE.out
            go_region_law (refine step_append_wn _ (by rfl) _ _ _ (by rfl) 37 i0 _ 64 Try.underlying22 HI.out HZ.out.1 HZ.out.2.1 HZ.out.2.2 rfl (p + 1) w5.heap.size Av cv L (by rfl) HDA.out.wn (Nat.le_trans HDA.out.old.2.2.1 HDA.out.old.2.2.2) HDA.out.old.2.2.2 ⟨w9.heap.size, 0, none⟩ 1 M (by rfl) (fun j u hu => msg_row8 w9.drew M 37 j u hu) (by have := HL24.out; unfold maxLen; omega) (by have := HL24.out; omega) ?_; intro v10 w10 hwn hgr; obtain ⟨row, hgr, hrow⟩ := hgr; have HWN := Lib.hid (show Wn w10 (p + 1) w10.heap.size v10 Y by rw [HYY.out]; exact hwn); have HP10 := Lib.hid (HDA.out.row HWN.out hgr hrow); have HX10 := Lib.hid (HXA.out.row hgr (fun y e => by have := hrow y e; have := HLO.out; have := HLX.out; omega)); obtain ⟨z0, z1, zl, g0, g1⟩ := HP10.out.db.all; obtain ⟨y0, y1, yl⟩ := HX10.out.db.facts; clear hwn hgr hrow)
            all_goals
              have HF := Lib.hid (HP10.out.put HX10.out HNE.out.2.2 HWN.out)
              clear b0 b1 bl x0 x1 x2 x3 x4 x5 x6 xl n1 n2 n3 z0 z1 zl g0 g1 y0 y1 yl
              go_wp2
              go_roundw
              case rel => exact ⟨i + 1, _, D, d, Y, by go_num, by omega, by omega, HG2.out, HID2.out, HF.out⟩
              case measure => simp [intOf]; omega
          · have HPU := Lib.hid (put8_bad cap A c L (some ⟨w7.heap.size, 0, none⟩) 1 M _ HOK.out hlc H7.out.here HL1.out)
            go_wp2_with fail
            clear t0 t1 tl x0 x1 x2 x3 x4 x5 x6 xl
            refine HPU.out.mono ?_
            rintro e w8 ⟨D, d, rfl, hn, hl, hb⟩
            have H8 := Lib.hid ((H7.out.below hb).below ((Below.refl _ _).alloc (Nat.le_refl _) (.cells #[.int .i64 0, .slice D 0 d] 24)))
            clear hn hl hb
            obtain ⟨t0, t1, tl⟩ := H8.out.dp.db.facts
            go_wp2
            clear t0 t1 tl
            go_roundw
            case rel => exact ⟨i + 1, _, A, c, L, by go_num, by omega, by omega, HOK.out, fun N hN => by have := HID.out N hN; omega, H8.out⟩
            case measure => simp [intOf]; omega
        · obtain rfl : y = 0 := by omega
          clear hy
          go_wp2_with fail
          refine (n_any w.heap.size g _ H5.out.dp.src 4 (by omega) (by omega)).mono ?_
          rintro e w6 ⟨k, rfl, k1, k2, hs, hg⟩
          obtain ⟨k, rfl⟩ := Int.eq_ofNat_of_zero_le k1
          have H6 := Lib.hid (H5.out.turn hs hg).now
          clear hs hg H5
          obtain ⟨m, hm⟩ : ∃ m, m = min k L.length := ⟨_, rfl⟩
          have HTM := Lib.hid (show L.take k = L.take m by rw [hm, List.take_eq_take_iff]; omega)
          have HDM := Lib.hid (show L.drop k = L.drop m by
            rcases Nat.le_total k L.length with h | h
            · rw [hm, Nat.min_eq_left h]
            · rw [hm, Nat.min_eq_right h, List.drop_eq_nil_of_le h, List.drop_eq_nil_of_le (Nat.le_refl _)])
          have HMN := Lib.hid (show min (k : Int) (L.length : Int) = (m : Int) by rw [hm]; omega)
          have HML := Lib.hid (show m ≤ L.length by rw [hm]; omega)
          have HTK := Lib.hid (take8_good cap A c L k _ HOK.out H6.out.here)
          rw [HTM.out, HDM.out] at HTK
          have HOK2 := Lib.hid (HOK.out.sub (List.drop_sublist m L))
          have HID2 := Lib.hid (show ∀ N ∈ L.drop m, N.id < ((i + 1 : Nat) : Int) from fun N hN => by have := HID.out N (List.mem_of_mem_drop hN); omega)
          have HRL := Lib.hid (show (L.drop m).length = L.length - m from List.length_drop)
          have HTL := Lib.hid (show (L.take m).length = m by rw [List.length_take]; have := HML.out; omega)
          have HCV := Lib.hid (show L.length ≤ cv by obtain ⟨_, _, e, h, _⟩ := H6.out.dp.wn; injection e with _ _ e; omega)
          have HUP := Lib.hid (run_lupto Av L.length cv .i64 m (by have := HCV.out; have := HML.out; omega))
          obtain ⟨A', hA', hcut⟩ := run_lcut Av L.length cv .i64 m HML.out
          have HCT := Lib.hid hcut
          have HWU := Lib.hid (fun W (h : Dp8 w g p w6.heap.size cap A L.length c L (.slice Av L.length cv) W) => (h.wn.upto m HML.out).ls)
          have HWC := Lib.hid (fun W (h : Dp8 w g p w6.heap.size cap A L.length c L (.slice Av L.length cv) W) => show Wn W (p + 1) w6.heap.size (.slice A' (L.length - m) (cv - m)) (L.drop m) by rw [hA']; exact h.wn.cutk m HML.out)
          clear hm hA' hcut HTM HDM
          generalize L.drop m = R at *
          generalize L.take m = T at *
          obtain ⟨t0, t1, tl⟩ := H6.out.dp.db.facts
          go_wp2_with fail
          clear t0 t1 tl
          refine HTK.out.mono ?_
          rintro e w7 ⟨A1, c1, A2, c2, rfl, hn, hn2, hl, hl2, hb⟩
          have H7 := Lib.hid ((H6.out.dp.below hb).below ((Below.refl _ _).alloc (Nat.le_refl _) (.cells #[.int .i64 cap, .slice A1 R.length c1] 24)))
          have HX7 := Lib.hid (Re8.start (C := cap) 24 hl hn)
          have HT7 := Lib.hid ((hl2.alloc (Nat.le_refl _) (.cells #[.int .i64 cap, .slice A1 R.length c1] 24)).more (show w7.heap.size ≤ (w7.alloc (.cells #[.int .i64 cap, .slice A1 R.length c1] 24)).heap.size by simp))
          have HPL := Lib.hid (show p < w6.heap.size from H6.out.dp.db.lt)
          have HXP := Lib.hid (show p < w7.heap.size from (H6.out.dp.below hb).db.lt)
          clear hn hn2 hl hl2 hb H6 HTK
          have hmn := HMN.out
          have hup := HUP.out
          have hmc : (m : Int) ≤ (cv : Int) := by have := HCV.out; have := HML.out; omega
          have hml : (m : Int) ≤ (L.length : Int) := by have := HML.out; omega
          have hTL := HTL.out
          go_wp2_with fail
          clear hmn hup hTL
          obtain ⟨x, hx⟩ : ∃ x, x = w7.heap.size := ⟨_, rfl⟩
          rw [HTL.out] at HT7
          rw [← hx] at HX7 HXP
          rw [← hx]
          clear hx
          generalize w7.alloc (.cells #[.int .i64 cap, .slice A1 R.length c1] 24) = w8 at *
          refine (rsame_yes A2 Av m m c2 cv T w8 _ _ HT7.out (HWU.out _ H7.out)).mono ?_
          rintro e w9 ⟨rfl, hb⟩
          have H9 := Lib.hid (H7.out.below hb)
          have HX9 := Lib.hid (HX7.out.below hb)
          clear hb H7 HX7 HT7 HWU HUP
          go_upto_region 21 with (fail)
          clear hmc hml
          obtain ⟨r, hr⟩ : ∃ r, r = L.length - m := ⟨_, rfl⟩
          obtain ⟨rc, hrc⟩ : ∃ rc, rc = cv - m := ⟨_, rfl⟩
          rw [← hr, ← hrc] at HCT HWC
          rw [← hr] at HRL
          have HF := Lib.hid ((H9.out.put HX9.out HPL.out (HWC.out _ H9.out)).below (Below.refl _ _).drew)
          have HRM := Lib.hid (fun W (h : Do8 w g p w9.heap.size cap A1 c1 R (.slice A' r rc) W) => show Calls Try.prog 22 #[.agg #[.int .i64 cap, .slice A1 R.length c1]] W (V8 W (cap - (r : Int))) by rw [← HRL.out]; exact room8_good cap A1 c1 R W HOK2.out h.here)
          have HR24 := Lib.hid (show r ≤ 24 by have := HL24.out; omega)
          have HC2 := Lib.hid HC.out
          clear hr hrc HWC
          obtain ⟨b0, b1, bl⟩ := HX9.out.db.facts
          obtain ⟨t0, t1, tl, g0, g1⟩ := H9.out.db.all
          obtain ⟨n1, n2⟩ : ¬ p = x ∧ ¬ x = p := by have := HXP.out; omega
          have hcut := HCT.out
          have hml : (m : Int) ≤ (L.length : Int) := by have := HML.out; omega
          have hmc : (m : Int) ≤ (cv : Int) := by have := HCV.out; have := HML.out; omega
          go_region
          all_goals
            clear b0 b1 bl t0 t1 tl g0 g1 n1 n2 hcut hml hmc HCT H9 HX9
            generalize ((w9.setCell ⟨p, 0, none⟩ (.int .i64 cap)).setCell ⟨p, 1, none⟩ (.slice A1 R.length c1)).drew = w10 at *
            have HMA := Lib.hid (HF.out.below (Below.refl _ _).drew)
            have HSA := Lib.hid (show w10.drew.cell? ⟨p, 0, none⟩ = some (.int .i64 cap) ∧ w10.drew.cell? ⟨p, 1, none⟩ = some (.slice A1 R.length c1) from ⟨HMA.out.dp.db.c0, HMA.out.dp.db.c1⟩)
            have hwr : IntKind.i64.wrap (cap - (r : Int)) = cap - (r : Int) := IntWalk.i64_in _ (by have := HC2.out; have := HR24.out; omega)
            have hq : (cap - (r : Int) != cap - (r : Int)) = false := by simp
            go_wp2_with fail
            go_region_held3 (fun W => W.cell? ⟨p, 0, none⟩ = some (.int .i64 cap) ∧ W.cell? ⟨p, 1, none⟩ = some (.slice A1 R.length c1))
              (first | with_reducible exact HSA.out | with_reducible exact HSB.out)
              (first
              | (go_at_call 22; (with_reducible refine (HRM.out _ HMA.out).mono ?_); rintro e w11 ⟨rfl, hb⟩; have HMB := Lib.hid (HMA.out.below hb); have HSB := Lib.hid (show w11.cell? ⟨p, 0, none⟩ = some (.int .i64 cap) ∧ w11.cell? ⟨p, 1, none⟩ = some (.slice A1 R.length c1) from ⟨HMB.out.dp.db.c0, HMB.out.dp.db.c1⟩); clear hb))
            have HG := Lib.hid HMB.out
            clear HSA HSB HMA HMB hwr hq
            go_wp2
            go_roundw
            case rel => exact ⟨i + 1, _, A1, c1, R, by go_num, by omega, by omega, HOK2.out, HID2.out, HG.out⟩
            case measure => simp [intOf]; omega

/-! The row's step, as the guide's shell has it. -/
namespace deadOrder
open Go.ChangeShapes Go.WideShapes Go.ChangeAt
open Go.ChangeMaps (open_string shut_string)
theorem own : ownKnob Try.prog.godebug = none := by kernel_rfl
theorem laidOut : laidOutB Try.prog = true := by kernel_rfl

set_option maxRecDepth 100000 in
theorem lifted (os : Os) (started : os.Started) (H : Type) (enc : TypeId × Value → H) :
    ReturnsInHanded {} Try.checked os 5 .any (Rows.deadOrderSpec.pre6 enc Try.prog Try.f5 Rows.deadOrderRow.domain false) (Rows.deadOrderSpec.post enc Try.prog Try.f5 false true false false) := by
  refine returnsInHanded_of_change (C := Try.checked) own started (by kernel_rfl) Try.func5
    (ChangeSpec.witness6 (enc := enc) (C := Try.checked) false ⟨#[], #[.slice none 0 0], []⟩ 8 (by kernel_rfl) (by kernel_rfl) (by kernel_rfl) (by kernel_rfl)) ?_
  intro W base args ds gs before hval0 hW hcnd _
  have hval : ∀ (j : Nat) t v, Try.f5.params[j]? = some t → args[j]? = some v → Value.okWide Try.prog W .any base t v := hval0
  have hW' := hW
  obtain ⟨p, q, hA0, hV, rfl, hfz, hnd⟩ := hW
  have hA : DataW.TrodAll enc Try.prog W 0 (fun _ => true) true Try.f5.params.toList args.toList ds p := hA0
  rw [Try.params5] at hA hval
  obtain ⟨v0, vs0, d0, ds0, p0, q0, hargs, rfl, rfl, h0, r0⟩ := trodAll_cons hA
  obtain ⟨rfl, rfl, rfl⟩ := trodAll_nil r0
  obtain rfl : args = #[v0] := by cases args; simp_all
  obtain ⟨rfl, rfl⟩ := trodVars_none hV
  obtain ⟨a0, len0, cap0, rfl⟩ := okWide_slice Try.underlying31 (hval 0 31 v0 rfl rfl)
  have k0 := h0
  have lt0 : ∀ x ∈ p0, x.block < W.heap.size := by obtain ⟨m, hm⟩ := k0; exact DataW.trod_lt m _ _ _ hm
  obtain ⟨z0, w0⟩ : ∃ zs, Ns W W.heap.size (.slice a0 len0 cap0) zs := by
    obtain ⟨fuel, hf⟩ := h0
    rcases open_ints Try.underlying31 Try.underlying3 (by kernel_rfl) hf with ⟨hcs, _⟩ | ⟨x, l, c, zs, hcs, _, hl, hm, hz, _, hcell, hwz⟩
    · simp [Value.cells] at hcs
      obtain ⟨rfl, rfl, rfl⟩ := hcs
      exact ⟨[], Ns.nil⟩
    · simp [Value.cells] at hcs
      obtain ⟨rfl, rfl, rfl⟩ := hcs
      exact Ns.of_cells hl hm (by simpa using hz) hcell hwz
  clear hA0 hval0
  refine (DeadOrder_walk W a0 len0 cap0 z0 w0).mono fun e W' ⟨he, bel⟩ => ?_
  subst he
  exact ⟨_, rfl, _, _, _, [], _, [], hW', trodAll_mk1 (shut_bool Try.underlying4 _), (trodAll_cons_mk (Below.trod laidOut (by kernel_rfl) (of_decide_eq_true (by kernel_rfl)) k0 bel lt0) trodAll_mk0), rfl, bel.frame _, fun h => by cases h⟩

theorem over : Rows.deadOrderRow.holds Try.pinned (OpenSpec.ofChange Rows.deadOrderSpec) :=
  OpenClaim.holds_of_wide 5 Try.f5 rfl rfl rfl rfl rfl rfl rfl ⟨rfl, rfl, rfl, rfl, rfl⟩ rfl rfl rfl rfl rfl (by kernel_rfl) Try.func5 (by kernel_rfl)
    (of_decide_eq_true (by kernel_rfl)) (by unfold Func.isWrapper; first | (rw [if_pos (by decide +kernel)]; kernel_rfl) | (rw [if_neg (by decide +kernel)]; exact ⟨rfl, rfl⟩))
    (fun os started H enc _ => lifted os started H enc)

/-- The statement. -/
theorem proved : Rows.DeadOrderSaid := over
#print axioms proved
end deadOrder
end Go.Proofs.Ytbeafcjbldnkhaa
