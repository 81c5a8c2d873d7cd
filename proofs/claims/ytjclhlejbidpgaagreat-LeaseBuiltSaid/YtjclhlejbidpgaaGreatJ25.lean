/- What is proved here: shardqueueref05.Until by a contract; the reference's Purged of message, by one contract for all arguments; shardqueueref06.Lapsed by a contract. -/
import Derived.Test.YtjclhlejbidpgaaGreatJ23
import Derived.Test.YtjclhlejbidpgaaGreatJ20
import Derived.Deep.AppendLies
import Derived.Test.YtjclhlejbidpgaaGreatJ09
import Derived.Test.YtjclhlejbidpgaaGreatJ24
import Derived.Test.YtjclhlejbidpgaaGreatJ21
import Derived.Test.YtjclhlejbidpgaaGreatJ10
namespace Go.Proofs.YtjclhlejbidpgaaGreat
open Go.RowKit
set_option linter.unusedVariables false

theorem unR_bad {g : List Du} {now : Int} (h : vaF g ≠ 0) : unR g now = [] := if_neg h
theorem unR_nil {g : List Du} {now : Int} (h : g.length = 0) : unR g now = [] := by
  unfold unR
  split
  · rw [unF, dif_neg (fun hc => by omega)]
  · rfl
theorem unR_late {g : List Du} {now : Int} (h : ¬ (ge g 0).dl ≤ now) : unR g now = [] := by
  unfold unR
  split
  · rw [unF, dif_neg (fun hc => h hc.2)]
  · rfl
theorem unR_step {g : List Du} {now : Int} (hv : vaF g = 0) (h0 : 0 < g.length) (h : (ge g 0).dl ≤ now) : unR g now = (ge g 0).id :: unR (cuF g 0) now := by
  unfold unR
  rw [if_pos hv, if_pos (vaF_cut hv h0), unF, dif_pos ⟨h0, h⟩]
/-- The state of Until's loop. -/
structure UnAt (w : World) (A : Option Addr) (n c : Nat) (g : List Du) (v : Value) (acc : List Int) (W : World) : Prop where
  dl : Dl W W.heap.size (.slice A n c) g
  own : W.ownsRow w.heap.size 3 1 v acc.length (acc.map i64v)
  off : ∀ q, v.ownBlock = some q → ∀ a, A = some a → a.block ≠ q
  bel : Below w.heap.size w W
theorem own_up {W W' : World} {base n : Nat} {e : TypeId} {size : Nat} {v : Value} {xs : List Value} (h : W.ownsRow base e size v n xs) (hb : Below W.heap.size W W') : W'.ownsRow base e size v n xs := by
  rcases h.2 with ⟨hv, h0⟩ | ⟨q, cap, cur, hv, hq, hh, r⟩
  · exact ⟨h.1, .inl ⟨hv, h0⟩⟩
  · exact ⟨h.1, .inr ⟨q, cap, cur, hv, hq, (hb.block q (Array.getElem?_eq_some_iff.1 hh).1).trans hh, r⟩⟩
theorem Dl.keepb {w w' : World} {B : Nat} {A : Option Addr} {n c : Nat} {l : List Du} (h : Dl w B (.slice A n c) l) (hk : ∀ a, A = some a → ∀ o, w'.cell? ⟨a.block, o, none⟩ = w.cell? ⟨a.block, o, none⟩) : Dl w' B (.slice A n c) l := by
  obtain ⟨A', c', e, hl, hm, hr⟩ := h
  injection e with e1 e2 e3
  subst e1; subst e3
  refine ⟨A, c, by rw [e2], hl, hm, hr.1, fun h0 => ?_⟩
  obtain ⟨b, o, e, hb, hc⟩ := hr.2 h0
  exact ⟨b, o, e, hb, fun j u hu => (hk _ e (o + j)).trans (hc j u hu)⟩
theorem UnAt.below {w W W' : World} {A : Option Addr} {n c : Nat} {g : List Du} {v : Value} {acc : List Int} (h : UnAt w A n c g v acc W) (hb : Below W.heap.size W W') : UnAt w A n c g v acc W' := by
  exact ⟨h.dl.up hb, own_up h.own hb, h.off, h.bel.trans (hb.mono h.bel.size)⟩
/-- One round. -/
theorem UnAt.next {w w1 w4 w5 : World} {b o n c g6 cap6 : Nat} {g : List Du} {v : Value} {acc : List Int} {x : Int} {A5 : Option Addr} {n5 c5 : Nat} {l5 : List Du} (h : UnAt w (some ⟨b, o, none⟩) n c g v acc w1) (hbl : b < w1.heap.size) {ob : Obj}
    (hown : w4.ownsRow w.heap.size 3 1 (.slice (some ⟨g6, 0, none⟩) (acc.length + 1) cap6) (acc.length + 1) (acc.map i64v ++ [i64v x])) (hg : (w1.alloc ob).grownBy w4 v.ownBlock) (hlt : g6 < w4.heap.size) :
    Dl w4 w4.heap.size (.slice (some ⟨b, o, none⟩) n c) g ∧ (Nw w4.heap.size A5 → Dl w5 w5.heap.size (.slice A5 n5 c5) l5 → Below w4.heap.size w4 w5 → UnAt w A5 n5 c5 l5 (.slice (some ⟨g6, 0, none⟩) (acc.length + 1) cap6) (acc ++ [x]) w5) := by
  have hne : some b ≠ v.ownBlock := fun e => h.off b e.symm _ rfl rfl
  have hsz : w1.heap.size ≤ w4.heap.size := by have := hg.size; simp at this; omega
  have hb4 : Below w.heap.size w w4 := (h.bel.alloc h.bel.size ob).grown hg (by have := h.bel.size; simp; omega) (fun k e => (h.own.lt k e).1)
  refine ⟨((h.dl.alloc (Nat.le_refl _) ob).keepb fun a e o' => ?_).more hsz, fun hnw hd hb => ⟨hd, ?_, fun q e a ea => ?_, hb4.trans (hb.mono hb4.size)⟩⟩
  · injection e with e
    subst e
    exact hg.cell_far ⟨b, o', none⟩ (by simp; omega) hne
  · have h2 := own_up hown hb
    rw [List.map_append, List.length_append]
    exact h2
  · have := hnw a ea
    simp [Value.ownBlock] at e
    omega

set_option maxHeartbeats 8000000 in
set_option maxRecDepth 20000 in
theorem runtil_any (A : Option Addr) (n c : Nat) (l : List Du) (now : Int) (w : World) (hv : Dl w w.heap.size (.slice A n c) l) :
    Calls Tryz.prog 43 #[.slice A n c, .int .i64 now] w (NrP w (unR l now)) := by
  have HU := Lib.hid (show UnAt w A n c l (.slice none 0 0) [] w from ⟨hv, World.ownsRow_nil _ _ _ _, fun q e => by simp [Value.ownBlock] at e, Below.refl _ _⟩)
  obtain ⟨i0, hi0, hz0⟩ := Option.map_eq_some_iff.1 info_int5
  simp only [Prod.mk.injEq] at hz0
  have HI := Lib.hid hi0
  have HZ := Lib.hid hz0
  clear hv hi0 hz0
  go_enter Tryz.func43, Tryz.ntmps43
  go_wp2
  go_loopw [0, 5] (fun hv vv wr => ∃ (A' : Option Addr) (n' c' : Nat) (g : List Du) (acc : List Int), hv = .slice A' n' c' ∧ UnAt w A' n' c' g vv acc wr ∧ acc ++ unR g now = unR l now ∧ (acc = [] ∨ acc.length + g.length ≤ 12)) (fun hv _ _ => match hv with | .slice _ k _ => k | _ => 0)
  case atStart => exact ⟨A, n, c, l, [], rfl, HU.out, rfl, .inl rfl⟩
  case round =>
    obtain ⟨A', n', c', g, acc, rfl, hun, hacc, hlen⟩ := hrel
    have HUN := Lib.hid hun
    have HAC := Lib.hid hacc
    have HLE := Lib.hid hlen
    obtain ⟨hn', hm1, hm2⟩ := hun.dl.len
    have HN := Lib.hid (And.intro hn' (And.intro hm1 hm2))
    have HVA := Lib.hid (rvalid5_any A' n' c' g wr hun.dl)
    have hmx : (n' : Int) ≤ 9223372036854775807 := by unfold maxLen at hm2; omega
    clear hun hacc hlen hn' hm1 hm2
    by_cases h0 : vaF g = 0
    · rw [h0] at HVA
      have HV0 := Lib.hid h0
      clear h0
      by_cases hn0 : 0 < n'
      · have hn0' : (0 : Int) < (n' : Int) := by omega
        obtain ⟨b, o, rfl, hbl, c0, c1⟩ := HUN.out.dl.atg (k := 0) (by have := HN.out.1; omega)
        obtain ⟨X, hX⟩ : ∃ X, ge g 0 = X := ⟨_, rfl⟩
        have HX := Lib.hid hX
        rw [hX] at c0 c1
        have HC := Lib.hid (And.intro c0 c1)
        have HBL := Lib.hid hbl
        clear hX c0 c1 hbl
        by_cases hle : X.dl ≤ now
        · have HST := Lib.hid (show unR g now = X.id :: unR (cuF g 0) now by rw [← HX.out]; exact unR_step HV0.out (by have := HN.out.1; omega) (by rw [HX.out]; exact hle))
          have hg12 := (vaF_zero HV0.out).1
          have HAL := Lib.hid (show acc.length + g.length ≤ 12 by rcases HLE.out with e | e; · rw [e]; simpa using hg12
                                                                  · exact e)
          clear hg12
          obtain ⟨m, hm⟩ : ∃ m, n' = m + 1 := ⟨n' - 1, by omega⟩
          subst hm
          have HCU := Lib.hid (fun w1 hv => (show Calls Tryz.prog 74 #[.slice (some ⟨b, o, none⟩) (m + 1) c', .int .i64 0] w1 (DlV w1 (cuF g 0)) from rcut_any (some ⟨b, o, none⟩) m c' 0 g w1 hv (Nat.zero_le _) (by have := HN.out.1; have := HAL.out; omega)))
          go_wp2_with fail
          refine HVA.out.mono ?_
          rintro e w1 ⟨rfl, hb⟩
          have HU1 := Lib.hid (HUN.out.below hb)
          have d0 : w1.cell? ⟨b, o, none⟩ = some (.int .i64 X.dl) := by have := (hb.cell (p := ⟨b, o + 0 * 2, none⟩) HBL.out).trans HC.out.1; simpa using this
          have d1 : w1.cell? ⟨b, o + 1, none⟩ = some (.int .i64 X.id) := by have := (hb.cell (p := ⟨b, o + 0 * 2 + 1, none⟩) HBL.out).trans HC.out.2; simpa using this
          have HO2 := Lib.hid (HU1.out.own.alloc (.cells #[.int .i64 X.id] 3))
          have HN2 := Lib.hid (show ∀ j u, ([i64v X.id] : List Value)[j]? = some u → (w1.alloc (.cells #[.int .i64 X.id] 3)).cell? ((⟨w1.heap.size, 0, none⟩ : Addr).add j) = some u from fun j u hu => by
            rw [add_mk, Nat.zero_add, World.cell?_alloc_new, ← hu]
            simp [i64v])
          have HWS := Lib.hid (show w.heap.size ≤ w1.heap.size from HU1.out.bel.size)
          have HBS := Lib.hid hb.size
          clear hb
          go_wp2_with (at_builtin; refine wpList_append_lies _ rfl _ _ 30 rfl w.heap.size 3 i0 _ 1 8 Tryz.underlying30 HI.out HZ.out.1 HZ.out.2.1 HZ.out.2.2 rfl (by omega) _ acc.length (acc.map i64v) rfl HO2.out ⟨w1.heap.size, 0, none⟩ 1 1 [i64v X.id] rfl rfl HN2.out (by simp [i64v, Value.oneCell']) (by omega) (by have := HAL.out; unfold maxLen; omega) (by have := HAL.out; omega) (by have := HWS.out; simp; omega) _ rfl ?_; intro g6 cap6 w4 hown6 hgrow6 hat6 hlt6; have HNX := Lib.hid (fun w5 A5 n5 c5 l5 => HU1.out.next (w5 := w5) (A5 := A5) (n5 := n5) (c5 := c5) (l5 := l5) (Nat.lt_of_lt_of_le HBL.out HBS.out) hown6 hgrow6 hlt6); clear hown6 hgrow6 hat6 hlt6)
          refine (HCU.out _ (HNX.out w4 none 0 0 []).1).mono ?_
          rintro e w5 ⟨A5, c5, rfl, hnw5, hl5, hb5⟩
          have HU5 := Lib.hid ((HNX.out w5 A5 (cuF g 0).length c5 (cuF g 0)).2 hnw5 hl5 hb5)
          have HCL := Lib.hid (show (cuF g 0).length = m by rw [cuF_len (by have := HN.out.1; omega)]; have := HN.out.1; omega)
          clear hnw5 hl5 hb5 d0 d1
          go_wp2
          go_roundw
          case rel => exact ⟨A5, (cuF g 0).length, c5, cuF g 0, acc ++ [X.id], rfl, HU5.out, by rw [List.append_assoc, ← HAC.out, HST.out]; rfl, .inr (by rw [List.length_append, HCL.out]; have := HAL.out; have := HN.out.1; simp; omega)⟩
          case measure => have := HCL.out; simp; omega
        · have HE := Lib.hid (unR_late (g := g) (now := now) (by rw [HX.out]; exact hle))
          go_wp2_with fail
          refine HVA.out.mono ?_
          rintro e w1 ⟨rfl, hb⟩
          have HU1 := Lib.hid (HUN.out.below hb)
          have d0 : w1.cell? ⟨b, o, none⟩ = some (.int .i64 X.dl) := by have := (hb.cell (p := ⟨b, o + 0 * 2, none⟩) HBL.out).trans HC.out.1; simpa using this
          clear hb
          go_wp2
          go_ret
          exact ⟨_, rfl, by rw [← HAC.out, HE.out, List.append_nil]; exact Nr.of_own HU1.out.own, HU1.out.bel⟩
      · have HE := Lib.hid (unR_nil (g := g) (now := now) (by have := HN.out.1; omega))
        have hn0' : ¬ (0 : Int) < (n' : Int) := by omega
        go_wp2_with fail
        refine HVA.out.mono ?_
        rintro e w1 ⟨rfl, hb⟩
        have HU1 := Lib.hid (HUN.out.below hb)
        clear hb
        go_wp2
        go_ret
        exact ⟨_, rfl, by rw [← HAC.out, HE.out, List.append_nil]; exact Nr.of_own HU1.out.own, HU1.out.bel⟩
    · have HE := Lib.hid (unR_bad (g := g) (now := now) h0)
      have hne : (vaF g == 0) = false := by simpa using h0
      generalize vaF g = x at *
      clear h0
      go_wp2_with fail
      refine HVA.out.mono ?_
      rintro e w1 ⟨rfl, hb⟩
      have HU1 := Lib.hid (HUN.out.below hb)
      clear hb
      go_wp2
      go_ret
      exact ⟨_, rfl, by rw [← HAC.out, HE.out, List.append_nil]; exact Nr.of_own HU1.out.own, HU1.out.bel⟩
end Go.Proofs.YtjclhlejbidpgaaGreat
namespace Go.Proofs.YtjclhlejbidpgaaGreat
open Go.RowKit
set_option linter.unusedVariables false

theorem rpurged_any (M : Msg) (k : Int) (w : World) : Calls Tryz.prog 44 #[M.v, .int .i64 k] w fun e w' => e = .returned (.bool (puF M k)) ∧ Below w.heap.size w w' := by
  have HB := Lib.hid ((Below.refl w.heap.size w).alloc (Nat.le_refl _) (.cells M.cs 27))
  by_cases h : M.ep < k
  · have HF := Lib.hid (show puF M k = true from decide_eq_true h)
    go_enter Tryz.func44, Tryz.ntmps44
    go_wp2
    go_ret
    exact ⟨by rw [HF.out]; rfl, HB.out⟩
  · have HF := Lib.hid (show puF M k = false from decide_eq_false h)
    go_enter Tryz.func44, Tryz.ntmps44
    go_wp2
    go_ret
    exact ⟨by rw [HF.out]; rfl, HB.out⟩
end Go.Proofs.YtjclhlejbidpgaaGreat
namespace Go.Proofs.YtjclhlejbidpgaaGreat
open Go.RowKit
set_option linter.unusedVariables false

theorem RL.set8 {W : World} {r : Nat} {Y : Le} (h : RL W r Y) (X : Le) : El8 (set8 W r 0 X) r X := by
  have hs : ∀ j, j < X.l.length → (W.cell? ⟨r, 0 + j, none⟩).isSome = true := fun j hj => by
    obtain ⟨h0, h1, h2, h3, h4, h5, h6, h7, -⟩ := h
    rw [Nat.zero_add]
    match j, (show j < 8 from hj) with
    | 0, _ => rw [h0]; rfl
    | 1, _ => rw [h1]; rfl
    | 2, _ => rw [h2]; rfl
    | 3, _ => rw [h3]; rfl
    | 4, _ => rw [h4]; rfl
    | 5, _ => rw [h5]; rfl
    | 6, _ => rw [h6]; rfl
    | 7, _ => rw [h7]; rfl
  have g := fun j (hj : j < X.l.length) => World.cell?_setCells_in r X.l 0 W hs j hj
  exact ⟨g 0 (by simp [Le.l]), g 1 (by simp [Le.l]), g 2 (by simp [Le.l]), g 3 (by simp [Le.l]), g 4 (by simp [Le.l]), g 5 (by simp [Le.l]), g 6 (by simp [Le.l]), g 7 (by simp [Le.l]), by have := h.lt; simp; exact this⟩
set_option maxHeartbeats 8000000 in
set_option maxRecDepth 20000 in
theorem rtlapsed_any (A : Option Addr) (n c : Nat) (l : List Le) (A2 : Option Addr) (n2 c2 : Nat) (h : List Du) (now ep : Int) (w : World) (hv : El w w.heap.size (.slice A n c) l) (hd : Dl w w.heap.size (.slice A2 n2 c2) h) :
    Calls Tryz.prog 18 #[tv A n c A2 n2 c2, .int .i64 now, .int .i64 ep] w (NrB w (laV l h now ep)) := by
  obtain ⟨rfl, hm1, hm2⟩ := hv.len
  obtain ⟨rfl, hm3, hm4⟩ := hd.len
  have H0 := Lib.hid (VaA.start 25 hv hd)
  have HV := Lib.hid (fun p W (k : VaA w p A c l A2 c2 h W) => rtvalid_any A l.length c l A2 h.length c2 h W k.el k.dl)
  have HU := Lib.hid (fun p W (k : VaA w p A c l A2 c2 h W) => runtil_any A2 h.length c2 h now W k.dl)
  have HFD := Lib.hid (fun p id W (k : VaA w p A c l A2 c2 h W) => rtFind_any A l.length c l A2 h.length c2 h id W k.el k.dl)
  clear hv hd hm1 hm2 hm3 hm4
  by_cases h0 : tbV l h = 0
  · have t := (tbV_iff l h).1 h0
    have hU12 := (un_in t now).2
    rw [h0] at HV
    rw [laV_kp t]
    generalize unR h now = U at *
    have hUL : U.length ≤ 9223372036854775807 := by omega
    obtain ⟨i0, hi0, hz0⟩ := Option.map_eq_some_iff.1 info_int5
    simp only [Prod.mk.injEq] at hz0
    have HI := Lib.hid hi0
    have HZ := Lib.hid hz0
    clear h0 t hi0 hz0
    go_enter Tryz.func18, Tryz.ntmps18
    obtain ⟨t0, t1, tl⟩ := H0.out.tb
    go_wp2_with fail
    obtain ⟨p, hp⟩ : ∃ p, p = w.heap.size := ⟨_, rfl⟩
    rw [← hp] at H0 ⊢
    clear t0 t1 tl hp
    generalize w.alloc (.cells #[.slice A l.length c, .slice A2 h.length c2] 25) = w1 at *
    refine (HV.out _ _ H0.out).mono ?_
    rintro e w2 ⟨rfl, hb⟩
    have H1 := Lib.hid (H0.out.below hb)
    obtain ⟨t0, t1, tl⟩ := H1.out.tb
    clear hb
    go_wp2_with fail
    clear t0 t1 tl
    refine (HU.out _ _ H1.out).mono ?_
    rintro e w3 ⟨v, rfl, hn, hb⟩
    have H2 := Lib.hid (H1.out.below hb)
    obtain ⟨AU, cU, rfl⟩ := hn.form
    have HN := Lib.hid hn
    clear hb hn
    go_wp2
    go_loopw [7, 9] (fun s7 s9 wr => ∃ j : Nat, j ≤ U.length ∧ s9 = .int .i64 j ∧ Hid (wr.ownsRow w3.heap.size 3 1 s7 (kpI (pgF l h ep) (U.take j)).length ((kpI (pgF l h ep) (U.take j)).map i64v)) ∧ Hid (Below w3.heap.size w3 wr)) (fun _ s9 _ => U.length - (intOf s9).toNat)
    case atStart => exact ⟨0, Nat.zero_le _, rfl, Lib.hid (World.ownsRow_nil _ _ _ _), Lib.hid (Below.refl _ _)⟩
    case round =>
      obtain ⟨j, hj, rfl, HO, HB⟩ := hrel
      by_cases hlt : j < U.length
      · have HKS := Lib.hid (kpI_succ (pgF l h ep) hlt)
        obtain ⟨b, o, rfl, hbw, c0⟩ := (HN.out.below HB.out).at_ hlt
        obtain ⟨x, hx⟩ : ∃ x, U[j] = x := ⟨_, rfl⟩
        rw [hx] at HKS c0
        have HC0 := Lib.hid hx
        have HSK := Lib.hid (fun W (hb : Below w3.heap.size w3 W) => show W.cell? ⟨p, 0, none⟩ = some (.slice A l.length c) ∧ W.cell? ⟨p, 1, none⟩ = some (.slice A2 h.length c2) ∧ W.cell? ⟨b, o + j, none⟩ = some (.int .i64 x) from by
          have k := H2.out.below hb
          refine ⟨k.tb.1, k.tb.2.1, ?_⟩
          obtain ⟨b', o', e', _, c1⟩ := (HN.out.below hb).at_ hlt
          injection e' with e'
          injection e' with e1 e2
          subst e1 e2
          rw [HC0.out] at c1
          exact c1)
        have HFX := Lib.hid (fun W (hb : Below w3.heap.size w3 W) => HFD.out p x W (H2.out.below hb))
        have HPX := Lib.hid (show pgF l h ep x = puF (fnX l h x).m ep from rfl)
        rw [HPX.out] at HKS
        obtain ⟨X, hX⟩ : ∃ X, fnX l h x = X := ⟨_, rfl⟩
        rw [hX] at HFX HKS
        generalize fnO l h x = O at *
        clear hx hX c0 HPX
        have HT0 := Lib.hid (HSK.out wr.drew HB.out.drew)
        have hjU : (j : Int) < (U.length : Int) := by omega
        have HZa := Lib.hid (HB.out.alloc HB.out.size (.cells #[.int .i64 0, .int .i64 0, .int .i64 0, .int .i64 0, .int .i64 0, .int .i64 0, .string ⟨#[]⟩, .int .i64 0] 39))
        have HT1 := Lib.hid (HSK.out _ HZa.out.drew)
        go_wp2
        go_cut [10] (fun s10 wx => ∃ z, s10 = .pointer (some ⟨z, 0, none⟩) ∧ Hid (w3.heap.size ≤ z) ∧ Hid (El8 wx z X) ∧ Hid (Below wr.heap.size wr wx))
        case first =>
          go_region_held3 (fun W => W.cell? ⟨p, 0, none⟩ = some (.slice A l.length c) ∧ W.cell? ⟨p, 1, none⟩ = some (.slice A2 h.length c2) ∧ W.cell? ⟨b, o + j, none⟩ = some (.int .i64 x))
            (first | with_reducible exact HT0.out | with_reducible exact HT1.out | with_reducible exact HT2.out | with_reducible exact HT3.out | with_reducible exact HT4.out)
            (first
            | (go_at_call 20; (with_reducible refine (HFX.out _ HB.out.drew).mono ?_); rintro e w4 ⟨rfl, hb4⟩; have HBR := Lib.hid (drew_bel hb4); have HB4 := Lib.hid (HB.out.trans (HBR.out.mono HB.out.size)); have HT2 := Lib.hid (HSK.out w4 HB4.out); have HB5 := Lib.hid (HB4.out.alloc HB4.out.size (.cells #[.int .i64 0, .int .i64 0, .int .i64 0, .int .i64 0, .int .i64 0, .int .i64 0, .string ⟨#[]⟩, .int .i64 0] 39)); have HT3 := Lib.hid (HSK.out _ HB5.out); have HT4 := Lib.hid (HSK.out _ (HB4.out.alloc HB4.out.size (.cells #[.int .i64 X.m.id, .int .i64 X.m.rt, .int .i64 X.m.ep, .int .i64 X.m.ct, .int .i64 X.m.gn, .int .i64 X.m.st, .string X.m.bd, .int .i64 X.dl] 39))); have HFE := Lib.hid (And.intro HB4.out.size (And.intro (El8.start w4 X 39) (HBR.out.alloc HBR.out.size (.cells #[.int .i64 X.m.id, .int .i64 X.m.rt, .int .i64 X.m.ep, .int .i64 X.m.ct, .int .i64 X.m.gn, .int .i64 X.m.st, .string X.m.bd, .int .i64 X.dl] 39)))); clear hb4)
            | (go_at_call 20; (with_reducible refine (HFX.out _ HZa.out.drew).mono ?_); rintro e w4 ⟨rfl, hb4⟩; have HBZ := Lib.hid (drew_bel hb4); have HB4 := Lib.hid (HZa.out.trans (HBZ.out.mono HZa.out.size)); have HT2 := Lib.hid (HSK.out w4 HB4.out); have HT3 := Lib.hid (HSK.out (set8 w4 wr.heap.size 0 X) (sets_below HB.out.size X.l 0 _ HB4.out)); have HRL := Lib.hid ((RL.start wr zL 39).below HBZ.out (by simp)); have HFE := Lib.hid (And.intro HB.out.size (And.intro (HRL.out.set8 X) (show Below wr.heap.size wr (set8 w4 wr.heap.size 0 X) from sets_below (Nat.le_refl _) X.l 0 _ (((Below.refl wr.heap.size wr).alloc (Nat.le_refl _) (.cells #[.int .i64 0, .int .i64 0, .int .i64 0, .int .i64 0, .int .i64 0, .int .i64 0, .string ⟨#[]⟩, .int .i64 0] 39)).trans (HBZ.out.mono (by simp)))))); obtain ⟨r0, r1, r2, r3, r4, r5, r6, r7, g0, g1, g2, g3, g4, g5, g6, g7, rl⟩ := HRL.out; clear hb4))
          all_goals (go_wp2_with fail; go_meet; exact ⟨_, rfl, Lib.hid HFE.out.1, Lib.hid HFE.out.2.1, Lib.hid HFE.out.2.2⟩)
        case rest =>
          obtain ⟨z, rfl, HZ3, HX, HBX⟩ := hcut
          have HO2 := Lib.hid (own_upL HO.out HBX.out)
          have HB2 := Lib.hid (HB.out.trans (HBX.out.mono HB.out.size))
          obtain ⟨A7, c7, rfl⟩ := own_form HO2.out
          obtain ⟨x0, x1, x2, x3, x4, x5, x6, x7, xl⟩ := HX.out
          have HP := Lib.hid (fun W => rpurged_any X.m ep W)
          cases hp : puF X.m ep with
          | true =>
            rw [hp] at HP
            have HKQ := Lib.hid (show kpI (pgF l h ep) (U.take (j + 1)) = kpI (pgF l h ep) (U.take j) by rw [HKS.out, hp]; simp)
            clear hp HT0 HT1 HZa
            go_wp2_with fail
            clear x0 x1 x2 x3 x4 x5 x6 x7 xl
            refine (HP.out _).mono ?_
            rintro e w5 ⟨rfl, hb⟩
            have HO3 := Lib.hid (own_upL HO2.out hb)
            have HB3 := Lib.hid (HB2.out.trans (hb.mono HB2.out.size))
            clear hb
            go_wp2
            go_roundw
            case rel => exact ⟨j + 1, by omega, by go_num, by rw [HKQ.out]; exact HO3, HB3⟩
            case measure => simp [intOf]; omega
          | false =>
            rw [hp] at HP
            have HKQ := Lib.hid (show kpI (pgF l h ep) (U.take (j + 1)) = kpI (pgF l h ep) (U.take j) ++ [x] by rw [HKS.out, hp]; simp)
            have HKL := Lib.hid (show (kpI (pgF l h ep) (U.take j)).length ≤ 12 from Nat.le_trans (kpI_len _ _ _) (by omega))
            clear hp HT0 HT1 HZa
            go_wp2_with fail
            clear x0 x1 x2 x3 x4 x5 x6 x7 xl
            refine (HP.out _).mono ?_
            rintro e w5 ⟨rfl, hb⟩
            have HO3 := Lib.hid (own_upL HO2.out hb)
            have HB3 := Lib.hid (HB2.out.trans (hb.mono HB2.out.size))
            have c0 := (HSK.out w5 HB3.out).2.2
            clear hb
            have HO4 := Lib.hid (HO3.out.alloc (.cells #[.int .i64 x] 3))
            have HB4 := Lib.hid (HB3.out.alloc HB3.out.size (.cells #[.int .i64 x] 3))
            have HN4 := Lib.hid (show ∀ j u, ([i64v x] : List Value)[j]? = some u → (w5.alloc (.cells #[.int .i64 x] 3)).cell? ((⟨w5.heap.size, 0, none⟩ : Addr).add j) = some u from fun j u hu => by
              rw [add_mk, Nat.zero_add, World.cell?_alloc_new, ← hu]
              simp [i64v])
            go_wp2_with (at_builtin; refine wpList_append_own _ rfl _ _ 30 rfl w3.heap.size 3 i0 _ 1 8 Tryz.underlying30 HI.out HZ.out.1 HZ.out.2.1 HZ.out.2.2 rfl (by omega) _ (kpI (pgF l h ep) (U.take j)).length ((kpI (pgF l h ep) (U.take j)).map i64v) rfl HO4.out ⟨w5.heap.size, 0, none⟩ 1 1 [i64v x] rfl rfl HN4.out (by simp [i64v, Value.oneCell']) (by have := HKL.out; unfold maxLen; omega) (by have := HKL.out; omega) HB4.out.size ?_; intro v6 w6 hown6 hgrow6 hnil6)
            have HO5 := Lib.hid (show w6.ownsRow w3.heap.size 3 1 v6 (kpI (pgF l h ep) (U.take (j + 1))).length ((kpI (pgF l h ep) (U.take (j + 1))).map i64v) by rw [HKQ.out, List.length_append, List.map_append]; exact hown6)
            have HB5 := Lib.hid (HB4.out.grown hgrow6 HB4.out.size (fun k hk => (HO4.out.lt k hk).1))
            clear hown6 hgrow6 hnil6 c0
            go_wp2
            go_roundw
            case rel => exact ⟨j + 1, by omega, by go_num, HO5, HB5⟩
            case measure => simp [intOf]; omega
      · obtain rfl : j = U.length := by omega
        have HF := Lib.hid (Nr.of_own HO.out)
        rw [List.take_length] at HF
        obtain ⟨A7, c7, hv7⟩ := HF.out.form
        subst hv7
        have HR := Lib.hid (show NrB w (kpI (pgF l h ep) U) (.returned (.slice A7 (kpI (pgF l h ep) U).length c7)) wr from ⟨A7, c7, rfl, HF.out, H2.out.bel.trans (HB.out.mono H2.out.bel.size)⟩)
        generalize (kpI (pgF l h ep) U).length = m7 at *
        go_wp2
        go_ret
        exact HR.out
  · have HL := Lib.hid (show laV l h now ep = [] from if_neg h0)
    have hne : (tbV l h != 0) = true := bne_iff_ne.2 h0
    rw [HL.out]
    generalize tbV l h = x at *
    clear h0 HL
    go_enter Tryz.func18, Tryz.ntmps18
    obtain ⟨t0, t1, tl⟩ := H0.out.tb
    go_wp2_with fail
    obtain ⟨p, hp⟩ : ∃ p, p = w.heap.size := ⟨_, rfl⟩
    rw [← hp] at H0 ⊢
    clear t0 t1 tl hp
    generalize w.alloc (.cells #[.slice A l.length c, .slice A2 h.length c2] 25) = w1 at *
    refine (HV.out _ _ H0.out).mono ?_
    rintro e w2 ⟨rfl, hb⟩
    have HB1 := Lib.hid (H0.out.below hb).bel
    clear hb
    go_wp2
    go_ret
    exact ⟨none, 0, rfl, Nr.nil, HB1.out⟩
end Go.Proofs.YtjclhlejbidpgaaGreat
