/- What is proved here: shardqueuelaw05.DueSorts returns true for every input and leaves its argument as it was. No condition. -/
import Derived.Test.YtobimcpkhgfliaaJ12
import Derived.Test.YtobimcpkhgfliaaJ13
import Derived.Laws.Bits128
import Derived.ProofKit
import Derived.OpenShut
import Derived.ShutString
import Derived.ChangeOld
namespace Go.Proofs.Ytobimcpkhgfliaa
open Go.RowKit
set_option linter.unusedVariables false

theorem i64_and15 (n : Int) : bits .and .i64 n 15 = n % 16 := by
  have h15 : (BitVec.ofInt 64 15).toNat = 2 ^ 4 - 1 := by decide
  have key : (BitVec.ofInt 64 n &&& BitVec.ofInt 64 15).toNat = (n % ((2 ^ 64 : Nat) : Int)).toNat % 2 ^ 4 := by
    rw [BitVec.toNat_and, BitVec.toNat_ofInt, h15, Nat.and_two_pow_sub_one_eq_mod]
  show IntKind.i64.wrap ((BitVec.ofInt 64 n &&& BitVec.ofInt 64 15).toNat : Nat) = n % 16
  rw [key, IntKind.wrap_i64]
  omega
/-- The deadline that belongs to an ID. -/
def fz (zs : List Int) (id : Int) : Int := zs.getD (id.toNat - 1) 0 % 16
theorem fz_succ {zs : List Int} {i : Nat} (hi : i < zs.length) : fz zs ((i : Int) + 1) = zs[i] % 16 := by
  unfold fz
  rw [show ((i : Int) + 1).toNat - 1 = i by omega]
  simp [List.getD, hi]
theorem fz_range (zs : List Int) (id : Int) : 0 ≤ fz zs id ∧ fz zs id ≤ 15 := by unfold fz; omega
/-- The elements are those that were pushed. -/
def Els (zs : List Int) (m : Nat) (l : List Du) : Prop := ∀ d ∈ l, 1 ≤ d.id ∧ d.id ≤ m ∧ d.dl = fz zs d.id
/-- What the first loop holds. -/
structure So1 (w : World) (zs : List Int) (a0 : Option Addr) (c0 : Nat) (A : Option Addr) (c : Nat) (l : List Du) (i : Nat) (W : World) : Prop where
  dl : Dl W W.heap.size (.slice A i c) l
  ok : vaF l = 0
  els : Els zs i l
  ns : Ns W w.heap.size (.slice a0 zs.length c0) zs
  bel : Below w.heap.size w W
theorem So1.below {w W W' : World} {zs : List Int} {a0 : Option Addr} {c0 : Nat} {A : Option Addr} {c : Nat} {l : List Du} {i : Nat} (h : So1 w zs a0 c0 A c l i W) (hb : Below W.heap.size W W') : So1 w zs a0 c0 A c l i W' :=
  ⟨h.dl.up hb, h.ok, h.els, h.ns.below (hb.mono h.bel.size), h.bel.trans (hb.mono h.bel.size)⟩
theorem so_push {w W : World} {zs : List Int} {a0 : Option Addr} {c0 : Nat} {A : Option Addr} {c : Nat} {l : List Du} {i : Nat} (h : So1 w zs a0 c0 A c l i W) (hi : i < zs.length) (h12 : zs.length ≤ 12) :
    puE l ⟨zs[i] % 16, (i : Int) + 1⟩ = 0 ∧ vaF (puF l ⟨zs[i] % 16, (i : Int) + 1⟩) = 0 ∧ (puF l ⟨zs[i] % 16, (i : Int) + 1⟩).length = i + 1 ∧ Els zs (i + 1) (puF l ⟨zs[i] % 16, (i : Int) + 1⟩) := by
  have hl : i = l.length := h.dl.len.1
  have hs : snd ⟨zs[i] % 16, (i : Int) + 1⟩ = true := decide_eq_true ⟨by show 0 ≤ zs[i] % 16; omega, by show zs[i] % 16 ≤ 1073741824; omega, by show 1 ≤ (i : Int) + 1; omega, by show (i : Int) + 1 ≤ 1073741824; omega⟩
  have hx : ¬ 0 ≤ ixD l ((i : Int) + 1) := fun hx => by
    obtain ⟨d, hd, e⟩ := (ixD_ge _ _).1 hx
    have := (h.els d hd).2.1
    omega
  have he : puE l ⟨zs[i] % 16, (i : Int) + 1⟩ = 0 := by
    unfold puE
    rw [if_neg (by simpa using h.ok), if_neg (by simp [hs]), if_neg (by omega), if_neg hx]
  obtain ⟨e1, e2, e3, e4⟩ := puE_zero he
  refine ⟨he, vaF_push e1 e2 e3 e4, by rw [puF_len]; omega, fun d hm => ?_⟩
  rcases List.mem_cons.1 ((puF_perm _ _).mem_iff.1 hm) with e | e
  · rw [e]
    exact ⟨by show 1 ≤ (i : Int) + 1; omega, by show (i : Int) + 1 ≤ ((i + 1 : Nat) : Int); omega, (fz_succ hi).symm⟩
  · have := h.els d e
    exact ⟨this.1, by omega, this.2.2⟩
/-- What the second loop holds. -/
structure So2 (w : World) (zs : List Int) (a0 : Option Addr) (c0 : Nat) (p : Nat) (L : Du) (A : Option Addr) (k c : Nat) (l : List Du) (W : World) : Prop where
  dl : Dl W W.heap.size (.slice A k c) l
  ok : vaF l = 0
  els : Els zs zs.length l
  lt : ∀ d ∈ l, bef L d = true
  bx : D2F W p L
  ns : Ns W w.heap.size (.slice a0 zs.length c0) zs
  bel : Below w.heap.size w W
  new : w.heap.size ≤ p
theorem So2.below {w W W' : World} {zs : List Int} {a0 : Option Addr} {c0 : Nat} {p : Nat} {L : Du} {A : Option Addr} {k c : Nat} {l : List Du} (h : So2 w zs a0 c0 p L A k c l W) (hb : Below W.heap.size W W') : So2 w zs a0 c0 p L A k c l W' :=
  ⟨h.dl.up hb, h.ok, h.els, h.lt, h.bx.below hb h.bx.2.2.2.2, h.ns.below (hb.mono h.bel.size), h.bel.trans (hb.mono h.bel.size), h.new⟩
theorem so_pop {w W : World} {zs : List Int} {a0 : Option Addr} {c0 : Nat} {p : Nat} {L : Du} {A : Option Addr} {k c : Nat} {l : List Du} (h : So2 w zs a0 c0 p L A (k + 1) c l W) :
    poE l = 0 ∧ poR l = cuF l 0 ∧ poX l = ge l 0 ∧ vaF (cuF l 0) = 0 ∧ (cuF l 0).length = k ∧ Els zs zs.length (cuF l 0) ∧ (∀ d ∈ cuF l 0, bef (ge l 0) d = true) ∧ bef L (ge l 0) = true ∧ (1 ≤ (ge l 0).id ∧ (ge l 0).id ≤ zs.length ∧ (ge l 0).dl = fz zs (ge l 0).id) := by
  have hl : k + 1 = l.length := h.dl.len.1
  have h0 : 0 < l.length := by omega
  obtain ⟨_, _, hd, hh⟩ := vaF_zero h.ok
  have he : poE l = 0 := by unfold poE; rw [if_neg (by simpa using h.ok), if_neg (by omega)]
  have hsub : ∀ d ∈ cuF l 0, d ∈ l.eraseIdx 0 := fun d hm => (cuF_perm h0).mem_iff.1 hm
  have hsub2 : ∀ d ∈ cuF l 0, d ∈ l := fun d hm => (List.eraseIdx_sublist l 0).subset (hsub d hm)
  refine ⟨he, by unfold poR; rw [if_pos he], by unfold poX; rw [if_pos he], vaF_cut h.ok h0, by rw [cuF_len h0]; omega, fun d hm => h.els d (hsub2 d hm), fun d hm => ?_, h.lt _ (mem_ge h0), h.els _ (mem_ge h0)⟩
  obtain ⟨j, hj, hj0, e⟩ := List.mem_eraseIdx_iff_getElem.1 (hsub d hm)
  rw [ge_get hj] at e
  subst e
  have hr := bef_no.1 (hp_root hh j hj)
  have hid : (ge l 0).id ≠ (ge l j).id := fun e => hd ⟨0, j, by omega, hj, e⟩
  rw [bef_iff]
  omega

/-- What the second loop holds behind a round: the newly popped element stands in the box. -/
theorem so_next {w W : World} {zs : List Int} {a0 : Option Addr} {c0 : Nat} {p lo : Nat} {L X : Du} {A A3 : Option Addr} {k k' c c3 : Nat} {l Z : List Du} (h : So2 w zs a0 c0 p L A k' c l W) (hz : Dl W W.heap.size (.slice A3 k c3) Z) (hok : vaF Z = 0) (hel : Els zs zs.length Z) (hlt : ∀ d ∈ Z, bef X d = true) (hn : Nw lo A3) (hp : p < lo) : So2 w zs a0 c0 p X A3 k c3 Z ((W.drew.setCell ⟨p, 0, none⟩ (.int .i64 X.dl)).setCell ⟨p, 1, none⟩ (.int .i64 X.id)) := by
  obtain ⟨y0, y1, yf0, yf1, hpl⟩ := h.bx
  have hB : Below w.heap.size w ((W.drew.setCell ⟨p, 0, none⟩ (.int .i64 X.dl)).setCell ⟨p, 1, none⟩ (.int .i64 X.id)) := (h.bel.drew.setCell (p := ⟨p, 0, none⟩) h.new _).setCell (p := ⟨p, 1, none⟩) h.new _
  have hs : W.heap.size ≤ ((W.drew.setCell ⟨p, 0, none⟩ (.int .i64 X.dl)).setCell ⟨p, 1, none⟩ (.int .i64 X.id)).heap.size := by simp [World.setCell]
  have e1 : (W.drew.setCell ⟨p, 0, none⟩ (.int .i64 X.dl)).cell? ⟨p, 1, none⟩ = W.cell? ⟨p, 1, none⟩ := World.cell?_setCell_other W.drew _ _ _ (fun e => by injection e; omega)
  refine ⟨((Dl.off (Dl.off hz.drew hn (p := ⟨p, 0, none⟩) hp _) hn (p := ⟨p, 1, none⟩) hp _).more hs), hok, hel, hlt, ⟨?_, ?_, ?_, ?_, Nat.lt_of_lt_of_le hpl hs⟩, h.ns.below (((Below.refl w.heap.size W).drew.setCell (p := ⟨p, 0, none⟩) h.new _).setCell (p := ⟨p, 1, none⟩) h.new _), hB, h.new⟩
  · exact (World.cell?_setCell_other _ _ _ _ (fun e => by injection e; omega)).trans (World.cell?_setCell_same' W.drew _ _ (by rw [show W.drew.cell? ⟨p, 0, none⟩ = W.cell? ⟨p, 0, none⟩ from rfl, y0]; rfl))
  · exact World.cell?_setCell_same' _ _ _ (by rw [e1, y1]; rfl)
  · rw [World.frozen?_setCell, World.frozen?_setCell]; exact yf0
  · rw [World.frozen?_setCell, World.frozen?_setCell]; exact yf1

set_option maxHeartbeats 16000000 in
set_option maxRecDepth 20000 in
theorem DueSorts_walk (w : World) (a0 : Option Addr) (l0 c0 : Nat) (zs : List Int) (hz : Ns w w.heap.size (.slice a0 l0 c0) zs) :
    Calls Try.prog 5 #[.slice a0 l0 c0] w fun e w' => e = .returned (.bool true) ∧ Below w.heap.size w w' := by
  obtain ⟨rfl, hm1, hm2, hrd, hrg⟩ := hz.parts
  have HB0 := Lib.hid (Below.refl w.heap.size w)
  have HZ0 := Lib.hid hz
  have hmx : (zs.length : Int) ≤ 9223372036854775807 := by unfold maxLen at hm2; omega
  clear hz hm1 hm2 hrd hrg
  by_cases h12 : zs.length ≤ 12
  · have HL12 := Lib.hid h12
    obtain ⟨n, hn⟩ : ∃ n, n = zs.length := ⟨_, rfl⟩
    have HN := Lib.hid hn
    have hn12 : (n : Int) ≤ 12 := by omega
    have H0 := Lib.hid (show So1 w zs a0 c0 none 0 [] 0 w from ⟨Dl.nil, aw_va0, fun d hd => (by cases hd), HZ0.out, HB0.out⟩)
    rw [← hn]
    clear hn h12 hmx
    go_enter Try.func5, Try.ntmps5
    go_wp2
    go_loopw [3, 4] (fun hv iv wr => ∃ (i : Nat) (A : Option Addr) (c : Nat) (l : List Du), hv = .slice A i c ∧ iv = .int .i64 i ∧ i ≤ n ∧ So1 w zs a0 c0 A c l i wr) (fun _ iv _ => n - (intOf iv).toNat)
    case atStart => exact ⟨0, none, 0, [], rfl, rfl, Nat.zero_le _, H0.out⟩
    case round =>
      obtain ⟨i, A, c, l, rfl, rfl, hi, hs⟩ := hrel
      have HS := Lib.hid hs
      clear hs
      by_cases hlt : i < n
      · have hlt' : (i : Int) < (n : Int) := by omega
        have hiz : i < zs.length := by have := HN.out; omega
        obtain ⟨e1, e2, e3, e4⟩ := so_push HS.out hiz HL12.out
        have HP := Lib.hid (dpush_any A i c l ⟨zs[i] % 16, (i : Int) + 1⟩ wr HS.out.dl)
        rw [e1, show puR l ⟨zs[i] % 16, (i : Int) + 1⟩ = puF l ⟨zs[i] % 16, (i : Int) + 1⟩ from if_pos e1] at HP
        have HE2 := Lib.hid e2
        have HE3 := Lib.hid e3
        have HE4 := Lib.hid e4
        obtain ⟨b, o, hbo, hbl, hcell⟩ : ∃ b o, a0 = some ⟨b, o, none⟩ ∧ b < w.heap.size ∧ wr.cell? ⟨b, o + i, none⟩ = some (.int .i64 zs[i]) := by
          obtain ⟨_, _, _, hr, _⟩ := HS.out.ns.parts
          obtain ⟨b, o, e, hb, hc⟩ := hr.2 (by omega)
          exact ⟨b, o, e, hb, hc i _ (by simp [hiz, i64v])⟩
        subst hbo
        generalize puF l ⟨zs[i] % 16, (i : Int) + 1⟩ = L at *
        generalize zs[i] = z at *
        clear e1 e2 e3 e4 hbl hiz
        go_wp2_with fail
        rw [i64_and15]
        refine HP.out.mono ?_
        rintro e w3 ⟨A3, c3, rfl, _, hl3, hb3⟩
        rw [HE3.out] at hl3 ⊢
        have H3 := Lib.hid (show So1 w zs (some ⟨b, o, none⟩) c0 A3 c3 L (i + 1) w3 from ⟨hl3, HE2.out, HE4.out, (HS.out.below hb3).ns, (HS.out.below hb3).bel⟩)
        have HV := Lib.hid (dvalid_any A3 (i + 1) c3 L w3 hl3)
        rw [HE2.out] at HV
        clear hl3 hb3 hcell
        go_wp2_with fail
        refine HV.out.mono ?_
        rintro e w4 ⟨rfl, hb4⟩
        have H4 := Lib.hid (H3.out.below hb4)
        clear hb4
        go_wp2
        go_roundw
        case rel => exact ⟨i + 1, A3, c3, L, rfl, by go_num, by omega, H4.out⟩
        case measure => simp [intOf]; omega
      · obtain rfl : i = n := by omega
        have H2 := Lib.hid (show So2 w zs a0 c0 wr.heap.size ⟨-1, 0⟩ A i c l (wr.alloc (.cells #[.int .i64 (-1), .int .i64 0] 24)) from
          ⟨(HS.out.dl.alloc (Nat.le_refl _) _).more (by simp), HS.out.ok, by rw [← HN.out]; exact HS.out.els, fun d hd => bef_iff.2 (.inl (by have h1 := (HS.out.els d hd).2.2; have h2 := fz_range zs d.id; show (-1 : Int) < d.dl; omega)), D2F.start wr ⟨-1, 0⟩ _, HS.out.ns.below (((Below.refl wr.heap.size wr).alloc (Nat.le_refl _) _).mono HS.out.bel.size), HS.out.bel.alloc HS.out.bel.size _, HS.out.bel.size⟩)
        go_wp2
        obtain ⟨p, hp⟩ : ∃ p, p = wr.heap.size := ⟨_, rfl⟩
        rw [← hp] at H2 ⊢
        clear hp
        go_loopw [3, 8] (fun hv iv wr => ∃ (j k : Nat) (L : Du) (A : Option Addr) (c : Nat) (l : List Du), hv = .slice A k c ∧ iv = .int .i64 j ∧ j + k = i ∧ So2 w zs a0 c0 p L A k c l wr) (fun _ iv _ => i - (intOf iv).toNat)
        case atStart => exact ⟨0, i, ⟨-1, 0⟩, A, c, l, rfl, rfl, by omega, H2.out⟩
        case round =>
          obtain ⟨j, k, L, A, c, l, rfl, rfl, hjk, hs⟩ := hrel
          have HT := Lib.hid hs
          clear hs
          by_cases hk0 : 0 < k
          · obtain ⟨k, rfl⟩ : ∃ m, k = m + 1 := ⟨k - 1, by omega⟩
            have hjl : (j : Int) < (i : Int) := by omega
            obtain ⟨e1, e2, e3, e4, e5, e6, e7, e8, e9⟩ := so_pop HT.out
            have HP := Lib.hid (dpop_any A (k + 1) c l wr HT.out.dl)
            rw [e1, e2, e3] at HP
            have HE4 := Lib.hid e4
            have HE5 := Lib.hid e5
            have HE6 := Lib.hid e6
            have HE7 := Lib.hid e7
            have HE8 := Lib.hid e8
            have HE9 := Lib.hid e9
            clear e1 e2 e3 e4 e5 e6 e7 e8 e9
            generalize cuF l 0 = Z at *
            generalize ge l 0 = X at *
            go_wp2_with fail
            refine HP.out.mono ?_
            rintro e w3 ⟨A3, c3, rfl, hnw, hl3, hb3⟩
            have HNW := Lib.hid hnw
            have HPW := Lib.hid HT.out.bx.2.2.2.2
            clear hnw
            rw [HE5.out] at hl3 ⊢
            have H3 := Lib.hid ((HT.out.below hb3).below ((Below.refl w3.heap.size w3).alloc (Nat.le_refl _) (.cells #[.int .i64 X.dl, .int .i64 X.id] 24)))
            have HZ3 := Lib.hid ((hl3.alloc (Nat.le_refl _) (.cells #[.int .i64 X.dl, .int .i64 X.id] 24)).more (show w3.heap.size ≤ (w3.alloc (.cells #[.int .i64 X.dl, .int .i64 X.id] 24)).heap.size by simp))
            have HX3 := Lib.hid (D2F.start w3 X 24)
            have HPX := Lib.hid (show ¬ p = w3.heap.size from fun e => by have := HT.out.bx.2.2.2.2; have := hb3.size; omega)
            clear hl3 hb3
            obtain ⟨q, hq⟩ : ∃ q, q = w3.heap.size := ⟨_, rfl⟩
            go_wp2_with fail
            rw [← hq] at HX3 HPX ⊢
            clear hq
            generalize w3.alloc (.cells #[.int .i64 X.dl, .int .i64 X.id] 24) = w4 at *
            have HVA := Lib.hid (fun W h => dvalid_any A3 k c3 Z W h)
            rw [HE4.out] at HVA
            obtain ⟨t, ht, htl⟩ : ∃ t : Nat, X.id - 1 = (t : Int) ∧ t < zs.length := ⟨(X.id - 1).toNat, by have := HE9.out; omega, by have := HE9.out; omega⟩
            have htn : t < i := by have := HN.out; omega
            obtain ⟨b, o, hbo, hbl, z0⟩ : ∃ b o, a0 = some ⟨b, o, none⟩ ∧ b < w.heap.size ∧ w4.cell? ⟨b, o + t, none⟩ = some (.int .i64 zs[t]) := by
              obtain ⟨_, _, _, hr, _⟩ := H3.out.ns.parts
              obtain ⟨b, o, e, hb, hc⟩ := hr.2 (by omega)
              exact ⟨b, o, e, hb, hc t _ (by simp [htl, i64v])⟩
            subst hbo
            have hfz : X.dl = zs[t] % 16 := by
              rw [HE9.out.2.2, show X.id = (t : Int) + 1 by omega]
              exact fz_succ htl
            generalize zs[t] = z at *
            have hz16 : (X.dl != bits .and .i64 z 15) = false := by rw [i64_and15]; simp [hfz]
            have hw1 : IntKind.i64.wrap (X.id - 1) = (t : Int) := by rw [ht]; exact IntWalk.i64_in _ (by omega)
            have htn' : (t : Int) < (i : Int) := by omega
            have hbf := bef_iff.1 HE8.out
            have hg3 : decide (X.id < 1) = false := by have := HE9.out; simp; omega
            have hg4 : decide ((i : Int) < X.id) = false := by have := HE9.out; have := HN.out; simp; omega
            have hb4 := Nat.lt_of_lt_of_le hbl H3.out.bel.size
            obtain ⟨x0, x1, xf0, xf1, hql⟩ := HX3.out
            obtain ⟨y0, y1, yf0, yf1, hpl⟩ := H3.out.bx
            have HZD := Lib.hid (show Dl w4.drew w4.drew.heap.size (.slice A3 k c3) Z from HZ3.out)
            by_cases hbe : X.dl = L.dl
            · have hg5 : decide (X.id ≤ L.id) = false := by simp; omega
              rw [← hbe] at y0
              have hg1 : decide (X.dl < X.dl) = false := by simp
              have hg2 : (X.dl == X.dl) = true := by simp
              clear hbe
              have HSA := Lib.hid (show w4.drew.cell? ⟨q, 0, none⟩ = some (.int .i64 X.dl) ∧ w4.drew.cell? ⟨q, 1, none⟩ = some (.int .i64 X.id) ∧ w4.drew.cell? ⟨p, 0, none⟩ = some (.int .i64 X.dl) ∧ w4.drew.cell? ⟨p, 1, none⟩ = some (.int .i64 L.id) ∧ w4.drew.cell? ⟨b, o + t, none⟩ = some (.int .i64 z) from ⟨x0, x1, y0, y1, z0⟩)
              have HSC := Lib.hid (fun w5 (hb1 : Below w4.drew.heap.size w4.drew w5) => show (w5.cell? ⟨q, 0, none⟩ = some (.int .i64 X.dl) ∧ w5.cell? ⟨q, 1, none⟩ = some (.int .i64 X.id) ∧ w5.cell? ⟨p, 0, none⟩ = some (.int .i64 X.dl) ∧ w5.cell? ⟨p, 1, none⟩ = some (.int .i64 L.id) ∧ w5.cell? ⟨b, o + t, none⟩ = some (.int .i64 z)) ∧ So2 w zs (some ⟨b, o, none⟩) c0 p L A (k + 1) c l w5 ∧ Dl w5 w5.heap.size (.slice A3 k c3) Z ∧ D2F w5 q X from
                ⟨⟨(hb1.cell (p := ⟨q, 0, none⟩) hql).trans x0, (hb1.cell (p := ⟨q, 1, none⟩) hql).trans x1, (hb1.cell (p := ⟨p, 0, none⟩) hpl).trans y0, (hb1.cell (p := ⟨p, 1, none⟩) hpl).trans y1, (hb1.cell (p := ⟨b, o + t, none⟩) hb4).trans z0⟩, H3.out.below (drew_bel hb1), HZ3.out.up (drew_bel hb1), D2F.below (W := w4.drew) HX3.out hb1 hql⟩)
              clear ht htl htn hfz hbl hb4 xf0 xf1 hql yf0 yf1 hpl hbf
              go_region_held3 (fun W => W.cell? ⟨q, 0, none⟩ = some (.int .i64 X.dl) ∧ W.cell? ⟨q, 1, none⟩ = some (.int .i64 X.id) ∧ W.cell? ⟨p, 0, none⟩ = some (.int .i64 X.dl) ∧ W.cell? ⟨p, 1, none⟩ = some (.int .i64 L.id) ∧ W.cell? ⟨b, o + t, none⟩ = some (.int .i64 z))
                (first | with_reducible exact HSA.out | with_reducible exact HSB.out)
                ((go_at_call 16; (with_reducible refine (HVA.out _ HZD.out).mono ?_); rintro e w5 ⟨rfl, hb1⟩; obtain ⟨hs5, h5, hz5, hx5⟩ := HSC.out _ hb1; have HSB := Lib.hid hs5; have H5 := Lib.hid h5; have HZ5 := Lib.hid hz5; have HX5 := Lib.hid hx5; clear hb1 hs5 h5 hz5 hx5))
              clear hg1 hg2 hg3 hg4 hz16 hw1 htn'
              obtain ⟨x0, x1, xf0, xf1, hql⟩ := HX5.out
              obtain ⟨y0, y1, yf0, yf1, hpl⟩ := H5.out.bx
              have hpq : ¬ p = q := HPX.out
              have hqp : ¬ q = p := fun e => HPX.out e.symm
              go_wp2_with fail
              have H6 := Lib.hid (so_next H5.out HZ5.out HE4.out HE6.out HE7.out HNW.out HPW.out)
              go_region
              go_wp2
              go_roundw
              case rel => exact ⟨j + 1, k, X, A3, c3, Z, rfl, by go_num, by omega, H6.out⟩
              case measure => simp [intOf]; omega
            · have hg2 : (X.dl == L.dl) = false := by simp [hbe]
              have hg1 : decide (X.dl < L.dl) = false := by simp; omega
              clear hbe
              have HSA := Lib.hid (show w4.drew.cell? ⟨q, 0, none⟩ = some (.int .i64 X.dl) ∧ w4.drew.cell? ⟨q, 1, none⟩ = some (.int .i64 X.id) ∧ w4.drew.cell? ⟨p, 0, none⟩ = some (.int .i64 L.dl) ∧ w4.drew.cell? ⟨p, 1, none⟩ = some (.int .i64 L.id) ∧ w4.drew.cell? ⟨b, o + t, none⟩ = some (.int .i64 z) from ⟨x0, x1, y0, y1, z0⟩)
              have HSC := Lib.hid (fun w5 (hb1 : Below w4.drew.heap.size w4.drew w5) => show (w5.cell? ⟨q, 0, none⟩ = some (.int .i64 X.dl) ∧ w5.cell? ⟨q, 1, none⟩ = some (.int .i64 X.id) ∧ w5.cell? ⟨p, 0, none⟩ = some (.int .i64 L.dl) ∧ w5.cell? ⟨p, 1, none⟩ = some (.int .i64 L.id) ∧ w5.cell? ⟨b, o + t, none⟩ = some (.int .i64 z)) ∧ So2 w zs (some ⟨b, o, none⟩) c0 p L A (k + 1) c l w5 ∧ Dl w5 w5.heap.size (.slice A3 k c3) Z ∧ D2F w5 q X from
                ⟨⟨(hb1.cell (p := ⟨q, 0, none⟩) hql).trans x0, (hb1.cell (p := ⟨q, 1, none⟩) hql).trans x1, (hb1.cell (p := ⟨p, 0, none⟩) hpl).trans y0, (hb1.cell (p := ⟨p, 1, none⟩) hpl).trans y1, (hb1.cell (p := ⟨b, o + t, none⟩) hb4).trans z0⟩, H3.out.below (drew_bel hb1), HZ3.out.up (drew_bel hb1), D2F.below (W := w4.drew) HX3.out hb1 hql⟩)
              clear ht htl htn hfz hbl hb4 xf0 xf1 hql yf0 yf1 hpl hbf
              refine wp_region_noPanic ?_
              refine wp_region_held_drew (S := (fun W => W.cell? ⟨q, 0, none⟩ = some (.int .i64 X.dl) ∧ W.cell? ⟨q, 1, none⟩ = some (.int .i64 X.id) ∧ W.cell? ⟨p, 0, none⟩ = some (.int .i64 L.dl) ∧ W.cell? ⟨p, 1, none⟩ = some (.int .i64 L.id) ∧ W.cell? ⟨b, o + t, none⟩ = some (.int .i64 z))) (by kernel_rfl) ?hS (fun hHeld => ?_)
              case hS => (try dsimp only); with_reducible exact HSA.out
              refine wpAnyH_take (i := 0) (oi := ?o0) (v := ?v0) ?hi0 (by kernel_rfl) (by kernel_rfl) (by kernel_rfl) (fun _ _ _ h => h) (Or.inl ⟨?hw0, ?hy0⟩) (by assumption) ?_
              case hi0 => simp only [List.getElem?_toArray, List.getElem?_cons_zero]; exact rfl
              case hw0 => rfl
              case hy0 => intro w hSw; (try dsimp only at hSw); go_simp; all_goals (with_reducible rfl)
              try simp only [Act.put, List.setIfInBounds_toArray, List.set_cons_zero, List.set_cons_succ]
              refine wpAnyH_take (i := 1) (oi := ?o1) (v := ?v1) ?hi1 (by kernel_rfl) (by kernel_rfl) (by kernel_rfl) (fun _ _ _ h => h) (Or.inl ⟨?hw1, ?hy1⟩) (by assumption) ?_
              case hi1 => simp only [List.getElem?_toArray, List.getElem?_cons_succ, List.getElem?_cons_zero]; exact rfl
              case hw1 => rfl
              case hy1 => intro w hSw; (try dsimp only at hSw); go_simp; all_goals (with_reducible rfl)
              try simp only [Act.put, List.setIfInBounds_toArray, List.set_cons_zero, List.set_cons_succ]
              refine wpAnyH_take (i := 2) (oi := ?o2) (v := ?v2) ?hi2 (by kernel_rfl) (by kernel_rfl) (by kernel_rfl) (fun _ _ _ h => h) (Or.inl ⟨?hw2, ?hy2⟩) (by assumption) ?_
              case hi2 => simp only [List.getElem?_toArray, List.getElem?_cons_succ, List.getElem?_cons_zero]; exact rfl
              case hw2 => rfl
              case hy2 => intro w hSw; (try dsimp only at hSw); go_simp; all_goals (with_reducible rfl)
              try simp only [Act.put, List.setIfInBounds_toArray, List.set_cons_zero, List.set_cons_succ]
              refine wpAnyH_take (i := 3) (oi := ?o3) (v := ?v3) ?hi3 (by kernel_rfl) (by kernel_rfl) (by kernel_rfl) (fun _ _ _ h => h) (Or.inl ⟨?hw3, ?hy3⟩) (by assumption) ?_
              case hi3 => simp only [List.getElem?_toArray, List.getElem?_cons_succ, List.getElem?_cons_zero]; exact rfl
              case hw3 => rfl
              case hy3 => intro w hSw; (try dsimp only at hSw); go_simp; all_goals (with_reducible rfl)
              try simp only [Act.put, List.setIfInBounds_toArray, List.set_cons_zero, List.set_cons_succ]
              refine wpAnyH_ready (rs := [4]) (by kernel_rfl) (by simp) ?_
              refine AllReadyH.cons (o := ?o4) ?ho4 ?st4 AllReadyH.nil
              case ho4 => simp only [List.getElem?_toArray, List.getElem?_cons_succ, List.getElem?_cons_zero]; exact rfl
              case st4 =>
                intro K hK
                go_simp
                (go_at_call 16; (with_reducible refine (HVA.out _ HZD.out).mono ?_); rintro e w5 ⟨rfl, hb1⟩; obtain ⟨hs5, h5, hz5, hx5⟩ := HSC.out _ hb1; have HSB := Lib.hid hs5; have H5 := Lib.hid h5; have HZ5 := Lib.hid hz5; have HX5 := Lib.hid hx5; clear hb1 hs5 h5 hz5 hx5)
                first
                  | (refine hK.out _ _ ?hS4 (fun hHeld => ?_))
                  | (go_wp2_with fail; refine hK.out _ _ ?hT4 (fun hHeld => ?_))
                · (try dsimp only); with_reducible exact HSB.out
                clear hK K
                try simp only [Act.put, List.setIfInBounds_toArray, List.set_cons_zero, List.set_cons_succ]
                refine wpAnyH_take (i := 5) (oi := ?o5) (v := ?v5) ?hi5 (by kernel_rfl) (by kernel_rfl) (by kernel_rfl) (fun _ _ _ h => h) (Or.inl ⟨?hw5, ?hy5⟩) (by assumption) ?_
                case hi5 => simp only [List.getElem?_toArray, List.getElem?_cons_succ, List.getElem?_cons_zero]; exact rfl
                case hw5 => rfl
                case hy5 => intro w hSw; (try dsimp only at hSw); go_simp; all_goals (with_reducible rfl)
                try simp only [Act.put, List.setIfInBounds_toArray, List.set_cons_zero, List.set_cons_succ]
                refine wpAnyH_take (i := 6) (oi := ?o6) (v := ?v6) ?hi6 (by kernel_rfl) (by kernel_rfl) (by kernel_rfl) (fun _ _ _ h => h) (Or.inl ⟨?hw6, ?hy6⟩) (by assumption) ?_
                case hi6 => simp only [List.getElem?_toArray, List.getElem?_cons_succ, List.getElem?_cons_zero]; exact rfl
                case hw6 => rfl
                case hy6 => intro w hSw; (try dsimp only at hSw); go_simp; all_goals (with_reducible rfl)
                try simp only [Act.put, List.setIfInBounds_toArray, List.set_cons_zero, List.set_cons_succ]
                refine wpAnyH_take (i := 7) (oi := ?o7) (v := ?v7) ?hi7 (by kernel_rfl) (by kernel_rfl) (by kernel_rfl) (fun _ _ _ h => h) (Or.inl ⟨?hw7, ?hy7⟩) (by assumption) ?_
                case hi7 => simp only [List.getElem?_toArray, List.getElem?_cons_succ, List.getElem?_cons_zero]; exact rfl
                case hw7 => rfl
                case hy7 => intro w hSw; (try dsimp only at hSw); go_simp; all_goals (with_reducible rfl)
                try simp only [Act.put, List.setIfInBounds_toArray, List.set_cons_zero, List.set_cons_succ]
                refine wpAnyH_take (i := 8) (oi := ?o8) (v := ?v8) ?hi8 (by kernel_rfl) (by kernel_rfl) (by kernel_rfl) (fun _ _ _ h => h) (Or.inl ⟨?hw8, ?hy8⟩) (by assumption) ?_
                case hi8 => simp only [List.getElem?_toArray, List.getElem?_cons_succ, List.getElem?_cons_zero]; exact rfl
                case hw8 => rfl
                case hy8 => intro w hSw; (try dsimp only at hSw); go_simp; all_goals (with_reducible rfl)
                try simp only [Act.put, List.setIfInBounds_toArray, List.set_cons_zero, List.set_cons_succ]
                refine wpAnyH_take (i := 9) (oi := ?o9) (v := ?v9) ?hi9 (by kernel_rfl) (by kernel_rfl) (by kernel_rfl) (fun _ _ _ h => h) (Or.inl ⟨?hw9, ?hy9⟩) (by assumption) ?_
                case hi9 => simp only [List.getElem?_toArray, List.getElem?_cons_succ, List.getElem?_cons_zero]; exact rfl
                case hw9 => rfl
                case hy9 => intro w hSw; (try dsimp only at hSw); go_simp; all_goals (with_reducible rfl)
                try simp only [Act.put, List.setIfInBounds_toArray, List.set_cons_zero, List.set_cons_succ]
                refine wpAnyH_take (i := 10) (oi := ?o10) (v := ?v10) ?hi10 (by kernel_rfl) (by kernel_rfl) (by kernel_rfl) (fun _ _ _ h => h) (Or.inl ⟨?hw10, ?hy10⟩) (by assumption) ?_
                case hi10 => simp only [List.getElem?_toArray, List.getElem?_cons_succ, List.getElem?_cons_zero]; exact rfl
                case hw10 => rfl
                case hy10 => intro w hSw; (try dsimp only at hSw); go_simp; all_goals (with_reducible rfl)
                try simp only [Act.put, List.setIfInBounds_toArray, List.set_cons_zero, List.set_cons_succ]
                refine wpAnyH_take (i := 11) (oi := ?o11) (v := ?v11) ?hi11 (by kernel_rfl) (by kernel_rfl) (by kernel_rfl) (fun _ _ _ h => h) (Or.inl ⟨?hw11, ?hy11⟩) (by assumption) ?_
                case hi11 => simp only [List.getElem?_toArray, List.getElem?_cons_succ, List.getElem?_cons_zero]; exact rfl
                case hw11 => rfl
                case hy11 => intro w hSw; (try dsimp only at hSw); go_simp; all_goals (with_reducible rfl)
                try simp only [Act.put, List.setIfInBounds_toArray, List.set_cons_zero, List.set_cons_succ]
                refine wpAnyH_take (i := 12) (oi := ?o12) (v := ?v12) ?hi12 (by kernel_rfl) (by kernel_rfl) (by kernel_rfl) (fun _ _ _ h => h) (Or.inl ⟨?hw12, ?hy12⟩) (by assumption) ?_
                case hi12 => simp only [List.getElem?_toArray, List.getElem?_cons_succ, List.getElem?_cons_zero]; exact rfl
                case hw12 => rfl
                case hy12 => intro w hSw; (try dsimp only at hSw); go_simp; all_goals (with_reducible rfl)
                try simp only [Act.put, List.setIfInBounds_toArray, List.set_cons_zero, List.set_cons_succ]
                refine wpAnyH_take (i := 13) (oi := ?o13) (v := ?v13) ?hi13 (by kernel_rfl) (by kernel_rfl) (by kernel_rfl) (fun _ _ _ h => h) (Or.inl ⟨?hw13, ?hy13⟩) (by assumption) ?_
                case hi13 => simp only [List.getElem?_toArray, List.getElem?_cons_succ, List.getElem?_cons_zero]; exact rfl
                case hw13 => rfl
                case hy13 => intro w hSw; (try dsimp only at hSw); go_simp; all_goals (with_reducible rfl)
                try simp only [Act.put, List.setIfInBounds_toArray, List.set_cons_zero, List.set_cons_succ]
                refine wpAnyH_take (i := 14) (oi := ?o14) (v := ?v14) ?hi14 (by kernel_rfl) (by kernel_rfl) (by kernel_rfl) (fun _ _ _ h => h) (Or.inl ⟨?hw14, ?hy14⟩) (by assumption) ?_
                case hi14 => simp only [List.getElem?_toArray, List.getElem?_cons_succ, List.getElem?_cons_zero]; exact rfl
                case hw14 => rfl
                case hy14 => intro w hSw; (try dsimp only at hSw); go_simp; all_goals (with_reducible rfl)
                try simp only [Act.put, List.setIfInBounds_toArray, List.set_cons_zero, List.set_cons_succ]
                refine wpAnyH_take (i := 15) (oi := ?o15) (v := ?v15) ?hi15 (by kernel_rfl) (by kernel_rfl) (by kernel_rfl) (fun _ _ _ h => h) (Or.inl ⟨?hw15, ?hy15⟩) (by assumption) ?_
                case hi15 => simp only [List.getElem?_toArray, List.getElem?_cons_succ, List.getElem?_cons_zero]; exact rfl
                case hw15 => rfl
                case hy15 => intro w hSw; (try dsimp only at hSw); go_simp; all_goals (with_reducible rfl)
                try simp only [Act.put, List.setIfInBounds_toArray, List.set_cons_zero, List.set_cons_succ]
                refine wpAnyH_take (i := 16) (oi := ?o16) (v := ?v16) ?hi16 (by kernel_rfl) (by kernel_rfl) (by kernel_rfl) (fun _ _ _ h => h) (Or.inl ⟨?hw16, ?hy16⟩) (by assumption) ?_
                case hi16 => simp only [List.getElem?_toArray, List.getElem?_cons_succ, List.getElem?_cons_zero]; exact rfl
                case hw16 => rfl
                case hy16 => intro w hSw; (try dsimp only at hSw); go_simp; all_goals (with_reducible rfl)
                try simp only [Act.put, List.setIfInBounds_toArray, List.set_cons_zero, List.set_cons_succ]
                refine wpAnyH_take (i := 17) (oi := ?o17) (v := ?v17) ?hi17 (by kernel_rfl) (by kernel_rfl) (by kernel_rfl) (fun _ _ _ h => h) (Or.inl ⟨?hw17, ?hy17⟩) (by assumption) ?_
                case hi17 => simp only [List.getElem?_toArray, List.getElem?_cons_succ, List.getElem?_cons_zero]; exact rfl
                case hw17 => rfl
                case hy17 => intro w hSw; (try dsimp only at hSw); go_simp; all_goals (with_reducible rfl)
                try simp only [Act.put, List.setIfInBounds_toArray, List.set_cons_zero, List.set_cons_succ]
                refine wpAnyH_take (i := 18) (oi := ?o18) (v := ?v18) ?hi18 (by kernel_rfl) (by kernel_rfl) (by kernel_rfl) (fun _ _ _ h => h) (Or.inl ⟨?hw18, ?hy18⟩) (by assumption) ?_
                case hi18 => simp only [List.getElem?_toArray, List.getElem?_cons_succ, List.getElem?_cons_zero]; exact rfl
                case hw18 => rfl
                case hy18 => intro w hSw; (try dsimp only at hSw); go_simp; all_goals (with_reducible rfl)
                try simp only [Act.put, List.setIfInBounds_toArray, List.set_cons_zero, List.set_cons_succ]
                refine wpAnyH_take (i := 19) (oi := ?o19) (v := ?v19) ?hi19 (by kernel_rfl) (by kernel_rfl) (by kernel_rfl) (fun _ _ _ h => h) (Or.inl ⟨?hw19, ?hy19⟩) (by assumption) ?_
                case hi19 => simp only [List.getElem?_toArray, List.getElem?_cons_succ, List.getElem?_cons_zero]; exact rfl
                case hw19 => rfl
                case hy19 => intro w hSw; (try dsimp only at hSw); go_simp; all_goals (with_reducible rfl)
                try simp only [Act.put, List.setIfInBounds_toArray, List.set_cons_zero, List.set_cons_succ]
                refine wpAnyH_take (i := 20) (oi := ?o20) (v := ?v20) ?hi20 (by kernel_rfl) (by kernel_rfl) (by kernel_rfl) (fun _ _ _ h => h) (Or.inl ⟨?hw20, ?hy20⟩) (by assumption) ?_
                case hi20 => simp only [List.getElem?_toArray, List.getElem?_cons_succ, List.getElem?_cons_zero]; exact rfl
                case hw20 => rfl
                case hy20 => intro w hSw; (try dsimp only at hSw); go_simp; all_goals (with_reducible rfl)
                try simp only [Act.put, List.setIfInBounds_toArray, List.set_cons_zero, List.set_cons_succ]
                refine wpAnyH_take (i := 21) (oi := ?o21) (v := undef) ?hi21 (by kernel_rfl) (by kernel_rfl) (by kernel_rfl) (fun _ _ _ h => h) (Or.inr ⟨?hw21, rfl⟩) (by assumption) ?_
                case hi21 => simp only [List.getElem?_toArray, List.getElem?_cons_succ, List.getElem?_cons_zero]; exact rfl
                case hw21 => rfl
                try simp only [Act.put, List.setIfInBounds_toArray, List.set_cons_zero, List.set_cons_succ]
                refine wpAnyH_take (i := 22) (oi := ?o22) (v := undef) ?hi22 (by kernel_rfl) (by kernel_rfl) (by kernel_rfl) (fun _ _ _ h => h) (Or.inr ⟨?hw22, rfl⟩) (by assumption) ?_
                case hi22 => simp only [List.getElem?_toArray, List.getElem?_cons_succ, List.getElem?_cons_zero]; exact rfl
                case hw22 => rfl
                try simp only [Act.put, List.setIfInBounds_toArray, List.set_cons_zero, List.set_cons_succ]
                refine wpAnyH_take (i := 23) (oi := ?o23) (v := undef) ?hi23 (by kernel_rfl) (by kernel_rfl) (by kernel_rfl) (fun _ _ _ h => h) (Or.inr ⟨?hw23, rfl⟩) (by assumption) ?_
                case hi23 => simp only [List.getElem?_toArray, List.getElem?_cons_succ, List.getElem?_cons_zero]; exact rfl
                case hw23 => rfl
                try simp only [Act.put, List.setIfInBounds_toArray, List.set_cons_zero, List.set_cons_succ]
                refine wpAnyH_take (i := 24) (oi := ?o24) (v := undef) ?hi24 (by kernel_rfl) (by kernel_rfl) (by kernel_rfl) (fun _ _ _ h => h) (Or.inr ⟨?hw24, rfl⟩) (by assumption) ?_
                case hi24 => simp only [List.getElem?_toArray, List.getElem?_cons_succ, List.getElem?_cons_zero]; exact rfl
                case hw24 => rfl
                try simp only [Act.put, List.setIfInBounds_toArray, List.set_cons_zero, List.set_cons_succ]
                refine wpAnyH_take (i := 25) (oi := ?o25) (v := undef) ?hi25 (by kernel_rfl) (by kernel_rfl) (by kernel_rfl) (fun _ _ _ h => h) (Or.inr ⟨?hw25, rfl⟩) (by assumption) ?_
                case hi25 => simp only [List.getElem?_toArray, List.getElem?_cons_succ, List.getElem?_cons_zero]; exact rfl
                case hw25 => rfl
                try simp only [Act.put, List.setIfInBounds_toArray, List.set_cons_zero, List.set_cons_succ]
                refine wpAnyH_take (i := 26) (oi := ?o26) (v := ?v26) ?hi26 (by kernel_rfl) (by kernel_rfl) (by kernel_rfl) (fun _ _ _ h => h) (Or.inl ⟨?hw26, ?hy26⟩) (by assumption) ?_
                case hi26 => simp only [List.getElem?_toArray, List.getElem?_cons_succ, List.getElem?_cons_zero]; exact rfl
                case hw26 => rfl
                case hy26 => intro w hSw; (try dsimp only at hSw); go_simp; all_goals (with_reducible rfl)
                try simp only [Act.put, List.setIfInBounds_toArray, List.set_cons_zero, List.set_cons_succ]
                refine wpAnyH_take (i := 27) (oi := ?o27) (v := ?v27) ?hi27 (by kernel_rfl) (by kernel_rfl) (by kernel_rfl) (fun _ _ _ h => h) (Or.inl ⟨?hw27, ?hy27⟩) (by assumption) ?_
                case hi27 => simp only [List.getElem?_toArray, List.getElem?_cons_succ, List.getElem?_cons_zero]; exact rfl
                case hw27 => rfl
                case hy27 => intro w hSw; (try dsimp only at hSw); go_simp; all_goals (with_reducible rfl)
                try simp only [Act.put, List.setIfInBounds_toArray, List.set_cons_zero, List.set_cons_succ]
                refine wpAnyH_take (i := 28) (oi := ?o28) (v := ?v28) ?hi28 (by kernel_rfl) (by kernel_rfl) (by kernel_rfl) (fun _ _ _ h => h) (Or.inl ⟨?hw28, ?hy28⟩) (by assumption) ?_
                case hi28 => simp only [List.getElem?_toArray, List.getElem?_cons_succ, List.getElem?_cons_zero]; exact rfl
                case hw28 => rfl
                case hy28 => intro w hSw; (try dsimp only at hSw); go_simp; all_goals (with_reducible rfl)
                try simp only [Act.put, List.setIfInBounds_toArray, List.set_cons_zero, List.set_cons_succ]
                refine wpAnyH_take (i := 29) (oi := ?o29) (v := ?v29) ?hi29 (by kernel_rfl) (by kernel_rfl) (by kernel_rfl) (fun _ _ _ h => h) (Or.inl ⟨?hw29, ?hy29⟩) (by assumption) ?_
                case hi29 => simp only [List.getElem?_toArray, List.getElem?_cons_succ, List.getElem?_cons_zero]; exact rfl
                case hw29 => rfl
                case hy29 => intro w hSw; (try dsimp only at hSw); go_simp; all_goals (with_reducible rfl)
                try simp only [Act.put, List.setIfInBounds_toArray, List.set_cons_zero, List.set_cons_succ]
                refine wpAnyH_take (i := 30) (oi := ?o30) (v := ?v30) ?hi30 (by kernel_rfl) (by kernel_rfl) (by kernel_rfl) (fun _ _ _ h => h) (Or.inl ⟨?hw30, ?hy30⟩) (by assumption) ?_
                case hi30 => simp only [List.getElem?_toArray, List.getElem?_cons_succ, List.getElem?_cons_zero]; exact rfl
                case hw30 => rfl
                case hy30 => intro w hSw; (try dsimp only at hSw); go_simp; all_goals (with_reducible rfl)
                try simp only [Act.put, List.setIfInBounds_toArray, List.set_cons_zero, List.set_cons_succ]
                refine wpAnyH_take (i := 31) (oi := ?o31) (v := ?v31) ?hi31 (by kernel_rfl) (by kernel_rfl) (by kernel_rfl) (fun _ _ _ h => h) (Or.inl ⟨?hw31, ?hy31⟩) (by assumption) ?_
                case hi31 => simp only [List.getElem?_toArray, List.getElem?_cons_succ, List.getElem?_cons_zero]; exact rfl
                case hw31 => rfl
                case hy31 => intro w hSw; (try dsimp only at hSw); go_simp; all_goals (with_reducible rfl)
                try simp only [Act.put, List.setIfInBounds_toArray, List.set_cons_zero, List.set_cons_succ]
                refine wpAnyH_take (i := 32) (oi := ?o32) (v := ?v32) ?hi32 (by kernel_rfl) (by kernel_rfl) (by kernel_rfl) (fun _ _ _ h => h) (Or.inl ⟨?hw32, ?hy32⟩) (by assumption) ?_
                case hi32 => simp only [List.getElem?_toArray, List.getElem?_cons_succ, List.getElem?_cons_zero]; exact rfl
                case hw32 => rfl
                case hy32 => intro w hSw; (try dsimp only at hSw); go_simp; all_goals (with_reducible rfl)
                try simp only [Act.put, List.setIfInBounds_toArray, List.set_cons_zero, List.set_cons_succ]
                refine wpAnyH_take (i := 33) (oi := ?o33) (v := ?v33) ?hi33 (by kernel_rfl) (by kernel_rfl) (by kernel_rfl) (fun _ _ _ h => h) (Or.inl ⟨?hw33, ?hy33⟩) (by assumption) ?_
                case hi33 => simp only [List.getElem?_toArray, List.getElem?_cons_succ, List.getElem?_cons_zero]; exact rfl
                case hw33 => rfl
                case hy33 => intro w hSw; (try dsimp only at hSw); go_simp; all_goals (with_reducible rfl)
                try simp only [Act.put, List.setIfInBounds_toArray, List.set_cons_zero, List.set_cons_succ]
                refine wpAnyH_take (i := 34) (oi := ?o34) (v := ?v34) ?hi34 (by kernel_rfl) (by kernel_rfl) (by kernel_rfl) (fun _ _ _ h => h) (Or.inl ⟨?hw34, ?hy34⟩) (by assumption) ?_
                case hi34 => simp only [List.getElem?_toArray, List.getElem?_cons_succ, List.getElem?_cons_zero]; exact rfl
                case hw34 => rfl
                case hy34 => intro w hSw; (try dsimp only at hSw); go_simp; all_goals (with_reducible rfl)
                try simp only [Act.put, List.setIfInBounds_toArray, List.set_cons_zero, List.set_cons_succ]
                refine wpAnyH_take (i := 35) (oi := ?o35) (v := ?v35) ?hi35 (by kernel_rfl) (by kernel_rfl) (by kernel_rfl) (fun _ _ _ h => h) (Or.inl ⟨?hw35, ?hy35⟩) (by assumption) ?_
                case hi35 => simp only [List.getElem?_toArray, List.getElem?_cons_succ, List.getElem?_cons_zero]; exact rfl
                case hw35 => rfl
                case hy35 => intro w hSw; (try dsimp only at hSw); go_simp; all_goals (with_reducible rfl)
                try simp only [Act.put, List.setIfInBounds_toArray, List.set_cons_zero, List.set_cons_succ]
                refine wpAnyH_take (i := 36) (oi := ?o36) (v := ?v36) ?hi36 (by kernel_rfl) (by kernel_rfl) (by kernel_rfl) (fun _ _ _ h => h) (Or.inl ⟨?hw36, ?hy36⟩) (by assumption) ?_
                case hi36 => simp only [List.getElem?_toArray, List.getElem?_cons_succ, List.getElem?_cons_zero]; exact rfl
                case hw36 => rfl
                case hy36 => intro w hSw; (try dsimp only at hSw); go_simp; all_goals (with_reducible rfl)
                try simp only [Act.put, List.setIfInBounds_toArray, List.set_cons_zero, List.set_cons_succ]
                refine wpAnyH_take (i := 37) (oi := ?o37) (v := ?v37) ?hi37 (by kernel_rfl) (by kernel_rfl) (by kernel_rfl) (fun _ _ _ h => h) (Or.inl ⟨?hw37, ?hy37⟩) (by assumption) ?_
                case hi37 => simp only [List.getElem?_toArray, List.getElem?_cons_succ, List.getElem?_cons_zero]; exact rfl
                case hw37 => rfl
                case hy37 => intro w hSw; (try dsimp only at hSw); go_simp; all_goals (with_reducible rfl)
                try simp only [Act.put, List.setIfInBounds_toArray, List.set_cons_zero, List.set_cons_succ]
                refine wpAnyH_take (i := 38) (oi := ?o38) (v := ?v38) ?hi38 (by kernel_rfl) (by kernel_rfl) (by kernel_rfl) (fun _ _ _ h => h) (Or.inl ⟨?hw38, ?hy38⟩) (by assumption) ?_
                case hi38 => simp only [List.getElem?_toArray, List.getElem?_cons_succ, List.getElem?_cons_zero]; exact rfl
                case hw38 => rfl
                case hy38 => intro w hSw; (try dsimp only at hSw); go_simp; all_goals (with_reducible rfl)
                try simp only [Act.put, List.setIfInBounds_toArray, List.set_cons_zero, List.set_cons_succ]
                refine wpAnyH_take (i := 39) (oi := ?o39) (v := ?v39) ?hi39 (by kernel_rfl) (by kernel_rfl) (by kernel_rfl) (fun _ _ _ h => h) (Or.inl ⟨?hw39, ?hy39⟩) (by assumption) ?_
                case hi39 => simp only [List.getElem?_toArray, List.getElem?_cons_succ, List.getElem?_cons_zero]; exact rfl
                case hw39 => rfl
                case hy39 => intro w hSw; (try dsimp only at hSw); go_simp; all_goals (with_reducible rfl)
                try simp only [Act.put, List.setIfInBounds_toArray, List.set_cons_zero, List.set_cons_succ]
                refine wpAnyH_take (i := 40) (oi := ?o40) (v := ?v40) ?hi40 (by kernel_rfl) (by kernel_rfl) (by kernel_rfl) (fun _ _ _ h => h) (Or.inl ⟨?hw40, ?hy40⟩) (by assumption) ?_
                case hi40 => simp only [List.getElem?_toArray, List.getElem?_cons_succ, List.getElem?_cons_zero]; exact rfl
                case hw40 => rfl
                case hy40 => intro w hSw; (try dsimp only at hSw); go_simp; all_goals (with_reducible rfl)
                try simp only [Act.put, List.setIfInBounds_toArray, List.set_cons_zero, List.set_cons_succ]
                refine wpAnyH_take (i := 41) (oi := ?o41) (v := ?v41) ?hi41 (by kernel_rfl) (by kernel_rfl) (by kernel_rfl) (fun _ _ _ h => h) (Or.inl ⟨?hw41, ?hy41⟩) (by assumption) ?_
                case hi41 => simp only [List.getElem?_toArray, List.getElem?_cons_succ, List.getElem?_cons_zero]; exact rfl
                case hw41 => rfl
                case hy41 => intro w hSw; (try dsimp only at hSw); go_simp; all_goals (with_reducible rfl)
                try simp only [Act.put, List.setIfInBounds_toArray, List.set_cons_zero, List.set_cons_succ]
                refine wpAnyH_take (i := 42) (oi := ?o42) (v := ?v42) ?hi42 (by kernel_rfl) (by kernel_rfl) (by kernel_rfl) (fun _ _ _ h => h) (Or.inl ⟨?hw42, ?hy42⟩) (by assumption) ?_
                case hi42 => simp only [List.getElem?_toArray, List.getElem?_cons_succ, List.getElem?_cons_zero]; exact rfl
                case hw42 => rfl
                case hy42 => intro w hSw; (try dsimp only at hSw); go_simp; all_goals (with_reducible rfl)
                try simp only [Act.put, List.setIfInBounds_toArray, List.set_cons_zero, List.set_cons_succ]
                refine wpAnyH_take (i := 43) (oi := ?o43) (v := ?v43) ?hi43 (by kernel_rfl) (by kernel_rfl) (by kernel_rfl) (fun _ _ _ h => h) (Or.inl ⟨?hw43, ?hy43⟩) (by assumption) ?_
                case hi43 => simp only [List.getElem?_toArray, List.getElem?_cons_succ, List.getElem?_cons_zero]; exact rfl
                case hw43 => rfl
                case hy43 => intro w hSw; (try dsimp only at hSw); go_simp; all_goals (with_reducible rfl)
                try simp only [Act.put, List.setIfInBounds_toArray, List.set_cons_zero, List.set_cons_succ]
                refine wpAnyH_take (i := 44) (oi := ?o44) (v := ?v44) ?hi44 (by kernel_rfl) (by kernel_rfl) (by kernel_rfl) (fun _ _ _ h => h) (Or.inl ⟨?hw44, ?hy44⟩) (by assumption) ?_
                case hi44 => simp only [List.getElem?_toArray, List.getElem?_cons_succ, List.getElem?_cons_zero]; exact rfl
                case hw44 => rfl
                case hy44 => intro w hSw; (try dsimp only at hSw); go_simp; all_goals (with_reducible rfl)
                try simp only [Act.put, List.setIfInBounds_toArray, List.set_cons_zero, List.set_cons_succ]
                refine wpAnyH_take (i := 45) (oi := ?o45) (v := ?v45) ?hi45 (by kernel_rfl) (by kernel_rfl) (by kernel_rfl) (fun _ _ _ h => h) (Or.inl ⟨?hw45, ?hy45⟩) (by assumption) ?_
                case hi45 => simp only [List.getElem?_toArray, List.getElem?_cons_succ, List.getElem?_cons_zero]; exact rfl
                case hw45 => rfl
                case hy45 => intro w hSw; (try dsimp only at hSw); go_simp; all_goals (with_reducible rfl)
                try simp only [Act.put, List.setIfInBounds_toArray, List.set_cons_zero, List.set_cons_succ]
                refine wpAnyH_take (i := 46) (oi := ?o46) (v := ?v46) ?hi46 (by kernel_rfl) (by kernel_rfl) (by kernel_rfl) (fun _ _ _ h => h) (Or.inl ⟨?hw46, ?hy46⟩) (by assumption) ?_
                case hi46 => simp only [List.getElem?_toArray, List.getElem?_cons_succ, List.getElem?_cons_zero]; exact rfl
                case hw46 => rfl
                case hy46 => intro w hSw; (try dsimp only at hSw); go_simp; all_goals (with_reducible rfl)
                try simp only [Act.put, List.setIfInBounds_toArray, List.set_cons_zero, List.set_cons_succ]
                refine wpAnyH_take (i := 47) (oi := ?o47) (v := ?v47) ?hi47 (by kernel_rfl) (by kernel_rfl) (by kernel_rfl) (fun _ _ _ h => h) (Or.inl ⟨?hw47, ?hy47⟩) (by assumption) ?_
                case hi47 => simp only [List.getElem?_toArray, List.getElem?_cons_succ, List.getElem?_cons_zero]; exact rfl
                case hw47 => rfl
                case hy47 => intro w hSw; (try dsimp only at hSw); go_simp; all_goals (with_reducible rfl)
                try simp only [Act.put, List.setIfInBounds_toArray, List.set_cons_zero, List.set_cons_succ]
                refine wpAnyH_take (i := 48) (oi := ?o48) (v := ?v48) ?hi48 (by kernel_rfl) (by kernel_rfl) (by kernel_rfl) (fun _ _ _ h => h) (Or.inl ⟨?hw48, ?hy48⟩) (by assumption) ?_
                case hi48 => simp only [List.getElem?_toArray, List.getElem?_cons_succ, List.getElem?_cons_zero]; exact rfl
                case hw48 => rfl
                case hy48 => intro w hSw; (try dsimp only at hSw); go_simp; all_goals (with_reducible rfl)
                try simp only [Act.put, List.setIfInBounds_toArray, List.set_cons_zero, List.set_cons_succ]
                refine wpAnyH_take (i := 49) (oi := ?o49) (v := ?v49) ?hi49 (by kernel_rfl) (by kernel_rfl) (by kernel_rfl) (fun _ _ _ h => h) (Or.inl ⟨?hw49, ?hy49⟩) (by assumption) ?_
                case hi49 => simp only [List.getElem?_toArray, List.getElem?_cons_succ, List.getElem?_cons_zero]; exact rfl
                case hw49 => rfl
                case hy49 => intro w hSw; (try dsimp only at hSw); go_simp; all_goals (with_reducible rfl)
                try simp only [Act.put, List.setIfInBounds_toArray, List.set_cons_zero, List.set_cons_succ]
                refine wpAnyH_take (i := 50) (oi := ?o50) (v := ?v50) ?hi50 (by kernel_rfl) (by kernel_rfl) (by kernel_rfl) (fun _ _ _ h => h) (Or.inl ⟨?hw50, ?hy50⟩) (by assumption) ?_
                case hi50 => simp only [List.getElem?_toArray, List.getElem?_cons_succ, List.getElem?_cons_zero]; exact rfl
                case hw50 => rfl
                case hy50 => intro w hSw; (try dsimp only at hSw); go_simp; all_goals (with_reducible rfl)
                try simp only [Act.put, List.setIfInBounds_toArray, List.set_cons_zero, List.set_cons_succ]
                refine wpAnyH_take (i := 51) (oi := ?o51) (v := ?v51) ?hi51 (by kernel_rfl) (by kernel_rfl) (by kernel_rfl) (fun _ _ _ h => h) (Or.inl ⟨?hw51, ?hy51⟩) (by assumption) ?_
                case hi51 => simp only [List.getElem?_toArray, List.getElem?_cons_succ, List.getElem?_cons_zero]; exact rfl
                case hw51 => rfl
                case hy51 => intro w hSw; (try dsimp only at hSw); go_simp; all_goals (with_reducible rfl)
                try simp only [Act.put, List.setIfInBounds_toArray, List.set_cons_zero, List.set_cons_succ]
                refine wpAnyH_done (by kernel_rfl) ?_ _
                refine NoPanic.normal ?_
                clear hg1 hg2 hg3 hg4 hz16 hw1 htn'
                obtain ⟨x0, x1, xf0, xf1, hql⟩ := HX5.out
                obtain ⟨y0, y1, yf0, yf1, hpl⟩ := H5.out.bx
                have hpq : ¬ p = q := HPX.out
                have hqp : ¬ q = p := fun e => HPX.out e.symm
                go_wp2_with fail
                have H6 := Lib.hid (so_next H5.out HZ5.out HE4.out HE6.out HE7.out HNW.out HPW.out)
                go_region
                go_wp2
                go_roundw
                case rel => exact ⟨j + 1, k, X, A3, c3, Z, rfl, by go_num, by omega, H6.out⟩
                case measure => simp [intOf]; omega
          · obtain rfl : j = i := by omega
            obtain rfl : k = 0 := by omega
            have HBT := Lib.hid HT.out.bel
            go_wp2_with fail
            refine (awake5_any _).mono ?_
            rintro e w5 ⟨rfl, hb⟩
            have HB5 := Lib.hid (HBT.out.trans (hb.mono HBT.out.size))
            clear hb
            go_wp2
            go_ret
            exact ⟨rfl, HB5.out⟩
  · have h12' : (12 : Int) < (zs.length : Int) := by omega
    go_enter Try.func5, Try.ntmps5
    go_wp2
    go_ret
    exact ⟨rfl, HB0.out⟩

/-! The row's step, as the guide's shell has it. -/
namespace dueSorts
open Go.ChangeShapes Go.WideShapes Go.ChangeAt
open Go.ChangeMaps (open_string shut_string)
theorem own : ownKnob Try.prog.godebug = none := by kernel_rfl
theorem laidOut : laidOutB Try.prog = true := by kernel_rfl

set_option maxRecDepth 100000 in
theorem lifted (os : Os) (started : os.Started) (H : Type) (enc : TypeId × Value → H) :
    ReturnsInHanded {} Try.checked os 5 .any (Rows.dueSortsSpec.pre6 enc Try.prog Try.f5 Rows.dueSortsRow.domain false) (Rows.dueSortsSpec.post enc Try.prog Try.f5 false true false false) := by
  refine returnsInHanded_of_change (C := Try.checked) own started (by kernel_rfl) Try.func5
    (ChangeSpec.witness6 (enc := enc) (C := Try.checked) false ⟨#[], #[.slice none 0 0], []⟩ 8 (by kernel_rfl) (by kernel_rfl) (by kernel_rfl) (by kernel_rfl)) ?_
  intro W base args ds gs before hval0 hW hcnd _
  have hval : ∀ (j : Nat) t v, Try.f5.params[j]? = some t → args[j]? = some v → Value.okWide Try.prog W .any base t v := hval0
  have hW' := hW
  obtain ⟨p, q, hA0, hV, rfl, hfz, hnd⟩ := hW
  have hA : DataW.TrodAll enc Try.prog W 0 (fun _ => true) true Try.f5.params.toList args.toList ds p := hA0
  rw [Try.params5] at hA hval
  obtain ⟨v0, vs0, d0, ds0, p0, q0, hargs, rfl, rfl, h0, r0⟩ := trodAll_cons hA
  obtain ⟨rfl, rfl, rfl⟩ := trodAll_nil r0
  obtain rfl : args = #[v0] := by cases args; simp_all
  obtain ⟨rfl, rfl⟩ := trodVars_none hV
  obtain ⟨a0, len0, cap0, rfl⟩ := okWide_slice Try.underlying27 (hval 0 27 v0 rfl rfl)
  have k0 := h0
  have lt0 : ∀ x ∈ p0, x.block < W.heap.size := by obtain ⟨m, hm⟩ := k0; exact DataW.trod_lt m _ _ _ hm
  obtain ⟨z0, w0⟩ : ∃ zs, Ns W W.heap.size (.slice a0 len0 cap0) zs := by
    obtain ⟨fuel, hf⟩ := h0
    rcases open_ints Try.underlying27 Try.underlying3 (by kernel_rfl) hf with ⟨hcs, _⟩ | ⟨x, l, c, zs, hcs, _, hl, hm, hz, _, hcell, hwz⟩
    · simp [Value.cells] at hcs
      obtain ⟨rfl, rfl, rfl⟩ := hcs
      exact ⟨[], Ns.nil⟩
    · simp [Value.cells] at hcs
      obtain ⟨rfl, rfl, rfl⟩ := hcs
      exact Ns.of_cells hl hm (by simpa using hz) hcell hwz
  clear hA0 hval0
  refine (DueSorts_walk W a0 len0 cap0 z0 w0).mono fun e W' ⟨he, bel⟩ => ?_
  subst he
  exact ⟨_, rfl, _, _, _, [], _, [], hW', trodAll_mk1 (shut_bool Try.underlying4 _), (trodAll_cons_mk (Below.trod laidOut (by kernel_rfl) (of_decide_eq_true (by kernel_rfl)) k0 bel lt0) trodAll_mk0), rfl, bel.frame _, fun h => by cases h⟩

theorem over : Rows.dueSortsRow.holds Try.pinned (OpenSpec.ofChange Rows.dueSortsSpec) :=
  OpenClaim.holds_of_wide 5 Try.f5 rfl rfl rfl rfl rfl rfl rfl ⟨rfl, rfl, rfl, rfl, rfl⟩ rfl rfl rfl rfl rfl (by kernel_rfl) Try.func5 (by kernel_rfl)
    (of_decide_eq_true (by kernel_rfl)) (by unfold Func.isWrapper; first | (rw [if_pos (by decide +kernel)]; kernel_rfl) | (rw [if_neg (by decide +kernel)]; exact ⟨rfl, rfl⟩))
    (fun os started H enc _ => lifted os started H enc)

/-- The statement. -/
theorem proved : Rows.DueSortsSaid := over
#print axioms proved
end dueSorts
end Go.Proofs.Ytobimcpkhgfliaa
