/- What is proved here: (plain) a slice that reads as a list of numbers; New of the statements' base makes a source of a list; lease.Find by a contract. -/
import Derived.Test.YtjclhlejbidpgaaJ19
import Derived.Test.YtjclhlejbidpgaaJ02
import Derived.Test.YtjclhlejbidpgaaJ11
import Derived.Test.YtjclhlejbidpgaaJ12
import Derived.Test.YtjclhlejbidpgaaJ13
namespace Go.Proofs.Ytjclhlejbidpgaa
open Go.RowKit
set_option linter.unusedVariables false

/-- A value that is a slice, reads as the numbers zs and lies below B. -/
def Ns (w : World) (B : Nat) (v : Value) (zs : List Int) : Prop := ∃ A c, v = .slice A zs.length c ∧ zs.length ≤ c ∧ c ≤ maxLen ∧ Rd w B 1 A zs.length (zs.map i64v) ∧ ∀ z ∈ zs, -9223372036854775808 ≤ z ∧ z ≤ 9223372036854775807

section
variable {w w' : World} {B B' : Nat} {v : Value} {zs : List Int}
theorem Ns.nil : Ns w B (.slice none 0 0) [] := ⟨none, 0, rfl, Nat.le_refl _, Nat.zero_le _, Rd.nil none, by simp⟩
theorem Ns.below (h : Ns w B v zs) (hb : Below B w w') : Ns w' B v zs := by
  obtain ⟨A, c, e, hl, hm, h, hz⟩ := h; exact ⟨A, c, e, hl, hm, h.below hb, hz⟩
theorem Ns.parts {A : Option Addr} {n c : Nat} (h : Ns w B (.slice A n c) zs) : n = zs.length ∧ n ≤ c ∧ c ≤ maxLen ∧ Rd w B 1 A n (zs.map i64v) ∧ ∀ z ∈ zs, -9223372036854775808 ≤ z ∧ z ≤ 9223372036854775807 := by
  obtain ⟨A', c', e, hl, hm, h, hz⟩ := h
  injection e with e1 e2 e3
  subst e1; subst e2; subst e3
  exact ⟨rfl, hl, hm, h, hz⟩
/-- From the way in which the guide opens a slice of numbers that came in. -/
theorem Ns.of_cells {a : Addr} {l c : Nat} {zs : List Int} (hl : l ≤ c) (hm : c ≤ maxLen) (hz : zs.length = c) (hc : ∀ i, i < zs.length → w.cell? (a.add i) = some (.int .i64 (zs.getD i 0))) (hw : ∀ n ∈ zs, (Lit.int .i64 n).wf = true) :
    ∃ ys, Ns w w.heap.size (.slice (some a) l c) ys := by
  have hlen : (zs.take l).length = l := by simp; omega
  refine ⟨zs.take l, some a, c, by rw [hlen], by omega, hm, ⟨by simp, fun hn => ?_⟩, fun z hz' => ?_⟩
  · rw [hlen] at hn
    obtain ⟨b, o, spot⟩ := a
    have h0 := hc 0 (by omega)
    have hspot : spot = none := by simpa [Addr.add] using World.cell?_spot h0
    subst hspot
    refine ⟨b, o, rfl, World.block_lt_of_cell? w ⟨b, o, none⟩ (by simpa [Addr.add] using h0), fun j u hu => ?_⟩
    simp only [List.getElem?_map, Option.map_eq_some_iff] at hu
    obtain ⟨x, hx, rfl⟩ := hu
    obtain ⟨hj, rfl⟩ := List.getElem?_eq_some_iff.1 hx
    have hj' : j < zs.length := by simp at hj; omega
    have h := hc j hj'
    rw [add_mk] at h
    rw [h]
    simp [i64v, List.getD, hj']
  · have := hw z (List.mem_of_mem_take hz')
    simp only [Lit.wf, Bool.and_eq_true, decide_eq_true_eq] at this
    exact this
end
end Go.Proofs.Ytjclhlejbidpgaa
namespace Go.Proofs.Ytjclhlejbidpgaa
open Go.RowKit
set_option linter.unusedVariables false

/-- A new source. -/
def SrNew (w : World) (e : Ending) (w' : World) : Prop := ∃ g, e = .returned (.pointer (some ⟨g, 0, none⟩)) ∧ SrcAt w' w.heap.size g ∧ Below w.heap.size w w'

theorem src_new (w : World) (A : Option Addr) (n c : Nat) (zs : List Int) (t : TypeId) (h : Rd w w.heap.size 1 A n (zs.map i64v)) (hn : n ≤ 4000) (hc : n ≤ c) (hm : c ≤ maxLen) (hz : ∀ z ∈ zs, -9223372036854775808 ≤ z ∧ z ≤ 9223372036854775807) :
    SrNew w (.returned (.pointer (some ⟨w.heap.size, 0, none⟩))) (w.alloc (.cells #[.slice A n c, .int .i64 0] t)) :=
  ⟨_, rfl, ⟨Nat.le_refl _, by simp, A, n, c, 0, zs, by omega, hn, hc, hm, by simp [go_sem], by simp [go_sem], by simp [go_sem], h.alloc (Nat.le_refl _) _, hz⟩, (Below.refl _ _).alloc (Nat.le_refl _) _⟩

theorem new_src (A : Option Addr) (n c : Nat) (zs : List Int) (w : World) (h : Ns w w.heap.size (.slice A n c) zs) : Calls Try.prog 6 #[.slice A n c] w (SrNew w) := by
  obtain ⟨hn, hc, hm, hr, hz⟩ := h.parts
  by_cases h4 : (4000 : Int) < (n : Int)
  · have ht' : Try.prog.underlying 22 = some (.slice (Try.prog.elem 22)) := by kernel_rfl
    have he : Try.prog.elem 22 = 3 := by kernel_rfl
    have hz8 : ∀ w, (Go.sizeOf 3).run Try.prog w = .ok 1 w := Try.sizeOf3
    have hcut : ∀ W, (Instr.slice 22 (.slice A n c) none (some (.int .i64 4000)) none).run Try.prog W = .ok (.slice A 4000 c) W := fun W => by
      have hq := run_slice_h W 22 A n c ht' .i64 4000 (by omega) (by omega)
      rw [hq, he, hz8]
      cases A <;> simp [Result.andThen, sliced, Addr.add]
    have hr4 : Rd w w.heap.size 1 A 4000 ((zs.take 4000).map i64v) := by
      have hlen : zs.length = n := hn.symm
      refine ⟨by simp; omega, fun h0 => ?_⟩
      obtain ⟨b, o, rfl, hb, hcc⟩ := hr.2 (by omega)
      refine ⟨b, o, rfl, hb, fun k u hu => hcc k u ?_⟩
      have hk : k < 4000 := by
        have := (List.getElem?_eq_some_iff.1 hu).1
        simp at this; omega
      rw [← hu, List.map_take, List.getElem?_take_of_lt hk]
    have HN := Lib.hid (src_new w A 4000 c (zs.take 4000) 54 hr4 (by omega) (by omega) hm (fun z hz' => hz z (List.mem_of_mem_take hz')))
    clear h hn hc hm hr hz hr4 hz8 he ht'
    go_enter Try.func6, Try.ntmps6
    go_wp2
    go_ret
    exact HN.out
  · have HN := Lib.hid (src_new w A n c zs 54 hr (by omega) hc hm hz)
    clear h hn hc hm hr hz
    go_enter Try.func6, Try.ntmps6
    go_wp2
    go_ret
    exact HN.out
end Go.Proofs.Ytjclhlejbidpgaa
namespace Go.Proofs.Ytjclhlejbidpgaa
open Go.RowKit
set_option linter.unusedVariables false

theorem fn_has {l : List Le} {h : List Du} {id : Int} (t : TbOk l h) (e : kHas Le.id l id = true) : ∃ hk : kAt Le.id l id < l.length, fnO l h id = true ∧ fnX l h id = l[kAt Le.id l id] := by
  obtain ⟨e1, e2⟩ := kAt_fi t.asc (kHas_iff.1 e)
  exact ⟨e2, fn_yes ((tbV_iff l h).2 t) e2 e1⟩
set_option maxHeartbeats 8000000 in
set_option maxRecDepth 20000 in
theorem lfind_any (A : Option Addr) (n c : Nat) (l : List Le) (A2 : Option Addr) (n2 c2 : Nat) (h : List Du) (id : Int) (w : World) (hv : El w w.heap.size (.slice A n c) l) (hd : Dl w w.heap.size (.slice A2 n2 c2) h) :
    Calls Try.prog 16 #[tv A n c A2 n2 c2, .int .i64 id] w fun e w' => e = .returned (.tuple #[(fnX l h id).v, .bool (fnO l h id)]) ∧ Below w.heap.size w w' := by
  obtain ⟨rfl, hm1, hm2⟩ := hv.len
  obtain ⟨rfl, hm3, hm4⟩ := hd.len
  have H0 := Lib.hid ((VaA.start 28 hv hd).alloc (.cells #[.int .i64 0, .int .i64 0, .int .i64 0, .int .i64 0, .int .i64 0, .int .i64 0, .string ⟨#[]⟩, .int .i64 0] 45))
  have HR0 := Lib.hid (RL.start (w.alloc (.cells #[.slice A l.length c, .slice A2 h.length c2] 28)) zL 45)
  clear hv hd hm1 hm2 hm3 hm4
  obtain ⟨O, hO⟩ : ∃ O, O = fnO l h id := ⟨_, rfl⟩
  obtain ⟨X, hX⟩ : ∃ X, X = fnX l h id := ⟨_, rfl⟩
  obtain ⟨z, hz⟩ : ∃ z, z = tbV l h := ⟨_, rfl⟩
  have HV := Lib.hid (fun p W (k : VaA w p A c l A2 c2 h W) => lvalid_any A l.length c l A2 h.length c2 h W k.el k.dl)
  rw [← hz] at HV
  rw [← hO, ← hX]
  have HO := Lib.hid hO
  have HX := Lib.hid hX
  have HZ := Lib.hid hz
  clear hO hX hz
  go_enter Try.func16, Try.ntmps16
  obtain ⟨t0, t1, tl⟩ := H0.out.tb
  go_wp2_with fail
  clear t0 t1 tl
  obtain ⟨p, hp⟩ : ∃ p, p = w.heap.size := ⟨_, rfl⟩
  obtain ⟨r, hr⟩ : ∃ r, r = w.heap.size + 1 := ⟨_, rfl⟩
  have HPR := Lib.hid (show ¬ p = r ∧ w.heap.size ≤ r by omega)
  have e1 : (w.alloc (.cells #[.slice A l.length c, .slice A2 h.length c2] 28)).heap.size = r := by rw [hr]; simp
  rw [e1] at HR0
  have HS := Lib.hid (show VaA w p A c l A2 c2 h ((w.alloc (.cells #[.slice A l.length c, .slice A2 h.length c2] 28)).alloc (.cells #[.int .i64 0, .int .i64 0, .int .i64 0, .int .i64 0, .int .i64 0, .int .i64 0, .string ⟨#[]⟩, .int .i64 0] 45)) ∧ RL ((w.alloc (.cells #[.slice A l.length c, .slice A2 h.length c2] 28)).alloc (.cells #[.int .i64 0, .int .i64 0, .int .i64 0, .int .i64 0, .int .i64 0, .int .i64 0, .string ⟨#[]⟩, .int .i64 0] 45)) r zL from ⟨by rw [hp]; exact H0.out, HR0.out⟩)
  rw [← hr, ← hp]
  clear e1 H0 HR0 hp hr
  generalize ((w.alloc (.cells #[.slice A l.length c, .slice A2 h.length c2] 28)).alloc (.cells #[.int .i64 0, .int .i64 0, .int .i64 0, .int .i64 0, .int .i64 0, .int .i64 0, .string ⟨#[]⟩, .int .i64 0] 45)) = w2 at *
  have hpr : ¬ p = r := HPR.out.1
  have hrp : ¬ r = p := fun e => HPR.out.1 e.symm
  by_cases hz0 : z = 0
  · rw [hz0] at HV
    have HT := Lib.hid ((tbV_iff l h).1 (HZ.out.symm.trans hz0))
    have HP := Lib.hid (fun p W (k : VaA w p A c l A2 c2 h W) => place_any A l.length c l id W k.el HT.out.asc (by have := HT.out.len; omega))
    have HFH := Lib.hid (fun e => fn_has (id := id) HT.out e)
    have HFN := Lib.hid (fun e => fn_no (l := l) (h := h) (id := id) e)
    have HKN := Lib.hid (fun e => (kHas_not (key := Le.id) (l := l) (x := id)).1 e)
    unfold PlR at HP
    obtain ⟨i, hi⟩ : ∃ i, i = kAt Le.id l id := ⟨_, rfl⟩
    rw [← hi] at HP
    have HI := Lib.hid hi
    clear hz0 hi
    refine (HV.out _ _ HS.out.1).mono ?_
    rintro e w3 ⟨rfl, hb⟩
    have HS3 := Lib.hid (show VaA w p A c l A2 c2 h w3 ∧ RL w3 r zL from ⟨HS.out.1.below hb, HS.out.2.below hb HS.out.2.lt⟩)
    clear hb
    obtain ⟨t0, t1, tl⟩ := HS3.out.1.tb
    go_wp2_with fail
    clear t0 t1 tl
    cases ho : kHas Le.id l id with
    | false =>
      rw [ho] at HP
      have HXO := Lib.hid (show X = zL ∧ O = false from ⟨HX.out.trans (HFN.out (fun hh => by have := HKN.out ho; omega)).2, HO.out.trans (HFN.out (fun hh => by have := HKN.out ho; omega)).1⟩)
      clear ho
      refine (HP.out _ _ HS3.out.1).mono ?_
      rintro e w4 ⟨rfl, hb⟩
      have HS4 := Lib.hid (show VaA w p A c l A2 c2 h w4 ∧ RL w4 r zL from ⟨HS3.out.1.below hb, HS3.out.2.below hb HS3.out.2.lt⟩)
      clear hb
      obtain ⟨r0, r1, r2, r3, r4, r5, r6, r7, g0, g1, g2, g3, g4, g5, g6, g7, rl⟩ := HS4.out.2
      go_wp2
      exact bodyPost_ret (v := .tuple #[.agg #[.int .i64 0, .int .i64 0, .int .i64 0, .int .i64 0, .int .i64 0, .int .i64 0, .string ⟨#[]⟩, .int .i64 0], .bool false]) (by simp only [results, Try.results16]; go_simp <;> rfl) rfl ⟨by rw [HXO.out.1, HXO.out.2]; rfl, sets_below HPR.out.2 zL.l 0 _ HS4.out.1.bel⟩
    | true =>
      rw [ho] at HP
      obtain ⟨hk, e1, e2⟩ := HFH.out ho
      have hki : i < l.length := by rw [HI.out]; exact hk
      have hki' : (i : Int) < (l.length : Int) := by omega
      obtain ⟨Y, hY⟩ : ∃ Y, l[i] = Y := ⟨_, rfl⟩
      have HXO := Lib.hid (show X = Y ∧ O = true from ⟨(HX.out.trans e2).trans (by rw [← hY]; simp only [HI.out]), HO.out.trans e1⟩)
      have HYK := Lib.hid hY
      clear ho e1 e2 hk hY
      refine (HP.out _ _ HS3.out.1).mono ?_
      rintro e w4 ⟨rfl, hb⟩
      have HS4 := Lib.hid (show VaA w p A c l A2 c2 h w4 ∧ RL w4 r zL from ⟨HS3.out.1.below hb, HS3.out.2.below hb HS3.out.2.lt⟩)
      clear hb
      obtain ⟨t0, t1, tl⟩ := HS4.out.1.tb
      obtain ⟨r0, r1, r2, r3, r4, r5, r6, r7, g0, g1, g2, g3, g4, g5, g6, g7, rl⟩ := HS4.out.2
      obtain ⟨b, o, rfl, hbl⟩ := HS4.out.1.el.some_ (by omega)
      obtain ⟨⟨c0, c1, c2', c3, c4, c5, c6, c7⟩, _⟩ := HS4.out.1.el.c8 hki
      rw [HYK.out] at c0 c1 c2' c3 c4 c5 c6 c7
      go_wp2
      exact bodyPost_ret (v := .tuple #[Y.v, .bool true]) (by simp only [results, Try.results16]; go_simp <;> rfl) rfl ⟨by rw [HXO.out.1, HXO.out.2], sets_below HPR.out.2 Y.l 0 _ HS4.out.1.bel⟩
  · have hz' : (z != 0) = true := by simpa using hz0
    have HXO := Lib.hid (show X = zL ∧ O = false from ⟨HX.out.trans (fn_no fun hh => by have := HZ.out; omega).2, HO.out.trans (fn_no fun hh => by have := HZ.out; omega).1⟩)
    clear hz0
    refine (HV.out _ _ HS.out.1).mono ?_
    rintro e w4 ⟨rfl, hb⟩
    have HS4 := Lib.hid (show VaA w p A c l A2 c2 h w4 ∧ RL w4 r zL from ⟨HS.out.1.below hb, HS.out.2.below hb HS.out.2.lt⟩)
    clear hb
    obtain ⟨r0, r1, r2, r3, r4, r5, r6, r7, g0, g1, g2, g3, g4, g5, g6, g7, rl⟩ := HS4.out.2
    go_wp2
    exact bodyPost_ret (v := .tuple #[.agg #[.int .i64 0, .int .i64 0, .int .i64 0, .int .i64 0, .int .i64 0, .int .i64 0, .string ⟨#[]⟩, .int .i64 0], .bool false]) (by simp only [results, Try.results16]; go_simp <;> rfl) rfl ⟨by rw [HXO.out.1, HXO.out.2]; rfl, sets_below HPR.out.2 zL.l 0 _ HS4.out.1.bel⟩
end Go.Proofs.Ytjclhlejbidpgaa
