/- What is proved here: dead.Take, dead.Clean by contracts; the reference's Purged of message, by one contract for all arguments; shardqueueref08.Put, Take, Clean by contracts. -/
import Derived.Test.YtbeafcjbldnkhaaJ09
import Derived.Deep.RegionHeld3
import Derived.Deep.AppendLies
import Derived.ArgAppend
namespace Go.Proofs.Ytbeafcjbldnkhaa
open Go.RowKit
set_option linter.unusedVariables false

/-- What Take gives. -/
noncomputable def tk8C (cap : Int) (l : List Msg) (k ep : Int) : Int := if tk8 cap l k ep = 0 then cap else 0
noncomputable def tk8R (cap : Int) (l : List Msg) (k ep : Int) : List Msg := if tk8 cap l k ep = 0 then (pl8 k (fun M => !puF M ep) l).2 else []
noncomputable def tk8T (cap : Int) (l : List Msg) (k ep : Int) : List Msg := if tk8 cap l k ep = 0 then (pl8 k (fun M => !puF M ep) l).1 else []
/-- What Clean gives. -/
noncomputable def cl8C (cap : Int) (l : List Msg) (ep : Int) : Int := if ex8 cap l ep = 0 then cap else 0
noncomputable def cl8R (cap : Int) (l : List Msg) (ep : Int) : List Msg := if ex8 cap l ep = 0 then l.filter (fun M => !puF M ep) else []
noncomputable def cl8N (cap : Int) (l : List Msg) (ep : Int) : Int := if ex8 cap l ep = 0 then ((l.filter (fun M => puF M ep)).length : Int) else 0
theorem filter_len8 (p : Msg → Bool) (l : List Msg) : (l.filter p).length + (l.filter (fun M => !p M)).length = l.length := by
  have h := pl8_len (l.length : Int) p l
  rw [pl8_filter l (Int.le_refl _)] at h
  exact h
/-- The boxes of a store, an epoch and a result. -/
structure Tk8 (w : World) (p b r : Nat) (cap : Int) (A : Option Addr) (c : Nat) (l : List Msg) (ep : Int) (W : World) : Prop where
  tw : Tw8 w p r cap A c l W
  cb : CapE b ep W
section
variable {w W W' : World} {p b r c : Nat} {cap ep : Int} {A : Option Addr} {l R T : List Msg}
theorem Tk8.below (h : Tk8 w p b r cap A c l ep W) (hb : Below W.heap.size W W') : Tk8 w p b r cap A c l ep W' := ⟨h.tw.below hb, h.cb.below hb⟩
theorem Tk8.start (t u v : TypeId) (cap ep : Int) (hv : Ls w w.heap.size (.slice A l.length c) l) : Tk8 w w.heap.size (w.heap.size + 1) (w.heap.size + 1 + 1) cap A c l ep (((w.alloc (.cells #[.int .i64 cap, .slice A l.length c] t)).alloc (.cells #[.int .i64 ep] u)).alloc (.cells #[.int .i64 0, .slice none 0 0] v)) := by
  have e1 : (w.alloc (.cells #[.int .i64 cap, .slice A l.length c] t)).heap.size = w.heap.size + 1 := by simp
  have e2 : ((w.alloc (.cells #[.int .i64 cap, .slice A l.length c] t)).alloc (.cells #[.int .i64 ep] u)).heap.size = w.heap.size + 1 + 1 := by simp
  have h2 := DB.fresh ((w.alloc (.cells #[.int .i64 cap, .slice A l.length c] t)).alloc (.cells #[.int .i64 ep] u)) 0 none 0 0 v
  rw [e2] at h2
  refine ⟨⟨((DB.fresh w cap A l.length c t).alloc _).alloc _, h2, ((hv.alloc (Nat.le_refl _) _).alloc (by simp) _).alloc (by simp; omega) _, (((Below.refl _ _).alloc (Nat.le_refl _) _).alloc (by simp) _).alloc (by simp; omega) _, Nat.le_refl _, by omega⟩, ?_, ?_⟩
  · simp [go_sem]
  · simp
/-- The two results are stored. -/
theorem Tw8.two {A1 A2 : Option Addr} {c1 c2 : Nat} (h : Tw8 w p r cap A c l W) (hb : Below W.heap.size W W') (n1 : Nw W.heap.size A1) (n2 : Nw W.heap.size A2) (l1 : Ls W' W'.heap.size (.slice A1 R.length c1) R) (l2 : Ls W' W'.heap.size (.slice A2 T.length c2) T) :
    Nw w.heap.size A1 ∧ Nw w.heap.size A2 ∧ Ls ((((W'.setCell ⟨p, 0, none⟩ (.int .i64 cap)).setCell ⟨p, 1, none⟩ (.slice A1 R.length c1)).setCell ⟨r, 0, none⟩ (.int .i64 cap)).setCell ⟨r, 1, none⟩ (.slice A1 R.length c1)) ((((W'.setCell ⟨p, 0, none⟩ (.int .i64 cap)).setCell ⟨p, 1, none⟩ (.slice A1 R.length c1)).setCell ⟨r, 0, none⟩ (.int .i64 cap)).setCell ⟨r, 1, none⟩ (.slice A1 R.length c1)).heap.size (.slice A1 R.length c1) R ∧
    Ls ((((W'.setCell ⟨p, 0, none⟩ (.int .i64 cap)).setCell ⟨p, 1, none⟩ (.slice A1 R.length c1)).setCell ⟨r, 0, none⟩ (.int .i64 cap)).setCell ⟨r, 1, none⟩ (.slice A1 R.length c1)) ((((W'.setCell ⟨p, 0, none⟩ (.int .i64 cap)).setCell ⟨p, 1, none⟩ (.slice A1 R.length c1)).setCell ⟨r, 0, none⟩ (.int .i64 cap)).setCell ⟨r, 1, none⟩ (.slice A1 R.length c1)).heap.size (.slice A2 T.length c2) T ∧
    Below w.heap.size w ((((W'.setCell ⟨p, 0, none⟩ (.int .i64 cap)).setCell ⟨p, 1, none⟩ (.slice A1 R.length c1)).setCell ⟨r, 0, none⟩ (.int .i64 cap)).setCell ⟨r, 1, none⟩ (.slice A1 R.length c1)) := by
  have ho := h.old
  have hp := h.db.lt
  have hr := h.rs.lt
  have hz := h.bel.size
  have key : ∀ {A0 : Option Addr} {n0 c0 : Nat} {L : List Msg}, Nw W.heap.size A0 → Ls W' W'.heap.size (.slice A0 n0 c0) L → Ls ((((W'.setCell ⟨p, 0, none⟩ (.int .i64 cap)).setCell ⟨p, 1, none⟩ (.slice A1 R.length c1)).setCell ⟨r, 0, none⟩ (.int .i64 cap)).setCell ⟨r, 1, none⟩ (.slice A1 R.length c1)) ((((W'.setCell ⟨p, 0, none⟩ (.int .i64 cap)).setCell ⟨p, 1, none⟩ (.slice A1 R.length c1)).setCell ⟨r, 0, none⟩ (.int .i64 cap)).setCell ⟨r, 1, none⟩ (.slice A1 R.length c1)).heap.size (.slice A0 n0 c0) L := by
    intro A0 n0 c0 L hn hl
    have := (((hl.offo (p := ⟨p, 0, none⟩) (ob_nw hn (show p < _ from hp)) (.int .i64 cap)).offo (p := ⟨p, 1, none⟩) (ob_nw hn (show p < _ from hp)) (.slice A1 R.length c1)).offo (p := ⟨r, 0, none⟩) (ob_nw hn (show r < _ from hr)) (.int .i64 cap)).offo (p := ⟨r, 1, none⟩) (ob_nw hn (show r < _ from hr)) (.slice A1 R.length c1)
    simpa using this
  have hb' := h.bel.trans (hb.mono hz)
  exact ⟨nw_low n1 hz, nw_low n2 hz, key n1 l1, key n2 l2, (((hb'.setCell (p := ⟨p, 0, none⟩) ho.1 _).setCell (p := ⟨p, 1, none⟩) ho.1 _).setCell (p := ⟨r, 0, none⟩) (show w.heap.size ≤ r by omega) _).setCell (p := ⟨r, 1, none⟩) (show w.heap.size ≤ r by omega) _⟩
end
set_option maxHeartbeats 4000000 in
set_option maxRecDepth 20000 in
theorem take8_any (cap : Int) (A : Option Addr) (n c : Nat) (l : List Msg) (k ep : Int) (w : World) (hv : Ls w w.heap.size (.slice A n c) l) :
    Calls Try.prog 20 #[.agg #[.int .i64 cap, .slice A n c], .int .i64 k, .int .i64 ep] w (D8L w (tk8C cap l k ep) (tk8R cap l k ep) (tk8T cap l k ep) (tk8 cap l k ep)) := by
  obtain ⟨rfl, hm1, hm2⟩ := hv.len
  have H0 := Lib.hid (Tk8.start 24 3 24 cap ep hv)
  have HV := Lib.hid (fun p b r W (h : Tk8 w p b r cap A c l ep W) => exam8_any cap A l.length c l ep W h.tw.here)
  have HC0 := Lib.hid (show tk8 cap l k ep = 0 → tk8C cap l k ep = cap ∧ tk8R cap l k ep = (pl8 k (fun M => !puF M ep) l).2 ∧ tk8T cap l k ep = (pl8 k (fun M => !puF M ep) l).1 from fun h => ⟨if_pos h, if_pos h, if_pos h⟩)
  have HC1 := Lib.hid (show tk8 cap l k ep ≠ 0 → tk8C cap l k ep = 0 ∧ tk8R cap l k ep = [] ∧ tk8T cap l k ep = [] from fun h => ⟨if_neg h, if_neg h, if_neg h⟩)
  have HP := Lib.hid (fun (h12 : l.length ≤ 1000) p b r W (h : Tk8 w p b r cap A c l ep W) => dpullT_any cap A l.length c l k b ep W h.tw.here h.cb h12)
  clear hv hm1 hm2
  by_cases h0 : ex8 cap l ep = 0
  · have hk := ok8_iff.1 (ex8_zero h0).1
    obtain ⟨k1, k2, k3, _, _⟩ := hk
    have HP := Lib.hid (HP.out (by omega))
    rw [h0] at HV
    by_cases h1 : k < 0
    · have HQ := Lib.hid (tk8_k h0 h1)
      have HQ2 := Lib.hid (HC1.out (by rw [HQ.out]; decide))
      rw [HQ.out, HQ2.out.1, HQ2.out.2.1, HQ2.out.2.2]
      clear h0 HQ HQ2 HC0 HC1
      go_enter Try.func20, Try.ntmps20
      obtain ⟨b0, b1, bl⟩ := H0.out.tw.db.facts
      obtain ⟨e0, el⟩ := H0.out.cb
      go_wp2_with fail
      clear b0 b1 bl e0 el
      obtain ⟨p, hp⟩ : ∃ p, p = w.heap.size := ⟨_, rfl⟩
      obtain ⟨b, hbb⟩ : ∃ b, b = w.heap.size + 1 := ⟨_, rfl⟩
      obtain ⟨r, hr⟩ : ∃ r, r = w.heap.size + 1 + 1 := ⟨_, rfl⟩
      rw [← hr, ← hbb, ← hp] at H0
      rw [← hr, ← hbb, ← hp]
      clear hp hbb hr
      refine (HV.out _ _ _ _ H0.out).mono ?_
      rintro e w1 ⟨rfl, hb⟩
      have H1 := Lib.hid (H0.out.below hb)
      clear hb
      obtain ⟨r0, r1, rl, f0, f1⟩ := H1.out.tw.rs.all
      go_wp2
      exact bodyPost_ret (v := .tuple #[.agg #[.int .i64 0, .slice none 0 0], .slice none 0 0, .int .i64 1]) (by simp only [results, Try.results20]; go_simp <;> rfl) rfl ⟨none, 0, none, 0, rfl, nw_none, nw_none, Ls.nil, Ls.nil, H1.out.tw.zero⟩
    · have HQ := Lib.hid (tk8_ok h0 h1)
      have HQ2 := Lib.hid (HC0.out HQ.out)
      rw [HQ.out, HQ2.out.1, HQ2.out.2.1, HQ2.out.2.2]
      clear h0 HQ HQ2 HC0 HC1
      generalize (pl8 k (fun M => !puF M ep) l).1 = T at *
      generalize (pl8 k (fun M => !puF M ep) l).2 = R at *
      have hmf : ∀ (fn : Fn) (first cap : Array Value) (w : World), (Instr.makeFunc fn first cap).run Try.prog w = .ok (.func fn first cap) w := fun _ _ _ _ => rfl
      go_enter Try.func20, Try.ntmps20
      obtain ⟨b0, b1, bl⟩ := H0.out.tw.db.facts
      obtain ⟨e0, el⟩ := H0.out.cb
      go_wp2_with fail
      clear b0 b1 bl e0 el
      obtain ⟨p, hp⟩ : ∃ p, p = w.heap.size := ⟨_, rfl⟩
      obtain ⟨b, hbb⟩ : ∃ b, b = w.heap.size + 1 := ⟨_, rfl⟩
      obtain ⟨r, hr⟩ : ∃ r, r = w.heap.size + 1 + 1 := ⟨_, rfl⟩
      rw [← hr, ← hbb, ← hp] at H0
      rw [← hr, ← hbb, ← hp]
      clear hp hbb hr
      refine (HV.out _ _ _ _ H0.out).mono ?_
      rintro e w1 ⟨rfl, hb⟩
      have H1 := Lib.hid (H0.out.below hb)
      clear hb H0
      obtain ⟨b0, b1, bl⟩ := H1.out.tw.db.facts
      obtain ⟨e0, el⟩ := H1.out.cb
      go_wp2_with fail
      clear b0 b1 bl e0 el
      refine (HP.out _ _ _ _ H1.out).mono ?_
      rintro e w2 ⟨A1, c1, A2, c2, rfl, n1, n2, l1, l2, hb⟩
      have HF := Lib.hid (H1.out.tw.two hb n1 n2 l1 l2)
      have H2 := Lib.hid (H1.out.below hb)
      clear n1 n2 l1 l2 hb
      obtain ⟨b0, b1, bl, f0, f1⟩ := H2.out.tw.db.all
      obtain ⟨r0, r1, rl, g0, g1⟩ := H2.out.tw.rs.all
      obtain ⟨hpr, hrp⟩ : ¬ p = r ∧ ¬ r = p := by have := H2.out.tw.old; omega
      go_wp2
      exact bodyPost_ret (v := .tuple #[.agg #[.int .i64 cap, .slice A1 R.length c1], .slice A2 T.length c2, .int .i64 0]) (by simp only [results, Try.results20]; go_simp <;> rfl) rfl ⟨A1, c1, A2, c2, rfl, HF.out⟩
  · have HQ := Lib.hid (tk8_ex (k := k) h0)
    have HQ2 := Lib.hid (HC1.out (by rw [HQ.out]; exact h0))
    rw [HQ.out, HQ2.out.1, HQ2.out.2.1, HQ2.out.2.2]
    have hne : (ex8 cap l ep != 0) = true := by simpa using h0
    clear h0 HQ HQ2 HC0 HC1
    generalize ex8 cap l ep = v at *
    go_enter Try.func20, Try.ntmps20
    obtain ⟨b0, b1, bl⟩ := H0.out.tw.db.facts
    obtain ⟨e0, el⟩ := H0.out.cb
    go_wp2_with fail
    clear b0 b1 bl e0 el
    obtain ⟨p, hp⟩ : ∃ p, p = w.heap.size := ⟨_, rfl⟩
    obtain ⟨b, hbb⟩ : ∃ b, b = w.heap.size + 1 := ⟨_, rfl⟩
    obtain ⟨r, hr⟩ : ∃ r, r = w.heap.size + 1 + 1 := ⟨_, rfl⟩
    rw [← hr, ← hbb, ← hp] at H0
    rw [← hr, ← hbb, ← hp]
    clear hp hbb hr
    refine (HV.out _ _ _ _ H0.out).mono ?_
    rintro e w1 ⟨rfl, hb⟩
    have H1 := Lib.hid (H0.out.below hb)
    clear hb
    obtain ⟨r0, r1, rl, f0, f1⟩ := H1.out.tw.rs.all
    go_wp2
    exact bodyPost_ret (v := .tuple #[.agg #[.int .i64 0, .slice none 0 0], .slice none 0 0, .int .i64 v]) (by simp only [results, Try.results20]; go_simp <;> rfl) rfl ⟨none, 0, none, 0, rfl, nw_none, nw_none, Ls.nil, Ls.nil, H1.out.tw.zero⟩
set_option maxHeartbeats 4000000 in
set_option maxRecDepth 20000 in
theorem clean8_any (cap : Int) (A : Option Addr) (n c : Nat) (l : List Msg) (ep : Int) (w : World) (hv : Ls w w.heap.size (.slice A n c) l) :
    Calls Try.prog 23 #[.agg #[.int .i64 cap, .slice A n c], .int .i64 ep] w (D8N w (cl8C cap l ep) (cl8R cap l ep) (cl8N cap l ep) (ex8 cap l ep)) := by
  obtain ⟨rfl, hm1, hm2⟩ := hv.len
  have H0 := Lib.hid (Tk8.start 24 3 24 cap ep hv)
  have HV := Lib.hid (fun p b r W (h : Tk8 w p b r cap A c l ep W) => exam8_any cap A l.length c l ep W h.tw.here)
  have HC0 := Lib.hid (show ex8 cap l ep = 0 → cl8C cap l ep = cap ∧ cl8R cap l ep = l.filter (fun M => !puF M ep) ∧ cl8N cap l ep = ((l.filter (fun M => puF M ep)).length : Int) from fun h => ⟨if_pos h, if_pos h, if_pos h⟩)
  have HC1 := Lib.hid (show ex8 cap l ep ≠ 0 → cl8C cap l ep = 0 ∧ cl8R cap l ep = [] ∧ cl8N cap l ep = 0 from fun h => ⟨if_neg h, if_neg h, if_neg h⟩)
  have HP := Lib.hid (fun (h12 : l.length ≤ 1000) p b r W (h : Tk8 w p b r cap A c l ep W) => show Calls Try.prog 39 #[.agg #[.int .i64 cap, .slice A l.length c], .int .i64 (l.length : Int), .func (.func 42) #[] #[.pointer (some ⟨b, 0, none⟩)]] W (P8 W cap (l.filter (fun M => !puF M ep)) (l.filter (fun M => puF M ep))) by
    have := dpullC_any cap A l.length c l (l.length : Int) b ep W h.tw.here h.cb h12
    rwa [pl8_filter l (Int.le_refl _)] at this)
  have hl64 : l.length ≤ 9223372036854775807 := by unfold maxLen at hm2; omega
  clear hv hm1 hm2
  by_cases h0 : ex8 cap l ep = 0
  · have hk := ok8_iff.1 (ex8_zero h0).1
    obtain ⟨k1, k2, k3, _, _⟩ := hk
    have HP := Lib.hid (HP.out (by omega))
    have HQ2 := Lib.hid (HC0.out h0)
    have hfl := (filter_len8 (fun M => puF M ep) l)
    rw [h0] at HV
    rw [h0, HQ2.out.1, HQ2.out.2.1, HQ2.out.2.2]
    clear h0 HQ2 HC0 HC1
    generalize l.filter (fun M => puF M ep) = T at *
    generalize l.filter (fun M => !puF M ep) = R at *
    have hT64 : T.length ≤ 9223372036854775807 := by omega
    clear hfl
    have hmf : ∀ (fn : Fn) (first cap : Array Value) (w : World), (Instr.makeFunc fn first cap).run Try.prog w = .ok (.func fn first cap) w := fun _ _ _ _ => rfl
    go_enter Try.func23, Try.ntmps23
    obtain ⟨b0, b1, bl⟩ := H0.out.tw.db.facts
    obtain ⟨e0, el⟩ := H0.out.cb
    go_wp2_with fail
    clear b0 b1 bl e0 el
    obtain ⟨p, hp⟩ : ∃ p, p = w.heap.size := ⟨_, rfl⟩
    obtain ⟨b, hbb⟩ : ∃ b, b = w.heap.size + 1 := ⟨_, rfl⟩
    obtain ⟨r, hr⟩ : ∃ r, r = w.heap.size + 1 + 1 := ⟨_, rfl⟩
    rw [← hr, ← hbb, ← hp] at H0
    rw [← hr, ← hbb, ← hp]
    clear hp hbb hr
    refine (HV.out _ _ _ _ H0.out).mono ?_
    rintro e w1 ⟨rfl, hb⟩
    have H1 := Lib.hid (H0.out.below hb)
    clear hb H0
    obtain ⟨b0, b1, bl⟩ := H1.out.tw.db.facts
    obtain ⟨e0, el⟩ := H1.out.cb
    go_wp2_with fail
    clear b0 b1 bl e0 el
    refine (HP.out _ _ _ _ H1.out).mono ?_
    rintro e w2 ⟨A1, c1, A2, c2, rfl, n1, n2, l1, l2, hb⟩
    have HF := Lib.hid (H1.out.tw.two hb n1 n2 l1 l2)
    have H2 := Lib.hid (H1.out.below hb)
    clear n1 n2 l1 l2 hb
    obtain ⟨b0, b1, bl, f0, f1⟩ := H2.out.tw.db.all
    obtain ⟨r0, r1, rl, g0, g1⟩ := H2.out.tw.rs.all
    obtain ⟨hpr, hrp⟩ : ¬ p = r ∧ ¬ r = p := by have := H2.out.tw.old; omega
    go_wp2
    exact bodyPost_ret (v := .tuple #[.agg #[.int .i64 cap, .slice A1 R.length c1], .int .i64 (T.length : Int), .int .i64 0]) (by simp only [results, Try.results23]; go_simp <;> rfl) rfl ⟨A1, c1, rfl, HF.out.1, HF.out.2.2.1, HF.out.2.2.2.2⟩
  · have HQ2 := Lib.hid (HC1.out h0)
    rw [HQ2.out.1, HQ2.out.2.1, HQ2.out.2.2]
    have hne : (ex8 cap l ep != 0) = true := by simpa using h0
    clear h0 HQ2 HC0 HC1
    generalize ex8 cap l ep = v at *
    go_enter Try.func23, Try.ntmps23
    obtain ⟨b0, b1, bl⟩ := H0.out.tw.db.facts
    obtain ⟨e0, el⟩ := H0.out.cb
    go_wp2_with fail
    clear b0 b1 bl e0 el
    obtain ⟨p, hp⟩ : ∃ p, p = w.heap.size := ⟨_, rfl⟩
    obtain ⟨b, hbb⟩ : ∃ b, b = w.heap.size + 1 := ⟨_, rfl⟩
    obtain ⟨r, hr⟩ : ∃ r, r = w.heap.size + 1 + 1 := ⟨_, rfl⟩
    rw [← hr, ← hbb, ← hp] at H0
    rw [← hr, ← hbb, ← hp]
    clear hp hbb hr
    refine (HV.out _ _ _ _ H0.out).mono ?_
    rintro e w1 ⟨rfl, hb⟩
    have H1 := Lib.hid (H0.out.below hb)
    clear hb
    obtain ⟨r0, r1, rl, f0, f1⟩ := H1.out.tw.rs.all
    go_wp2
    exact bodyPost_ret (v := .tuple #[.agg #[.int .i64 0, .slice none 0 0], .int .i64 0, .int .i64 v]) (by simp only [results, Try.results23]; go_simp <;> rfl) rfl ⟨none, 0, rfl, nw_none, Ls.nil, H1.out.tw.zero⟩
end Go.Proofs.Ytbeafcjbldnkhaa
namespace Go.Proofs.Ytbeafcjbldnkhaa
open Go.RowKit
set_option linter.unusedVariables false

theorem rpurged_any (M : Msg) (k : Int) (w : World) : Calls Try.prog 46 #[M.v, .int .i64 k] w fun e w' => e = .returned (.bool (puF M k)) ∧ Below w.heap.size w w' := by
  have HB := Lib.hid ((Below.refl w.heap.size w).alloc (Nat.le_refl _) (.cells M.cs 37))
  by_cases h : M.ep < k
  · have HF := Lib.hid (show puF M k = true from decide_eq_true h)
    go_enter Try.func46, Try.ntmps46
    go_wp2
    go_ret
    exact ⟨by rw [HF.out]; rfl, HB.out⟩
  · have HF := Lib.hid (show puF M k = false from decide_eq_false h)
    go_enter Try.func46, Try.ntmps46
    go_wp2
    go_ret
    exact ⟨by rw [HF.out]; rfl, HB.out⟩
end Go.Proofs.Ytbeafcjbldnkhaa
namespace Go.Proofs.Ytbeafcjbldnkhaa
open Go.RowKit
set_option linter.unusedVariables false

theorem Tw8.give {w W : World} {p r c c1 : Nat} {cap : Int} {A A1 : Option Addr} {l L : List Msg} (h : Tw8 w p r cap A c l W) (hl : Ls W W.heap.size (.slice A1 L.length c1) L) (hn : Nw (r + 1) A1) : D8 w cap L 0 (.returned (.tuple #[.agg #[.int .i64 cap, .slice A1 L.length c1], .int .i64 0])) ((W.setCell ⟨r, 0, none⟩ (.int .i64 cap)).setCell ⟨r, 1, none⟩ (.slice A1 L.length c1)) := by
  have ho : Ob r L.length A1 := ob_nw hn (Nat.lt_succ_self r)
  refine ⟨A1, c1, rfl, nw_low hn (by have := h.old; omega), ?_, (h.bel.setCell (p := ⟨r, 0, none⟩) (show w.heap.size ≤ r by have := h.old; omega) _).setCell (p := ⟨r, 1, none⟩) (show w.heap.size ≤ r by have := h.old; omega) _⟩
  have := (hl.offo (p := ⟨r, 0, none⟩) ho (.int .i64 cap)).offo (p := ⟨r, 1, none⟩) ho (.slice A1 L.length c1)
  simpa using this
set_option maxHeartbeats 4000000 in
set_option maxRecDepth 20000 in
theorem rput8_any (cap : Int) (A : Option Addr) (n c : Nat) (l : List Msg) (Ax : Option Addr) (nx cx : Nat) (x : List Msg) (w : World) (hv : Ls w w.heap.size (.slice A n c) l) (hx : Ls w w.heap.size (.slice Ax nx cx) x) :
    Calls Try.prog 25 #[.agg #[.int .i64 cap, .slice A n c], .slice Ax nx cx] w (D8 w (pu8C cap l x) (pu8L cap l x) (pu8 cap l x)) := by
  obtain ⟨rfl, hm1, hm2⟩ := hv.len
  obtain ⟨rfl, hx1, hx2⟩ := hx.len
  have hL : l.length ≤ 9223372036854775807 := by unfold maxLen at hm2; omega
  have hLx : x.length ≤ 9223372036854775807 := by unfold maxLen at hx2; omega
  have H0 := Lib.hid (Tw8.start 24 24 cap hv)
  have HX := Lib.hid hx
  have HV := Lib.hid (fun p r W (h : Tw8 w p r cap A c l W) => rva8_any cap A l.length c l W h.here)
  have HR := Lib.hid (fun p r W (h : Tw8 w p r cap A c l W) => rroom8_any cap A l.length c l W h.here)
  clear hv hm1 hm2 hx hx1 hx2
  by_cases h0 : va8 cap l = 0
  · have hk := ok8_iff.1 h0
    obtain ⟨k1, k2, k3, _, _⟩ := hk
    rw [h0] at HV
    rw [show ro8 cap l = cap - l.length from if_pos h0] at HR
    by_cases h1 : cap - (l.length : Int) < (x.length : Int)
    · have HQ := Lib.hid (pu8_full h0 h1)
      have HQ2 := Lib.hid (show pu8C cap l x = 0 ∧ pu8L cap l x = [] from ⟨if_neg (by rw [HQ.out]; decide), if_neg (by rw [HQ.out]; decide)⟩)
      rw [HQ.out, HQ2.out.1, HQ2.out.2]
      clear h0 HQ HQ2
      go_enter Try.func25, Try.ntmps25
      obtain ⟨b0, b1, bl⟩ := H0.out.db.facts
      go_wp2_with fail
      clear b0 b1 bl
      obtain ⟨p, hp⟩ : ∃ p, p = w.heap.size := ⟨_, rfl⟩
      obtain ⟨r, hr⟩ : ∃ r, r = w.heap.size + 1 := ⟨_, rfl⟩
      rw [← hr, ← hp] at H0
      rw [← hr, ← hp]
      clear hp hr
      refine (HV.out _ _ _ H0.out).mono ?_
      rintro e w1 ⟨rfl, hb⟩
      have H1 := Lib.hid (H0.out.below hb)
      clear hb
      obtain ⟨b0, b1, bl⟩ := H1.out.db.facts
      go_wp2_with fail
      clear b0 b1 bl
      refine (HR.out _ _ _ H1.out).mono ?_
      rintro e w2 ⟨rfl, hb⟩
      have H2 := Lib.hid (H1.out.below hb)
      clear hb
      obtain ⟨r0, r1, rl, f0, f1⟩ := H2.out.rs.all
      go_wp2
      exact bodyPost_ret (v := .tuple #[.agg #[.int .i64 0, .slice none 0 0], .int .i64 3]) (by simp only [results, Try.results25]; go_simp <;> rfl) rfl (H2.out.out _)
    · obtain ⟨C, hC⟩ : ∃ C, C = pu8C cap l x := ⟨_, rfl⟩
      obtain ⟨L, hL⟩ : ∃ L, L = pu8L cap l x := ⟨_, rfl⟩
      obtain ⟨E, hE⟩ : ∃ E, E = pu8 cap l x := ⟨_, rfl⟩
      have hES : E = so8 (l ++ x) := by rw [hE, pu8_so h0 h1]
      have HZ := Lib.hid (show E = 0 → C = cap ∧ L = l ++ x from fun h => by rw [hC, hL]; exact ⟨if_pos (by rw [← hE]; exact h), if_pos (by rw [← hE]; exact h)⟩)
      have HN := Lib.hid (show E ≠ 0 → C = 0 ∧ L = [] from fun h => by rw [hC, hL]; exact ⟨if_neg (by rw [← hE]; exact h), if_neg (by rw [← hE]; exact h)⟩)
      rw [← hC, ← hL, ← hE]
      have HL2 := Lib.hid (show l.length ≤ 1000 ∧ x.length ≤ 1000 by omega)
      obtain ⟨Y, hY⟩ : ∃ Y, Y = l ++ x := ⟨_, rfl⟩
      rw [← hY] at HZ hES
      have HYY := Lib.hid hY
      have HSO := Lib.hid (fun Ay cy W (h : Ls W W.heap.size (.slice Ay Y.length cy) Y) => show Calls Try.prog 43 #[.slice Ay Y.length cy] W (V8 W E) by rw [hES]; exact rsound8_any Ay Y.length cy Y W h)
      obtain ⟨i0, hi0, hz0⟩ := Option.map_eq_some_iff.1 info_m8
      simp only [Prod.mk.injEq] at hz0
      have HI := Lib.hid hi0
      have HZZ := Lib.hid hz0
      clear h0 hC hL hE hES hY hi0 hz0
      go_enter Try.func25, Try.ntmps25
      obtain ⟨b0, b1, bl⟩ := H0.out.db.facts
      go_wp2_with fail
      clear b0 b1 bl
      obtain ⟨p, hp⟩ : ∃ p, p = w.heap.size := ⟨_, rfl⟩
      obtain ⟨r, hr⟩ : ∃ r, r = w.heap.size + 1 := ⟨_, rfl⟩
      rw [← hr, ← hp] at H0
      rw [← hr, ← hp]
      clear hp hr
      refine (HV.out _ _ _ H0.out).mono ?_
      rintro e w1 ⟨rfl, hb⟩
      have H1 := Lib.hid (H0.out.below hb)
      clear hb H0
      obtain ⟨b0, b1, bl⟩ := H1.out.db.facts
      go_wp2_with fail
      clear b0 b1 bl
      refine (HR.out _ _ _ H1.out).mono ?_
      rintro e w2 ⟨rfl, hb⟩
      have H2 := Lib.hid (H1.out.below hb)
      clear hb H1
      have HX2 := Lib.hid (HX.out.below H2.out.bel)
      obtain ⟨b0, b1, bl⟩ := H2.out.db.facts
      go_wp2_with (at_builtin; first | (refine wpList_append_rd _ rfl (.const (.slice none 0 0)) (.tmp 22) 22 rfl w2.heap.size 37 i0 _ 7 64 Try.underlying22 HI.out HZZ.out.1 HZZ.out.2.1 HZZ.out.2.2 rfl (by omega) (.slice none 0 0) 0 [] rfl (World.ownsRow_nil _ _ _ _) w.heap.size A l.length c (lcs l) rfl H2.out.ls.rd (lcs_one _) (by have := HL2.out; unfold maxLen; omega) (by have := HL2.out; omega) (Nat.le_refl _) ?_; intro v3 w3 hown3 hgrow3 hat3; have HB3 := Lib.hid (show Below w2.heap.size w2 w3 from (Below.refl _ _).grown hgrow3 (Nat.le_refl _) (fun q e => by simp [Value.ownBlock] at e)); have HO3 := Lib.hid (show w3.ownsRow w2.heap.size 37 7 v3 l.length (lcs l) by simpa using hown3); obtain ⟨A3, c3, rfl⟩ := own_form HO3.out; clear hown3 hgrow3 hat3; have HX3 := Lib.hid (HX2.out.below (HB3.out.mono H2.out.bel.size))) | (refine wpList_append_rd _ rfl (.tmp 23) (.tmp 24) 22 rfl w2.heap.size 37 i0 _ 7 64 Try.underlying22 HI.out HZZ.out.1 HZZ.out.2.1 HZZ.out.2.2 rfl (by omega) (.slice A3 l.length c3) l.length (lcs l) rfl HO3.out w.heap.size Ax x.length cx (lcs x) rfl HX3.out.rd (lcs_one _) (by have := HL2.out; unfold maxLen; omega) (by have := HL2.out; omega) HB3.out.size ?_; intro v4 w4 hown4 hgrow4 hat4))
      have HB4 := Lib.hid (show Below w2.heap.size w2 w4 from HB3.out.grown hgrow4 HB3.out.size (fun q e => (HO3.out.lt q e).1))
      have HO4 := Lib.hid (show w4.ownsRow w2.heap.size 37 7 v4 Y.length (lcs Y) by rw [HYY.out, lcs_app, List.length_append]; exact hown4)
      obtain ⟨A4, c4, rfl⟩ := own_form HO4.out
      clear hown4 hgrow4 hat4 b0 b1 bl
      have H4 := Lib.hid (H2.out.below HB4.out)
      go_wp2_with fail
      refine (HSO.out A4 c4 w4 (Ls.of_own HO4.out)).mono ?_
      rintro e w5 ⟨rfl, hb⟩
      have H5 := Lib.hid (H4.out.below hb)
      have HY5 := Lib.hid (((Ls.of_own HO4.out).below hb).more hb.size)
      have HN4 := Lib.hid (show Nw (r + 1) A4 from nw_own HO4.out (by have := H2.out.rs.lt; omega))
      clear hb
      obtain ⟨b0, b1, bl⟩ := H5.out.db.facts
      obtain ⟨r0, r1, rl, f0, f1⟩ := H5.out.rs.all
      by_cases h0 : E = 0
      · obtain ⟨rfl, rfl⟩ := HZ.out h0
        subst h0
        go_wp2
        exact bodyPost_ret (v := .tuple #[.agg #[.int .i64 C, .slice A4 L.length c4], .int .i64 0]) (by simp only [results, Try.results25]; go_simp <;> rfl) rfl (H5.out.give HY5.out HN4.out)
      · obtain ⟨rfl, rfl⟩ := HN.out h0
        have hne : (E != 0) = true := by simpa using h0
        clear h0
        go_wp2
        exact bodyPost_ret (v := .tuple #[.agg #[.int .i64 0, .slice none 0 0], .int .i64 E]) (by simp only [results, Try.results25]; go_simp <;> rfl) rfl (H5.out.out E)
  · have HQ := Lib.hid (pu8_va (x := x) h0)
    have HQ2 := Lib.hid (show pu8C cap l x = 0 ∧ pu8L cap l x = [] from ⟨if_neg (by rw [HQ.out]; exact h0), if_neg (by rw [HQ.out]; exact h0)⟩)
    rw [HQ.out, HQ2.out.1, HQ2.out.2]
    have hne : (va8 cap l != 0) = true := by simpa using h0
    clear h0 HQ HQ2
    generalize va8 cap l = v at *
    go_enter Try.func25, Try.ntmps25
    obtain ⟨b0, b1, bl⟩ := H0.out.db.facts
    go_wp2_with fail
    clear b0 b1 bl
    obtain ⟨p, hp⟩ : ∃ p, p = w.heap.size := ⟨_, rfl⟩
    obtain ⟨r, hr⟩ : ∃ r, r = w.heap.size + 1 := ⟨_, rfl⟩
    rw [← hr, ← hp] at H0
    rw [← hr, ← hp]
    clear hp hr
    refine (HV.out _ _ _ H0.out).mono ?_
    rintro e w1 ⟨rfl, hb⟩
    have H1 := Lib.hid (H0.out.below hb)
    clear hb
    obtain ⟨r0, r1, rl, f0, f1⟩ := H1.out.rs.all
    go_wp2
    exact bodyPost_ret (v := .tuple #[.agg #[.int .i64 0, .slice none 0 0], .int .i64 v]) (by simp only [results, Try.results25]; go_simp <;> rfl) rfl (H1.out.out _)
end Go.Proofs.Ytbeafcjbldnkhaa
