/- What is proved here: '==' and '!=' of two deadlines; slices.Contains of deadlines, lease.consistsOf, lease.Validate by contracts; lease.Validate, lease.place by contracts. -/
import Derived.Test.YtdilgeabcacbdaaJ01
import Derived.Test.YtdilgeabcacbdaaJ17
import Derived.Laws.StructEq
import Derived.KernelRfl
import Derived.Test.YtdilgeabcacbdaaJ27
import Derived.Test.YtdilgeabcacbdaaJ20
import Derived.Deep.QuietTactic
import Derived.BigQuiet
namespace Go.Proofs.Ytdilgeabcacbdaa
open Go.RowKit
set_option linter.unusedVariables false

open Classical in
theorem eqd_in (a b : Du) (W : World) : (Op.equalIn 10000 118 a.v b.v).run Try.prog W = .ok (decide (a = b)) W := by
  have u3 := Try.underlying3
  have hS : Try.prog.underlying 118 = some (.struct (Try.prog.fieldsOf 118)) := by kernel_rfl
  have hp : Try.prog.stoodInHeld 118 = false := by kernel_rfl
  rw [show (10000 : Nat) = 9999 + 1 from rfl, run_equalIn_agg W 9999 118 _ _ hS hp]
  simp only [Program.fieldsOf, Try.underlying118]
  by_cases h0 : a.dl = b.dl
  · by_cases h1 : a.id = b.id
    · have e : decide (a = b) = true := decide_eq_true (by cases a; cases b; simp_all)
      have h0' : (a.dl == b.dl) = true := by simpa using h0
      have h1' : (a.id == b.id) = true := by simpa using h1
      rw [e]
      clear e h0 h1
      go_simp
    · have e : decide (a = b) = false := decide_eq_false (fun e => h1 (by rw [e]))
      have h0' : (a.dl == b.dl) = true := by simpa using h0
      have h1' : (a.id == b.id) = false := by simpa using h1
      rw [e]
      clear e h0 h1
      go_simp
  · have e : decide (a = b) = false := decide_eq_false (fun e => h0 (by rw [e]))
    have h0' : (a.dl == b.dl) = false := by simpa using h0
    rw [e]
    clear e h0
    go_simp
open Classical in
theorem eqd_yes (a : Du) : ∀ W, (binOp .eql 118 a.v a.v).run Try.prog W = .ok (.bool true) W := fun W => by
  rw [run_eql_struct, eqd_in, decide_eq_true (show a = a from rfl)]; rfl
open Classical in
theorem eqd_no {a b : Du} (h : a ≠ b) : ∀ W, (binOp .eql 118 a.v b.v).run Try.prog W = .ok (.bool false) W := fun W => by
  rw [run_eql_struct, eqd_in, decide_eq_false h]; rfl
end Go.Proofs.Ytdilgeabcacbdaa
namespace Go.Proofs.Ytdilgeabcacbdaa
open Go.RowKit
set_option linter.unusedVariables false

/-- A deadline in a box. -/
abbrev DB (W : World) (p : Nat) (d : Du) : Prop := W.cell? ⟨p, 0, none⟩ = some (.int .i64 d.dl) ∧ W.cell? ⟨p, 1, none⟩ = some (.int .i64 d.id) ∧ p < W.heap.size
theorem DB.start (w : World) (d : Du) (t : TypeId) : DB (w.alloc (.cells #[.int .i64 d.dl, .int .i64 d.id] t)) w.heap.size d := ⟨by simp [go_sem], by simp [go_sem], by simp⟩
theorem DB.below {B : Nat} {W W' : World} {p : Nat} {d : Du} (h : DB W p d) (hb : Below B W W') (hp : p < B) : DB W' p d :=
  ⟨(hb.cell (p := ⟨p, 0, none⟩) hp).trans h.1, (hb.cell (p := ⟨p, 1, none⟩) hp).trans h.2.1, Nat.lt_of_lt_of_le h.2.2 hb.size⟩
/-- A place that is there just if the list has the element. -/
def HxP (l : List Du) (d : Du) (w : World) (e : Ending) (w' : World) : Prop := ∃ r : Int, e = .returned (.int .i64 r) ∧ (0 ≤ r ↔ d ∈ l) ∧ Below w.heap.size w w'
theorem hx_yes {l : List Du} {d : Du} {k : Nat} (hk : k < l.length) (e : d = ge l k) : 0 ≤ (k : Int) ↔ d ∈ l := ⟨fun _ => by rw [e]; exact mem_ge hk, fun _ => by omega⟩
theorem hx_no {l : List Du} {d : Du} (h : ∀ j, j < l.length → d ≠ ge l j) : 0 ≤ (-1 : Int) ↔ d ∈ l := ⟨fun h => absurd h (by decide), fun hd => by obtain ⟨j, hj, e⟩ := ge_mem hd; exact absurd e.symm (h j hj)⟩
open Classical in
set_option maxHeartbeats 2000000 in
theorem dindex_any (A : Option Addr) (n c : Nat) (l : List Du) (d : Du) (w : World) (hv : Dl w w.heap.size (.slice A n c) l) :
    Calls Try.prog 147 #[.slice A n c, d.v] w (HxP l d w) := by
  obtain ⟨rfl, hm1, hm2⟩ := hv.len
  have hL : l.length ≤ 9223372036854775807 := by unfold maxLen at hm2; omega
  have HB := Lib.hid ((Below.refl w.heap.size w).alloc (Nat.le_refl _) (.cells #[.int .i64 d.dl, .int .i64 d.id] 118))
  have HD := Lib.hid (DB.start w d 118)
  have HV := Lib.hid (hv.up HB.out)
  clear hv hm1 hm2
  go_enter Try.func147, Try.ntmps147
  go_wp2
  obtain ⟨p, hp⟩ : ∃ p, p = w.heap.size := ⟨_, rfl⟩
  rw [← hp] at HD ⊢
  clear hp
  generalize w.alloc (.cells #[.int .i64 d.dl, .int .i64 d.id] 118) = w1 at *
  go_loopw [8] (fun i wr => ∃ k : Nat, k ≤ l.length ∧ i = .int .i64 k ∧ Below w1.heap.size w1 wr ∧ ∀ j, j < k → d ≠ ge l j) (fun i _ => l.length - (intOf i).toNat)
  case atStart => exact ⟨0, by omega, rfl, Below.refl _ _, fun j h => absurd h (by omega)⟩
  case round =>
    obtain ⟨k, hk, rfl, hb, hno⟩ := hrel
    have HN := Lib.hid hno
    have HVK := Lib.hid (HV.out.below hb)
    obtain ⟨x0, x1, xl⟩ := HD.out.below hb HD.out.2.2
    have HB := Lib.hid (HB.out.trans (hb.mono HB.out.size))
    have HB1 := Lib.hid hb
    clear hno hb
    by_cases hlt : k < l.length
    · obtain ⟨b, o, rfl, hb, c0, c1⟩ := HVK.out.atg hlt
      by_cases he : d = ge l k
      · have HR := Lib.hid (hx_yes hlt he)
        have heq := eqd_yes d
        rw [← he] at c0 c1
        clear he
        go_wp2
        go_quiet (fail)
        go_wp2
        go_ret
        exact ⟨k, rfl, HR.out, below_drewN HB.out _⟩
      · have HNN := Lib.hid (show ∀ j, j < k + 1 → d ≠ ge l j from fun j h => by
          by_cases e : j = k
          · rw [e]; exact he
          · exact HN.out j (by omega))
        have heq := eqd_no he
        clear he
        generalize ge l k = M at *
        go_wp2
        go_quiet (fail)
        go_wp2
        go_roundw
        case rel => exact ⟨k + 1, by omega, by go_num, below_drewN HB1.out _, HNN.out⟩
        case measure => simp [intOf]; omega
    · have HR := Lib.hid (hx_no (l := l) (d := d) (fun j hj => HN.out j (by omega)))
      go_wp2
      go_ret
      exact ⟨-1, rfl, HR.out, HB.out⟩
open Classical in
theorem dcontain_any (A : Option Addr) (n c : Nat) (l : List Du) (d : Du) (w : World) (hv : Dl w w.heap.size (.slice A n c) l) :
    Calls Try.prog 135 #[.slice A n c, d.v] w fun e w' => e = .returned (.bool (decide (d ∈ l))) ∧ Below w.heap.size w w' := by
  have HB := Lib.hid ((Below.refl w.heap.size w).alloc (Nat.le_refl _) (.cells #[.int .i64 d.dl, .int .i64 d.id] 118))
  have HC := Lib.hid (dindex_any A n c l d _ (hv.up HB.out))
  clear hv
  go_enter Try.func135, Try.ntmps135
  go_wp2_with fail
  refine HC.out.mono ?_
  rintro e w1 ⟨r, rfl, hr, hb1⟩
  have HB1 := Lib.hid (HB.out.trans (hb1.mono HB.out.size))
  have HR := Lib.hid (show decide (0 ≤ r) = decide (d ∈ l) from by rw [Bool.eq_iff_iff, decide_eq_true_iff, decide_eq_true_iff]; exact hr)
  clear hr hb1
  go_wp2
  go_ret
  exact ⟨by rw [← HR.out]; rfl, HB1.out⟩

open Classical in
set_option maxHeartbeats 2000000 in
theorem consists_any (A : Option Addr) (n c : Nat) (l : List Le) (A2 : Option Addr) (n2 c2 : Nat) (h : List Du) (w : World) (hv : El w w.heap.size (.slice A n c) l) (hd : Dl w w.heap.size (.slice A2 n2 c2) h) :
    Calls Try.prog 113 #[.slice A2 n2 c2, .slice A n c] w fun e w' => e = .returned (.bool (cnF h l)) ∧ Below w.heap.size w w' := by
  obtain ⟨rfl, hm1, hm2⟩ := hv.len
  obtain ⟨rfl, hm3, hm4⟩ := hd.len
  have hL : l.length ≤ 9223372036854775807 := by unfold maxLen at hm2; omega
  have hH : h.length ≤ 9223372036854775807 := by unfold maxLen at hm4; omega
  have HV := Lib.hid hv
  have HD := Lib.hid hd
  have HB := Lib.hid (Below.refl w.heap.size w)
  clear hv hd hm1 hm2 hm3 hm4
  go_enter Try.func113, Try.ntmps113
  go_wp2
  go_loopw [9] (fun i wr => ∃ k : Nat, k ≤ l.length ∧ i = .int .i64 k ∧ Below w.heap.size w wr ∧ ∀ j, j < k → (lg l j).du ∈ h) (fun i _ => l.length - (intOf i).toNat)
  case atStart => exact ⟨0, by omega, rfl, HB.out, fun j h => absurd h (by omega)⟩
  case round =>
    obtain ⟨k, hk, rfl, hb, hno⟩ := hrel
    have HN := Lib.hid hno
    have HVK := Lib.hid (HV.out.up hb)
    have HDK := Lib.hid (HD.out.up hb)
    have HB := Lib.hid hb
    clear hno hb
    by_cases hlt : k < l.length
    · obtain ⟨b, o, rfl, _⟩ := HVK.out.some_ (by omega)
      obtain ⟨⟨c0, c1, c2', c3, c4, c5, c6, c7⟩, hb⟩ := HVK.out.c8 hlt
      obtain ⟨X, hX⟩ : ∃ X, l[k] = X := ⟨_, rfl⟩
      rw [hX] at c0 c1 c2' c3 c4 c5 c6 c7
      have HX := Lib.hid (show lg l k = X by rw [← lg_get hlt]; exact hX)
      clear hX hb
      have HBW := Lib.hid ((Below.refl wr.heap.size wr).alloc (Nat.le_refl _) (.cells #[.int .i64 X.m.id, .int .i64 X.m.rt, .int .i64 X.m.ep, .int .i64 X.m.ct, .int .i64 X.m.gn, .int .i64 X.m.st, .string X.m.bd, .int .i64 X.dl] 95))
      have HXB := Lib.hid (El8.start wr X 95)
      have HF := Lib.hid (fun W => dueof_any X W)
      have HC := Lib.hid (fun W hb => dcontain_any A2 h.length c2 h X.du W (HDK.out.up hb))
      have HCN := Lib.hid (cnF_no (h := h) hlt)
      rw [HX.out] at HCN
      have HB2 := Lib.hid HB.out
      go_wp2_with fail
      clear c0 c1 c2' c3 c4 c5 c6 c7
      obtain ⟨q, hq⟩ : ∃ q, q = wr.heap.size := ⟨_, rfl⟩
      rw [← hq] at HXB ⊢
      clear hq
      generalize wr.alloc (.cells #[.int .i64 X.m.id, .int .i64 X.m.rt, .int .i64 X.m.ep, .int .i64 X.m.ct, .int .i64 X.m.gn, .int .i64 X.m.st, .string X.m.bd, .int .i64 X.dl] 95) = w2 at *
      by_cases hm : X.du ∈ h
      · have HNN := Lib.hid (show ∀ j, j < k + 1 → (lg l j).du ∈ h from fun j h => by
          by_cases e : j = k
          · rw [e, HX.out]; exact hm
          · exact HN.out j (by omega))
        rw [decide_eq_true hm] at HC
        clear hm
        refine (HF.out _).mono ?_
        rintro e w3 ⟨rfl, hb⟩
        have HB3 := Lib.hid (HBW.out.trans (hb.mono HBW.out.size))
        clear hb
        go_wp2_with fail
        refine (HC.out _ HB3.out).mono ?_
        rintro e w4 ⟨rfl, hb⟩
        have HB4 := Lib.hid (HB2.out.trans ((HB3.out.trans (hb.mono HB3.out.size)).mono HB2.out.size))
        clear hb
        go_wp2
        go_roundw
        case rel => exact ⟨k + 1, by omega, by go_num, HB4.out, HNN.out⟩
        case measure => simp [intOf]; omega
      · have HR := Lib.hid (HCN.out hm)
        rw [decide_eq_false hm] at HC
        clear hm
        refine (HF.out _).mono ?_
        rintro e w3 ⟨rfl, hb⟩
        have HB3 := Lib.hid (HBW.out.trans (hb.mono HBW.out.size))
        clear hb
        go_wp2_with fail
        refine (HC.out _ HB3.out).mono ?_
        rintro e w4 ⟨rfl, hb⟩
        have HB4 := Lib.hid (HB2.out.trans ((HB3.out.trans (hb.mono HB3.out.size)).mono HB2.out.size))
        clear hb
        go_wp2
        go_ret
        exact ⟨by rw [HR.out]; rfl, HB4.out⟩
    · have HR := Lib.hid (cnF_len (h := h) (l := l) (fun j hj => HN.out j (by omega)))
      by_cases hle : h.length = l.length
      · rw [decide_eq_true hle] at HR
        have hle' : ((h.length : Int) == (l.length : Int)) = true := by simpa using (by omega : (h.length : Int) = l.length)
        clear hle
        go_wp2
        go_ret
        exact ⟨by rw [HR.out]; simp_all, HB.out⟩
      · rw [decide_eq_false hle] at HR
        have hle' : ((h.length : Int) == (l.length : Int)) = false := by simpa using (by omega : ¬ (h.length : Int) = l.length)
        clear hle
        go_wp2
        go_ret
        exact ⟨by rw [HR.out]; simp_all, HB.out⟩
end Go.Proofs.Ytdilgeabcacbdaa
namespace Go.Proofs.Ytdilgeabcacbdaa
open Go.RowKit
set_option linter.unusedVariables false

theorem tbV_lst {l : List Le} {h : List Du} (h1 : ¬ 12 < l.length) (h2 : leS l 0 ≠ 0) : tbV l h = leS l 0 := by
  unfold tbV; rw [if_neg h1, if_pos h2]
set_option maxHeartbeats 4000000 in
set_option maxRecDepth 20000 in
theorem lvalid_any (A : Option Addr) (n c : Nat) (l : List Le) (A2 : Option Addr) (n2 c2 : Nat) (h : List Du) (w : World) (hv : El w w.heap.size (.slice A n c) l) (hd : Dl w w.heap.size (.slice A2 n2 c2) h) :
    Calls Try.prog 93 #[tv A n c A2 n2 c2] w fun e w' => e = .returned (.int .i64 (tbV l h)) ∧ Below w.heap.size w w' := by
  obtain ⟨rfl, hm1, hm2⟩ := hv.len
  obtain ⟨rfl, hm3, hm4⟩ := hd.len
  have H0 := Lib.hid (VaA.start 30 hv hd)
  clear hv hd hm1 hm2 hm3 hm4
  by_cases h12 : 12 < l.length
  · have HR := Lib.hid (tbV_2 (h := h) h12)
    have h12' : (12 : Int) < (l.length : Int) := by omega
    have HB := Lib.hid H0.out.bel
    obtain ⟨t0, t1, tl⟩ := H0.out.tb
    clear h12
    go_enter Try.func93, Try.ntmps93
    go_wp2
    go_ret
    exact ⟨by rw [HR.out]; rfl, HB.out⟩
  have h12' : ¬ (12 : Int) < (l.length : Int) := by omega
  have H12 := Lib.hid h12
  clear h12
  have HL := Lib.hid (fun p W (k : VaA w p A c l A2 c2 h W) => listerr_any A l.length c l W k.el)
  have HD := Lib.hid (fun p W (k : VaA w p A c l A2 c2 h W) => dvalid_any A2 h.length c2 h W k.dl)
  have HC := Lib.hid (fun p W (k : VaA w p A c l A2 c2 h W) => consists_any A l.length c l A2 h.length c2 h W k.el k.dl)
  by_cases h1 : leS l 0 = 0
  · rw [h1] at HL
    by_cases h2 : vaF h = 0
    · rw [h2] at HD
      have HCO := Lib.hid (cnF_ofT h1 h2)
      cases h3 : ofT (l.map Le.du) h with
      | false =>
        have HR := Lib.hid (tbV_7 H12.out h1 h2 h3)
        rw [HCO.out, h3] at HC
        clear HCO h1 h2 h3
        go_enter Try.func93, Try.ntmps93
        obtain ⟨t0, t1, tl⟩ := H0.out.tb
        go_wp2_with fail
        obtain ⟨p, hp⟩ : ∃ p, p = w.heap.size := ⟨_, rfl⟩
        rw [← hp] at H0 ⊢
        clear t0 t1 tl hp
        generalize w.alloc (.cells #[.slice A l.length c, .slice A2 h.length c2] 30) = w1 at *
        refine (HL.out _ _ H0.out).mono ?_
        rintro e w2 ⟨rfl, hb⟩
        have H1 := Lib.hid (H0.out.below hb)
        obtain ⟨t0, t1, tl⟩ := H1.out.tb
        clear hb
        go_wp2_with fail
        clear t0 t1 tl
        refine (HD.out _ _ H1.out).mono ?_
        rintro e w3 ⟨rfl, hb⟩
        have H2 := Lib.hid (H1.out.below hb)
        obtain ⟨t0, t1, tl⟩ := H2.out.tb
        clear hb
        go_wp2_with fail
        clear t0 t1 tl
        refine (HC.out _ _ H2.out).mono ?_
        rintro e w4 ⟨rfl, hb⟩
        have H3 := Lib.hid (H2.out.below hb).bel
        clear hb
        go_wp2
        go_ret
        exact ⟨by rw [HR.out]; rfl, H3.out⟩
      | true =>
        have HR := Lib.hid (tbV_0 H12.out h1 h2 h3)
        rw [HCO.out, h3] at HC
        clear HCO h1 h2 h3
        go_enter Try.func93, Try.ntmps93
        obtain ⟨t0, t1, tl⟩ := H0.out.tb
        go_wp2_with fail
        obtain ⟨p, hp⟩ : ∃ p, p = w.heap.size := ⟨_, rfl⟩
        rw [← hp] at H0 ⊢
        clear t0 t1 tl hp
        generalize w.alloc (.cells #[.slice A l.length c, .slice A2 h.length c2] 30) = w1 at *
        refine (HL.out _ _ H0.out).mono ?_
        rintro e w2 ⟨rfl, hb⟩
        have H1 := Lib.hid (H0.out.below hb)
        obtain ⟨t0, t1, tl⟩ := H1.out.tb
        clear hb
        go_wp2_with fail
        clear t0 t1 tl
        refine (HD.out _ _ H1.out).mono ?_
        rintro e w3 ⟨rfl, hb⟩
        have H2 := Lib.hid (H1.out.below hb)
        obtain ⟨t0, t1, tl⟩ := H2.out.tb
        clear hb
        go_wp2_with fail
        clear t0 t1 tl
        refine (HC.out _ _ H2.out).mono ?_
        rintro e w4 ⟨rfl, hb⟩
        have H3 := Lib.hid (H2.out.below hb).bel
        clear hb
        go_wp2
        go_ret
        exact ⟨by rw [HR.out]; rfl, H3.out⟩
    · have HR := Lib.hid (tbV_va H12.out h1 h2)
      have h2' : (vaF h != 0) = true := by simpa using h2
      clear h1 h2
      generalize vaF h = z at *
      go_enter Try.func93, Try.ntmps93
      obtain ⟨t0, t1, tl⟩ := H0.out.tb
      go_wp2_with fail
      obtain ⟨p, hp⟩ : ∃ p, p = w.heap.size := ⟨_, rfl⟩
      rw [← hp] at H0 ⊢
      clear t0 t1 tl hp
      generalize w.alloc (.cells #[.slice A l.length c, .slice A2 h.length c2] 30) = w1 at *
      refine (HL.out _ _ H0.out).mono ?_
      rintro e w2 ⟨rfl, hb⟩
      have H1 := Lib.hid (H0.out.below hb)
      obtain ⟨t0, t1, tl⟩ := H1.out.tb
      clear hb
      go_wp2_with fail
      clear t0 t1 tl
      refine (HD.out _ _ H1.out).mono ?_
      rintro e w3 ⟨rfl, hb⟩
      have H2 := Lib.hid (H1.out.below hb).bel
      clear hb
      go_wp2
      go_ret
      exact ⟨by rw [HR.out]; rfl, H2.out⟩
  · have HR := Lib.hid (tbV_lst (h := h) H12.out h1)
    have h1' : (leS l 0 != 0) = true := by simpa using h1
    clear h1
    generalize leS l 0 = z at *
    go_enter Try.func93, Try.ntmps93
    obtain ⟨t0, t1, tl⟩ := H0.out.tb
    go_wp2_with fail
    obtain ⟨p, hp⟩ : ∃ p, p = w.heap.size := ⟨_, rfl⟩
    rw [← hp] at H0 ⊢
    clear t0 t1 tl hp
    generalize w.alloc (.cells #[.slice A l.length c, .slice A2 h.length c2] 30) = w1 at *
    refine (HL.out _ _ H0.out).mono ?_
    rintro e w2 ⟨rfl, hb⟩
    have H1 := Lib.hid (H0.out.below hb).bel
    clear hb
    go_wp2
    go_ret
    exact ⟨by rw [HR.out]; rfl, H1.out⟩
end Go.Proofs.Ytdilgeabcacbdaa
