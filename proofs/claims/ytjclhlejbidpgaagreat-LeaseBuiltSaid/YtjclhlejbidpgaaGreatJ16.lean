/- What is proved here: Tre; due.Remove by a contract; lease.removed, lease.Release by contracts. -/
import Derived.Test.YtjclhlejbidpgaaGreatJ10
import Derived.Test.YtjclhlejbidpgaaGreatJ13
import Derived.Test.YtjclhlejbidpgaaGreatJ15
import Derived.Test.YtjclhlejbidpgaaGreatJ05
import Derived.Test.YtjclhlejbidpgaaGreatJ11
import Derived.Test.YtjclhlejbidpgaaGreatJ12
/- Plain: what Grant, Release, Extend of a table return; boxes of a table and of a message that may be written. -/
namespace Go.Proofs.YtjclhlejbidpgaaGreat
open Go.RowKit
set_option linter.unusedVariables false

/-- Behind a release. -/
noncomputable def rlH (l : List Le) (h : List Du) (id : Int) : List Du := if rlE l h id = 0 then rmR h id else []
noncomputable def rlL (l : List Le) (h : List Du) (id : Int) : List Le := if rlE l h id = 0 then l.eraseIdx (kAt Le.id l id) else []
noncomputable def rlM (l : List Le) (h : List Du) (id : Int) : Msg := if rlE l h id = 0 then (lg l (kAt Le.id l id)).m else zM
/-- Behind a grant. -/
noncomputable def grL (l : List Le) (h : List Du) (x : Le) : List Le := if grE l h x = 0 then kIns Le.id l x else []
noncomputable def grH (l : List Le) (h : List Du) (x : Le) : List Du := if grE l h x = 0 then hpu h x.du else []
/-- A lease with another deadline. -/
def Le.till (x : Le) (d : Int) : Le := ⟨x.m, d⟩
/-- Behind an extension. -/
noncomputable def exL (l : List Le) (h : List Du) (id dl : Int) : List Le := if exE l h id dl = 0 then l.set (kAt Le.id l id) ((lg l (kAt Le.id l id)).till dl) else []
noncomputable def exH (l : List Le) (h : List Du) (id dl : Int) : List Du := if exE l h id dl = 0 then hpu (rmR h id) ⟨dl, id⟩ else []
section
variable {l : List Le} {h : List Du} {id dl : Int} {x : Le}
theorem hrm_tb (t : TbOk l h) : hrmE h id = if kFi Le.id l id < 0 then 4 else 0 := by
  rcases kFi_cases Le.id l id with ⟨e, _⟩ | ⟨k, hk, e, hi, _⟩
  · rw [if_pos (by omega)]
    unfold hrmE
    rw [if_neg (by simpa using t.va), if_pos (by rw [t.no (by omega)]; decide)]
  · rw [if_neg (by omega), ← hi]
    exact t.rm hk
theorem rlE_tb (t : TbOk l h) : rlE l h id = hrmE h id := by
  rw [hrm_tb t]
  unfold rlE
  rw [if_neg (by simpa using (tbV_iff l h).2 t)]
theorem rlE_bad (hv : tbV l h ≠ 0) : rlE l h id = tbV l h := if_pos hv
theorem rlH_tb (t : TbOk l h) : rlH l h id = rmR h id := by
  unfold rlH
  rw [rlE_tb t]
  by_cases e : hrmE h id = 0
  · rw [if_pos e]
  · rw [if_neg e]; unfold rmR; rw [if_neg e]
theorem rlE_ne (e : rlE l h id ≠ 0) : rlH l h id = [] ∧ rlL l h id = [] ∧ rlM l h id = zM := ⟨if_neg e, if_neg e, if_neg e⟩
/-- A release that succeeds: where the lease is. -/
theorem rlE_at (e : rlE l h id = 0) : TbOk l h ∧ ∃ k, ∃ hk : k < l.length, kAt Le.id l id = k ∧ l[k].id = id ∧ rlH l h id = rmR h id ∧ rlL l h id = l.eraseIdx k ∧ rlM l h id = l[k].m := by
  obtain ⟨t, k, hk, e1, e2⟩ := rlE_zero e
  have e3 : kAt Le.id l id = k := by have := (kAt_fi t.asc (x := id) (by omega)).1; omega
  refine ⟨t, k, hk, e3, e2, rlH_tb t, ?_, ?_⟩
  · unfold rlL; rw [if_pos e, e3]
  · unfold rlM; rw [if_pos e, e3, lg_get hk]
theorem grE_ne (e : grE l h x ≠ 0) : grL l h x = [] ∧ grH l h x = [] := ⟨if_neg e, if_neg e⟩
theorem exE_ne (e : exE l h id dl ≠ 0) : exL l h id dl = [] ∧ exH l h id dl = [] := ⟨if_neg e, if_neg e⟩
/-- An extension: the release fails, the deadline is out of range, or it succeeds. -/
theorem exE_rl (e : rlE l h id ≠ 0) : exE l h id dl = rlE l h id := by
  unfold exE
  unfold rlE at e ⊢
  by_cases h1 : tbV l h ≠ 0
  · rw [if_pos h1, if_pos h1]
  · rw [if_neg h1] at e ⊢
    rw [if_neg h1]
    by_cases h2 : kFi Le.id l id < 0
    · rw [if_pos h2, if_pos h2]
    · rw [if_neg h2] at e; exact absurd rfl e
theorem exE_ok (e : rlE l h id = 0) : exE l h id dl = hpuE (rmR h id) ⟨dl, id⟩ := by
  obtain ⟨t, k, hk, e3, e2, -, -, -⟩ := rlE_at e
  have t2 := t.release hk
  rw [e2] at t2
  have hid := (vf_id (t.ok _ (List.getElem_mem hk)).1)
  have h1 : exE l h id dl = if dl < 0 ∨ 1073741824 < dl then 1 else 0 := by
    unfold exE
    unfold rlE at e
    by_cases h1 : tbV l h ≠ 0
    · rw [if_pos h1] at e; exact absurd e h1
    · rw [if_neg h1] at e ⊢
      by_cases h2 : kFi Le.id l id < 0
      · rw [if_pos h2] at e; exact absurd e (by decide)
      · rw [if_neg h2]
  rw [h1]
  by_cases hd : dl < 0 ∨ 1073741824 < dl
  · rw [if_pos hd]
    have hs : snd (⟨dl, id⟩ : Du) = false := decide_eq_false (fun h => by have h0 : 0 ≤ dl := h.1; have h1 : dl ≤ 1073741824 := h.2.1; omega)
    unfold hpuE
    rw [if_neg (by simpa using t2.va), if_pos hs]
  · rw [if_neg hd]
    have hs : snd (⟨dl, id⟩ : Du) = true := decide_eq_true ⟨by show 0 ≤ dl; omega, by show dl ≤ 1073741824; omega, by show 1 ≤ id; rw [← e2]; exact hid.1, by show id ≤ 1073741824; rw [← e2]; exact hid.2⟩
    have := t.again hk hs (show (⟨dl, id⟩ : Du).id = l[k].id from e2.symm)
    rw [e2] at this
    exact this.symm
theorem exE_at (e : exE l h id dl = 0) : TbOk l h ∧ ∃ k, ∃ hk : k < l.length, kAt Le.id l id = k ∧ l[k].id = id ∧ exH l h id dl = puR (rmR h id) ⟨dl, id⟩ ∧ exL l h id dl = l.set k (l[k].till dl) := by
  have e0 : rlE l h id = 0 := (exE_zero e).1
  obtain ⟨t, k, hk, e3, e2, -, -, -⟩ := rlE_at e0
  refine ⟨t, k, hk, e3, e2, ?_, ?_⟩
  · unfold exH puR; rw [if_pos e, if_pos (by rw [← exE_ok e0]; exact e)]
  · unfold exL; rw [if_pos e, e3, lg_get hk]
/-- A grant: what fails first. -/
theorem grE_tb (h1 : tbV l h ≠ 0) : grE l h x = tbV l h := if_pos h1
theorem grE_le (h1 : tbV l h = 0) (h2 : leE x ≠ 0) : grE l h x = leE x := by
  unfold grE
  rw [if_neg (by simpa using h1)]
  unfold leE at h2 ⊢
  split
  · rfl
  · split
    · rfl
    · split
      · rfl
      · rename_i a b c; exact absurd (by rw [if_neg a, if_neg b, if_neg c]) h2
theorem grE_pu (h1 : tbV l h = 0) (h2 : leE x = 0) : grE l h x = hpuE h x.du := by
  have t := (tbV_iff l h).1 h1
  obtain ⟨a, b, c, d⟩ := leE_zero.1 h2
  have ok : leOk x := ⟨a, b, c, d⟩
  have e2 : hpuE h x.du = if l.length = 12 then 3 else if 0 ≤ ixD h x.id then 10 else 0 := by
    unfold hpuE
    rw [if_neg (by simpa using t.va), if_neg (by rw [ok.snd]; decide), t.hlen]
    rfl
  rw [e2]
  unfold grE
  rw [if_neg (by simpa using h1), if_neg (by simpa using a), if_neg b, if_neg (by omega)]
  by_cases h3 : l.length = 12
  · rw [if_pos h3, if_pos h3]
  · rw [if_neg h3, if_neg h3]
    by_cases h4 : 0 ≤ kFi Le.id l x.id
    · rw [if_pos h4]
      rcases kFi_cases Le.id l x.id with ⟨e, _⟩ | ⟨k, hk, e, hi, _⟩
      · omega
      · obtain ⟨i, _, _, e2⟩ := t.at_ hk
        rw [if_pos (by show 0 ≤ ixD h x.id; rw [← hi, e2]; omega)]
    · rw [if_neg h4, if_neg (by show ¬ 0 ≤ ixD h x.id; rw [t.no (by omega)]; decide)]
theorem grE_at (e : grE l h x = 0) : TbOk l h ∧ grH l h x = puR h x.du ∧ grL l h x = l.take (kAt Le.id l x.id) ++ x :: l.drop (kAt Le.id l x.id) ∧ l.length < 12 := by
  obtain ⟨t, ok, hl, hf⟩ := grE_zero e
  refine ⟨t, ?_, ?_, hl⟩
  · unfold grH puR; rw [if_pos e, if_pos (t.push ok.snd hl hf)]
  · unfold grL; rw [if_pos e]; rfl
end

/-- A table and an error as a result. -/
def TE (w : World) (l : List Le) (h : List Du) (x : Int) (e : Ending) (w' : World) : Prop := ∃ A c A2 c2, e = .returned (.tuple #[.agg #[.slice A l.length c, .slice A2 h.length c2], .int .i64 x]) ∧ Nw w.heap.size A ∧ Nw w.heap.size A2 ∧ El w' w'.heap.size (.slice A l.length c) l ∧ Dl w' w'.heap.size (.slice A2 h.length c2) h ∧ Below w.heap.size w w'
/-- A table, a message and an error as a result. -/
def TME (w : World) (l : List Le) (h : List Du) (M : Msg) (x : Int) (e : Ending) (w' : World) : Prop := ∃ A c A2 c2, e = .returned (.tuple #[.agg #[.slice A l.length c, .slice A2 h.length c2], M.v, .int .i64 x]) ∧ Nw w.heap.size A ∧ Nw w.heap.size A2 ∧ El w' w'.heap.size (.slice A l.length c) l ∧ Dl w' w'.heap.size (.slice A2 h.length c2) h ∧ Below w.heap.size w w'
theorem te_nil {w w' : World} {l : List Le} {h : List Du} {x y : Int} (hl : l = []) (hh : h = []) (hx : y = x) (hb : Below w.heap.size w w') : TE w l h x (.returned (.tuple #[.agg #[.slice none 0 0, .slice none 0 0], .int .i64 y])) w' := by
  subst hl hh hx; exact ⟨none, 0, none, 0, rfl, nw_none, nw_none, El.nil, Dl.nil, hb⟩
theorem tme_nil {w w' : World} {l : List Le} {h : List Du} {M : Msg} {x y : Int} (hl : l = []) (hh : h = []) (hM : M = zM) (hx : y = x) (hb : Below w.heap.size w w') : TME w l h M x (.returned (.tuple #[.agg #[.slice none 0 0, .slice none 0 0], zM.v, .int .i64 y])) w' := by
  subst hl hh hx hM; exact ⟨none, 0, none, 0, rfl, nw_none, nw_none, El.nil, Dl.nil, hb⟩
/-- A box of a table that may be written. -/
structure RT (W : World) (r : Nat) (A : Option Addr) (n c : Nat) (A2 : Option Addr) (n2 c2 : Nat) : Prop where
  c0 : W.cell? ⟨r, 0, none⟩ = some (.slice A n c)
  c1 : W.cell? ⟨r, 1, none⟩ = some (.slice A2 n2 c2)
  f0 : W.frozen? ⟨r, 0, none⟩ = false
  f1 : W.frozen? ⟨r, 1, none⟩ = false
  lt : r < W.heap.size
section
variable {W W' w : World} {r n c n2 c2 : Nat} {A A2 : Option Addr}
theorem RT.below {B : Nat} (h : RT W r A n c A2 n2 c2) (hb : Below B W W') (hr : r < B) : RT W' r A n c A2 n2 c2 :=
  ⟨(hb.cell (p := ⟨r, 0, none⟩) hr).trans h.c0, (hb.cell (p := ⟨r, 1, none⟩) hr).trans h.c1, (hb.frozen (p := ⟨r, 0, none⟩) hr).trans h.f0, (hb.frozen (p := ⟨r, 1, none⟩) hr).trans h.f1, Nat.lt_of_lt_of_le h.lt hb.size⟩
theorem RT.start (w : World) (A : Option Addr) (n c : Nat) (A2 : Option Addr) (n2 c2 : Nat) (t : TypeId) : RT (w.alloc (.cells #[.slice A n c, .slice A2 n2 c2] t)) w.heap.size A n c A2 n2 c2 :=
  ⟨by simp [go_sem], by simp [go_sem], by simp [go_sem], by simp [go_sem], by simp⟩
/-- The two stores of a table. -/
abbrev set2 (W : World) (r : Nat) (v v2 : Value) : World := (W.setCell ⟨r, 0, none⟩ v).setCell ⟨r, 1, none⟩ v2
theorem set2_far {v v2 : Value} {p : Addr} (hp : p.block ≠ r) : (set2 W r v v2).cell? p = W.cell? p := by
  rw [World.cell?_setCell_other _ _ _ _ (fun e => hp (by rw [← e])), World.cell?_setCell_other _ _ _ _ (fun e => hp (by rw [← e]))]
theorem set2_frozen {v v2 : Value} {p : Addr} : (set2 W r v v2).frozen? p = W.frozen? p := by rw [World.frozen?_setCell, World.frozen?_setCell]
theorem set2_size {v v2 : Value} : (set2 W r v v2).heap.size = W.heap.size := by simp
theorem set2_below {B : Nat} {v v2 : Value} (h : Below B w W) (hr : B ≤ r) : Below B w (set2 W r v v2) := (h.setCell (p := ⟨r, 0, none⟩) hr _).setCell (p := ⟨r, 1, none⟩) hr _
theorem El.set2 {B lo m d : Nat} {D : Option Addr} {l : List Le} {v v2 : Value} (h : El W B (.slice D m d) l) (hA : Nw lo D) (hr : r < lo) : El (set2 W r v v2) B (.slice D m d) l := (h.off hA (p := ⟨r, 0, none⟩) hr _).off hA (p := ⟨r, 1, none⟩) hr _
theorem Dl.set2 {B lo m d : Nat} {D : Option Addr} {l : List Du} {v v2 : Value} (h : Dl W B (.slice D m d) l) (hA : Nw lo D) (hr : r < lo) : Dl (set2 W r v v2) B (.slice D m d) l := (h.off hA (p := ⟨r, 0, none⟩) hr _).off hA (p := ⟨r, 1, none⟩) hr _
theorem El.offs {B lo m d : Nat} {D : Option Addr} {l : List Le} {s : Nat} (hA : Nw lo D) (hr : s < lo) : ∀ (vs : List Value) (o : Nat) {W : World}, El W B (.slice D m d) l → El (W.setCells s o vs) B (.slice D m d) l
  | [], _, _, h => h
  | v :: vs, o, W, h => El.offs hA hr vs (o + 1) (h.off hA (p := ⟨s, o, none⟩) hr v)
theorem Dl.offs {B lo m d : Nat} {D : Option Addr} {l : List Du} {s : Nat} (hA : Nw lo D) (hr : s < lo) : ∀ (vs : List Value) (o : Nat) {W : World}, Dl W B (.slice D m d) l → Dl (W.setCells s o vs) B (.slice D m d) l
  | [], _, _, h => h
  | v :: vs, o, W, h => Dl.offs hA hr vs (o + 1) (h.off hA (p := ⟨s, o, none⟩) hr v)
end
end Go.Proofs.YtjclhlejbidpgaaGreat
namespace Go.Proofs.YtjclhlejbidpgaaGreat
open Go.RowKit
set_option linter.unusedVariables false


set_option maxHeartbeats 2000000 in
theorem dremove_any (A : Option Addr) (n c : Nat) (l : List Du) (id : Int) (w : World) (hv : Dl w w.heap.size (.slice A n c) l) :
    Calls Tryz.prog 82 #[.slice A n c, .int .i64 id] w (DlE w (rmR l id) (hrmE l id)) := by
  obtain ⟨rfl, hm1, hm2⟩ := hv.len
  have HV := Lib.hid hv
  have HVA := Lib.hid (fun w1 hv => dvalid_any A l.length c l w1 hv)
  have HFI := Lib.hid (fun w1 hv => dfind_any A l.length c l id w1 hv)
  clear hv hm1 hm2
  by_cases h0 : vaF l = 0
  · have h12 := (vaF_zero h0).1
    by_cases hi : ixD l id < 0
    · have hE : hrmE l id = 4 := by unfold hrmE; rw [if_neg (by simpa using h0), if_pos hi]
      have HR := Lib.hid (show rmR l id = [] by unfold rmR; rw [hE]; rfl)
      rw [h0] at HVA
      rw [hE]
      generalize ixD l id = r at *
      clear h0 hE
      go_enter Tryz.func82, Tryz.ntmps82
      go_wp2_with fail
      refine (HVA.out _ HV.out).mono ?_
      rintro e w1 ⟨rfl, hb⟩
      have HB1 := Lib.hid hb
      clear hb
      go_wp2_with fail
      refine (HFI.out _ (HV.out.up HB1.out)).mono ?_
      rintro e w2 ⟨rfl, hb⟩
      have HB2 := Lib.hid (HB1.out.trans (hb.mono HB1.out.size))
      clear hb
      go_wp2
      exact bodyPost_ret (v := .tuple #[.slice none 0 0, .int .i64 4]) (by simp only [results, Tryz.results82]; go_simp <;> rfl) rfl ⟨none, 0, by rw [HR.out]; rfl, nw_none, by rw [HR.out]; exact Dl.nil, HB2.out⟩
    · have hE : hrmE l id = 0 := by unfold hrmE; rw [if_neg (by simpa using h0), if_neg hi]
      obtain ⟨_, k, hk, hke, _⟩ := hrmE_zero hE
      obtain ⟨m, hm⟩ : ∃ m, l.length = m + 1 := ⟨l.length - 1, by omega⟩
      have HR := Lib.hid (show rmR l id = cuF l k by unfold rmR; rw [if_pos hE, hke]; rfl)
      rw [h0] at HVA
      rw [hE]
      rw [hke] at HFI
      rw [hm] at HVA HFI HV ⊢
      have HW := Lib.hid (fun w1 hv => dwithout_any A m c k l w1 hv (by omega) (by omega))
      have hk0 : ¬ ((k : Int) < 0) := by omega
      clear h0 hE hi hk hke hm h12
      go_enter Tryz.func82, Tryz.ntmps82
      go_wp2_with fail
      refine (HVA.out _ HV.out).mono ?_
      rintro e w1 ⟨rfl, hb⟩
      have HB1 := Lib.hid hb
      clear hb
      go_wp2_with fail
      refine (HFI.out _ (HV.out.up HB1.out)).mono ?_
      rintro e w2 ⟨rfl, hb⟩
      have HB2 := Lib.hid (HB1.out.trans (hb.mono HB1.out.size))
      clear hb
      go_wp2_with fail
      refine (HW.out _ (HV.out.up HB2.out)).mono ?_
      rintro e w3 ⟨A3, c3, rfl, hnw, hl, hb⟩
      have HB3 := Lib.hid (HB2.out.trans (hb.mono HB2.out.size))
      have HN := Lib.hid (nw_low hnw HB2.out.size)
      have HL := Lib.hid hl
      clear hb hnw hl
      go_wp2
      exact bodyPost_ret (v := .tuple #[.slice A3 (cuF l k).length c3, .int .i64 0]) (by simp only [results, Tryz.results82]; go_simp <;> rfl) rfl ⟨A3, c3, by rw [HR.out], HN.out, by rw [HR.out]; exact HL.out, HB3.out⟩
  · have hE : hrmE l id = vaF l := by unfold hrmE; rw [if_pos h0]
    have HR := Lib.hid (show rmR l id = [] by unfold rmR; rw [if_neg (by rw [hE]; exact h0)])
    have hne : (vaF l != 0) = true := bne_iff_ne.2 h0
    rw [hE]
    generalize vaF l = x at *
    clear h0 hE
    go_enter Tryz.func82, Tryz.ntmps82
    go_wp2_with fail
    refine (HVA.out _ HV.out).mono ?_
    rintro e w1 ⟨rfl, hb⟩
    have HB1 := Lib.hid hb
    clear hb
    go_wp2
    exact bodyPost_ret (v := .tuple #[.slice none 0 0, .int .i64 x]) (by simp only [results, Tryz.results82]; go_simp <;> rfl) rfl ⟨none, 0, by rw [HR.out]; rfl, nw_none, by rw [HR.out]; exact Dl.nil, HB1.out⟩
end Go.Proofs.YtjclhlejbidpgaaGreat
namespace Go.Proofs.YtjclhlejbidpgaaGreat
open Go.RowKit
set_option linter.unusedVariables false

set_option maxHeartbeats 4000000 in
set_option maxRecDepth 20000 in
theorem removed_any (A : Option Addr) (n c : Nat) (l : List Le) (A2 : Option Addr) (n2 c2 : Nat) (h : List Du) (id : Int) (w : World) (hv : El w w.heap.size (.slice A n c) l) (hd : Dl w w.heap.size (.slice A2 n2 c2) h) :
    Calls Tryz.prog 53 #[tv A n c A2 n2 c2, .int .i64 id] w (DlE w (rlH l h id) (rlE l h id)) := by
  obtain ⟨rfl, hm1, hm2⟩ := hv.len
  obtain ⟨rfl, hm3, hm4⟩ := hd.len
  have H0 := Lib.hid (VaA.start 25 hv hd)
  have HV := Lib.hid (fun p W (k : VaA w p A c l A2 c2 h W) => lvalid_any A l.length c l A2 h.length c2 h W k.el k.dl)
  have HR := Lib.hid (fun p W (k : VaA w p A c l A2 c2 h W) => dremove_any A2 h.length c2 h id W k.dl)
  clear hv hd hm1 hm2 hm3 hm4
  by_cases h0 : tbV l h = 0
  · have t := (tbV_iff l h).1 h0
    rw [h0] at HV
    rw [rlE_tb t, rlH_tb t]
    clear h0 t
    generalize rmR h id = k at *
    generalize hrmE h id = x at *
    go_enter Tryz.func53, Tryz.ntmps53
    obtain ⟨t0, t1, tl⟩ := H0.out.tb
    go_wp2_with fail
    obtain ⟨p, hp⟩ : ∃ p, p = w.heap.size := ⟨_, rfl⟩
    rw [← hp] at H0 ⊢
    clear t0 t1 tl hp
    generalize w.alloc (.cells #[.slice A l.length c, .slice A2 h.length c2] 25) = w1 at *
    refine (HV.out _ _ H0.out).mono ?_
    rintro e w2 ⟨rfl, hb⟩
    have H1 := Lib.hid (H0.out.below hb)
    obtain ⟨t0, t1, tl⟩ := H1.out.tb
    clear hb
    go_wp2_with fail
    clear t0 t1 tl
    refine (HR.out _ _ H1.out).mono ?_
    rintro e w3 ⟨A3, c3, rfl, hnw, hl, hb⟩
    have HF := Lib.hid (show DlE w k x (.returned (.tuple #[.slice A3 k.length c3, .int .i64 x])) w3 from ⟨A3, c3, rfl, nw_low hnw H1.out.bel.size, hl, H1.out.bel.trans (hb.mono H1.out.bel.size)⟩)
    clear hb hnw hl
    go_wp2
    exact bodyPost_ret (v := .tuple #[.slice A3 k.length c3, .int .i64 x]) (by simp only [results, Tryz.results53]; go_simp <;> rfl) rfl HF.out
  · have hx := rlE_bad (id := id) h0
    have HN := Lib.hid (rlE_ne (l := l) (h := h) (id := id) (by rw [hx]; exact h0)).1
    have hne : (tbV l h != 0) = true := bne_iff_ne.2 h0
    rw [hx]
    generalize tbV l h = x at *
    clear h0 hx
    go_enter Tryz.func53, Tryz.ntmps53
    obtain ⟨t0, t1, tl⟩ := H0.out.tb
    go_wp2_with fail
    obtain ⟨p, hp⟩ : ∃ p, p = w.heap.size := ⟨_, rfl⟩
    rw [← hp] at H0 ⊢
    clear t0 t1 tl hp
    generalize w.alloc (.cells #[.slice A l.length c, .slice A2 h.length c2] 25) = w1 at *
    refine (HV.out _ _ H0.out).mono ?_
    rintro e w2 ⟨rfl, hb⟩
    have H1 := Lib.hid (H0.out.below hb).bel
    clear hb
    go_wp2
    exact bodyPost_ret (v := .tuple #[.slice none 0 0, .int .i64 x]) (by simp only [results, Tryz.results53]; go_simp <;> rfl) rfl ⟨none, 0, by rw [HN.out]; rfl, nw_none, by rw [HN.out]; exact Dl.nil, H1.out⟩

/-- A list of leases as a result: it is new. -/
def ElV (w : World) (l : List Le) (e : Ending) (w' : World) : Prop := ∃ A c, e = .returned (.slice A l.length c) ∧ Nw w.heap.size A ∧ El w' w'.heap.size (.slice A l.length c) l ∧ Below w.heap.size w w'
theorem eow_elv {w w' : World} {l : List Le} {e : Ending} (h : EOw w l e w') : ElV w l e w' := by
  obtain ⟨v, rfl, ho, hb⟩ := h
  obtain ⟨A, c, rfl⟩ := own_form ho
  exact ⟨A, c, rfl, nwv_of (nwv_own ho (Nat.le_refl _)), El.of_own ho, hb⟩
/-- A box of a message that may be written. -/
abbrev RMs (W : World) (r : Nat) (M : Msg) : Prop := W.cell? ⟨r, 0, none⟩ = some (.int .i64 M.id) ∧ W.cell? ⟨r, 1, none⟩ = some (.int .i64 M.rt) ∧ W.cell? ⟨r, 2, none⟩ = some (.int .i64 M.ep) ∧ W.cell? ⟨r, 3, none⟩ = some (.int .i64 M.ct) ∧ W.cell? ⟨r, 4, none⟩ = some (.int .i64 M.gn) ∧ W.cell? ⟨r, 5, none⟩ = some (.int .i64 M.st) ∧ W.cell? ⟨r, 6, none⟩ = some (.string M.bd) ∧ W.frozen? ⟨r, 0, none⟩ = false ∧ W.frozen? ⟨r, 1, none⟩ = false ∧ W.frozen? ⟨r, 2, none⟩ = false ∧ W.frozen? ⟨r, 3, none⟩ = false ∧ W.frozen? ⟨r, 4, none⟩ = false ∧ W.frozen? ⟨r, 5, none⟩ = false ∧ W.frozen? ⟨r, 6, none⟩ = false ∧ r < W.heap.size
theorem RMs.lt {W : World} {r : Nat} {M : Msg} (h : RMs W r M) : r < W.heap.size := h.2.2.2.2.2.2.2.2.2.2.2.2.2.2
theorem RMs.below {B : Nat} {W W' : World} {r : Nat} {M : Msg} (h : RMs W r M) (hb : Below B W W') (hr : r < B) : RMs W' r M :=
  ⟨(hb.cell (p := ⟨r, 0, none⟩) hr).trans h.1, (hb.cell (p := ⟨r, 1, none⟩) hr).trans h.2.1, (hb.cell (p := ⟨r, 2, none⟩) hr).trans h.2.2.1, (hb.cell (p := ⟨r, 3, none⟩) hr).trans h.2.2.2.1, (hb.cell (p := ⟨r, 4, none⟩) hr).trans h.2.2.2.2.1, (hb.cell (p := ⟨r, 5, none⟩) hr).trans h.2.2.2.2.2.1, (hb.cell (p := ⟨r, 6, none⟩) hr).trans h.2.2.2.2.2.2.1, (hb.frozen (p := ⟨r, 0, none⟩) hr).trans h.2.2.2.2.2.2.2.1, (hb.frozen (p := ⟨r, 1, none⟩) hr).trans h.2.2.2.2.2.2.2.2.1, (hb.frozen (p := ⟨r, 2, none⟩) hr).trans h.2.2.2.2.2.2.2.2.2.1, (hb.frozen (p := ⟨r, 3, none⟩) hr).trans h.2.2.2.2.2.2.2.2.2.2.1, (hb.frozen (p := ⟨r, 4, none⟩) hr).trans h.2.2.2.2.2.2.2.2.2.2.2.1, (hb.frozen (p := ⟨r, 5, none⟩) hr).trans h.2.2.2.2.2.2.2.2.2.2.2.2.1, (hb.frozen (p := ⟨r, 6, none⟩) hr).trans h.2.2.2.2.2.2.2.2.2.2.2.2.2.1, Nat.lt_of_lt_of_le h.2.2.2.2.2.2.2.2.2.2.2.2.2.2 hb.size⟩
theorem RMs.start (w : World) (M : Msg) (t : TypeId) : RMs (w.alloc (.cells #[.int .i64 M.id, .int .i64 M.rt, .int .i64 M.ep, .int .i64 M.ct, .int .i64 M.gn, .int .i64 M.st, .string M.bd] t)) w.heap.size M :=
  ⟨by simp [go_sem], by simp [go_sem], by simp [go_sem], by simp [go_sem], by simp [go_sem], by simp [go_sem], by simp [go_sem], by simp [go_sem], by simp [go_sem], by simp [go_sem], by simp [go_sem], by simp [go_sem], by simp [go_sem], by simp [go_sem], by simp⟩
/-- The work of Release: the table, the result table, the result message. -/
structure RlW (w : World) (p r s : Nat) (A : Option Addr) (c : Nat) (l : List Le) (A2 : Option Addr) (c2 : Nat) (h : List Du) (W : World) : Prop where
  va : VaA w p A c l A2 c2 h W
  rt : RT W r none 0 0 none 0 0
  rm : RMs W s zM
  ne : w.heap.size ≤ p ∧ p < r ∧ r < s
section
variable {w W W' : World} {p r s c c2 : Nat} {A A2 : Option Addr} {l : List Le} {h : List Du}
theorem RlW.below (k : RlW w p r s A c l A2 c2 h W) (hb : Below W.heap.size W W') : RlW w p r s A c l A2 c2 h W' := ⟨k.va.below hb, k.rt.below hb k.rt.lt, k.rm.below hb k.rm.lt, k.ne⟩
theorem RlW.start (hv : El w w.heap.size (.slice A l.length c) l) (hd : Dl w w.heap.size (.slice A2 h.length c2) h) (t u : TypeId) : RlW w w.heap.size (w.heap.size + 1) (w.heap.size + 1 + 1) A c l A2 c2 h (((w.alloc (.cells #[.slice A l.length c, .slice A2 h.length c2] t)).alloc (.cells #[.slice none 0 0, .slice none 0 0] t)).alloc (.cells #[.int .i64 0, .int .i64 0, .int .i64 0, .int .i64 0, .int .i64 0, .int .i64 0, .string ⟨#[]⟩] u)) := by
  have e1 : (w.alloc (.cells #[.slice A l.length c, .slice A2 h.length c2] t)).heap.size = w.heap.size + 1 := by simp
  have e2 : ((w.alloc (.cells #[.slice A l.length c, .slice A2 h.length c2] t)).alloc (.cells #[.slice none 0 0, .slice none 0 0] t)).heap.size = w.heap.size + 1 + 1 := by simp
  have k1 := RT.start (w.alloc (.cells #[.slice A l.length c, .slice A2 h.length c2] t)) none 0 0 none 0 0 t
  have k2 := RMs.start ((w.alloc (.cells #[.slice A l.length c, .slice A2 h.length c2] t)).alloc (.cells #[.slice none 0 0, .slice none 0 0] t)) zM u
  rw [e1] at k1
  rw [e2] at k2
  exact ⟨((VaA.start t hv hd).alloc _).alloc _, k1.below ((Below.refl _ _).alloc (Nat.le_refl _) _) k1.lt, k2, Nat.le_refl _, Nat.lt_succ_self _, Nat.lt_succ_self _⟩
end
set_option maxHeartbeats 8000000 in
set_option maxRecDepth 20000 in
theorem lrelease_any (A : Option Addr) (n c : Nat) (l : List Le) (A2 : Option Addr) (n2 c2 : Nat) (h : List Du) (id : Int) (w : World) (hv : El w w.heap.size (.slice A n c) l) (hd : Dl w w.heap.size (.slice A2 n2 c2) h) :
    Calls Tryz.prog 24 #[tv A n c A2 n2 c2, .int .i64 id] w (TME w (rlL l h id) (rlH l h id) (rlM l h id) (rlE l h id)) := by
  obtain ⟨rfl, hm1, hm2⟩ := hv.len
  obtain ⟨rfl, hm3, hm4⟩ := hd.len
  have H0 := Lib.hid (RlW.start hv hd 25 27)
  have HV := Lib.hid hv
  have HRM := Lib.hid (fun p W (k : VaA w p A c l A2 c2 h W) => removed_any A l.length c l A2 h.length c2 h id W k.el k.dl)
  clear hv hd hm1 hm2 hm3 hm4
  by_cases he : rlE l h id = 0
  · obtain ⟨t, k, hk, hka, _, hH, hL, hM⟩ := rlE_at he
    have HP := Lib.hid (fun p W (q : VaA w p A c l A2 c2 h W) => place_any A l.length c l id W q.el t.asc (by have := t.len; omega))
    unfold PlR at HP
    rw [hka] at HP
    rw [he] at HRM
    rw [he, hL, hM]
    generalize rlH l h id = K at *
    generalize kHas Le.id l id = O at *
    have HW := Lib.hid (fun p W (q : VaA w p A c l A2 c2 h W) => ewithout_any A l.length c k l W q.el hk (by have := t.len; omega))
    have hk' : (k : Int) < (l.length : Int) := by omega
    obtain ⟨X, hX⟩ : ∃ X, l[k] = X := ⟨_, rfl⟩
    rw [hX]
    have HXK := Lib.hid hX
    generalize l.eraseIdx k = LE at *
    clear he t hka hH hL hM hX
    go_enter Tryz.func24, Tryz.ntmps24
    obtain ⟨t0, t1, tl⟩ := H0.out.va.tb
    go_wp2_with fail
    clear t0 t1 tl
    obtain ⟨p, hp⟩ : ∃ p, p = w.heap.size := ⟨_, rfl⟩
    obtain ⟨r, hr⟩ : ∃ r, r = w.heap.size + 1 := ⟨_, rfl⟩
    obtain ⟨s, hs⟩ : ∃ s, s = w.heap.size + 1 + 1 := ⟨_, rfl⟩
    rw [← hs, ← hr, ← hp] at H0 ⊢
    clear hp hr hs
    generalize (((w.alloc (.cells #[.slice A l.length c, .slice A2 h.length c2] 25)).alloc (.cells #[.slice none 0 0, .slice none 0 0] 25)).alloc (.cells #[.int .i64 0, .int .i64 0, .int .i64 0, .int .i64 0, .int .i64 0, .int .i64 0, .string ⟨#[]⟩] 27)) = w1 at *
    refine (HRM.out _ _ H0.out.va).mono ?_
    rintro e w2 ⟨A3, c3, rfl, hnw, hl, hb⟩
    have H1 := Lib.hid (H0.out.below hb)
    have HK := Lib.hid hl
    have HNW := Lib.hid hnw
    have HSZ := Lib.hid (And.intro H0.out.rt.lt (And.intro H0.out.rm.lt H0.out.va.bel.size))
    clear hb hnw hl
    obtain ⟨t0, t1, tl⟩ := H1.out.va.tb
    go_wp2_with fail
    clear t0 t1 tl
    refine (HP.out _ _ H1.out.va).mono ?_
    rintro e w3 ⟨rfl, hb⟩
    have H2 := Lib.hid (H1.out.below hb)
    have HK2 := Lib.hid (HK.out.up hb)
    clear hb
    obtain ⟨b, o, rfl, hbw⟩ := HV.out.some_ (by omega)
    have HBR := Lib.hid (show p ≠ r ∧ b ≠ r ∧ p ≠ s ∧ b ≠ s ∧ r ≠ s by have := H1.out.ne; omega)
    have HS0 := Lib.hid (fun W (q : RlW w p r s (some ⟨b, o, none⟩) c l A2 c2 h W) => show W.cell? ⟨p, 0, none⟩ = some (.slice (some ⟨b, o, none⟩) l.length c) ∧ W.cell? ⟨b, o + k * 8, none⟩ = some (.int .i64 X.m.id) ∧ W.cell? ⟨b, o + k * 8 + 1, none⟩ = some (.int .i64 X.m.rt) ∧ W.cell? ⟨b, o + k * 8 + 2, none⟩ = some (.int .i64 X.m.ep) ∧ W.cell? ⟨b, o + k * 8 + 3, none⟩ = some (.int .i64 X.m.ct) ∧ W.cell? ⟨b, o + k * 8 + 4, none⟩ = some (.int .i64 X.m.gn) ∧ W.cell? ⟨b, o + k * 8 + 5, none⟩ = some (.int .i64 X.m.st) ∧ W.cell? ⟨b, o + k * 8 + 6, none⟩ = some (.string X.m.bd) from by
      obtain ⟨⟨c0, c1, c2', c3, c4, c5, c6, c7⟩, _⟩ := q.va.el.c8 hk
      rw [HXK.out] at c0 c1 c2' c3 c4 c5 c6 c7
      exact ⟨q.va.tb.1, c0, c1, c2', c3, c4, c5, c6⟩)
    have HSa := Lib.hid (fun W v v2 (q : W.cell? ⟨p, 0, none⟩ = some (.slice (some ⟨b, o, none⟩) l.length c) ∧ W.cell? ⟨b, o + k * 8, none⟩ = some (.int .i64 X.m.id) ∧ W.cell? ⟨b, o + k * 8 + 1, none⟩ = some (.int .i64 X.m.rt) ∧ W.cell? ⟨b, o + k * 8 + 2, none⟩ = some (.int .i64 X.m.ep) ∧ W.cell? ⟨b, o + k * 8 + 3, none⟩ = some (.int .i64 X.m.ct) ∧ W.cell? ⟨b, o + k * 8 + 4, none⟩ = some (.int .i64 X.m.gn) ∧ W.cell? ⟨b, o + k * 8 + 5, none⟩ = some (.int .i64 X.m.st) ∧ W.cell? ⟨b, o + k * 8 + 6, none⟩ = some (.string X.m.bd)) => show (set2 W r v v2).cell? ⟨p, 0, none⟩ = some (.slice (some ⟨b, o, none⟩) l.length c) ∧ (set2 W r v v2).cell? ⟨b, o + k * 8, none⟩ = some (.int .i64 X.m.id) ∧ (set2 W r v v2).cell? ⟨b, o + k * 8 + 1, none⟩ = some (.int .i64 X.m.rt) ∧ (set2 W r v v2).cell? ⟨b, o + k * 8 + 2, none⟩ = some (.int .i64 X.m.ep) ∧ (set2 W r v v2).cell? ⟨b, o + k * 8 + 3, none⟩ = some (.int .i64 X.m.ct) ∧ (set2 W r v v2).cell? ⟨b, o + k * 8 + 4, none⟩ = some (.int .i64 X.m.gn) ∧ (set2 W r v v2).cell? ⟨b, o + k * 8 + 5, none⟩ = some (.int .i64 X.m.st) ∧ (set2 W r v v2).cell? ⟨b, o + k * 8 + 6, none⟩ = some (.string X.m.bd) from ⟨(set2_far HBR.out.1).trans q.1, (set2_far HBR.out.2.1).trans q.2.1, (set2_far HBR.out.2.1).trans q.2.2.1, (set2_far HBR.out.2.1).trans q.2.2.2.1, (set2_far HBR.out.2.1).trans q.2.2.2.2.1, (set2_far HBR.out.2.1).trans q.2.2.2.2.2.1, (set2_far HBR.out.2.1).trans q.2.2.2.2.2.2.1, (set2_far HBR.out.2.1).trans q.2.2.2.2.2.2.2⟩)
    have HSb := Lib.hid (fun W (q : W.cell? ⟨p, 0, none⟩ = some (.slice (some ⟨b, o, none⟩) l.length c) ∧ W.cell? ⟨b, o + k * 8, none⟩ = some (.int .i64 X.m.id) ∧ W.cell? ⟨b, o + k * 8 + 1, none⟩ = some (.int .i64 X.m.rt) ∧ W.cell? ⟨b, o + k * 8 + 2, none⟩ = some (.int .i64 X.m.ep) ∧ W.cell? ⟨b, o + k * 8 + 3, none⟩ = some (.int .i64 X.m.ct) ∧ W.cell? ⟨b, o + k * 8 + 4, none⟩ = some (.int .i64 X.m.gn) ∧ W.cell? ⟨b, o + k * 8 + 5, none⟩ = some (.int .i64 X.m.st) ∧ W.cell? ⟨b, o + k * 8 + 6, none⟩ = some (.string X.m.bd)) => show (set7 W s 0 X.m).cell? ⟨p, 0, none⟩ = some (.slice (some ⟨b, o, none⟩) l.length c) ∧ (set7 W s 0 X.m).cell? ⟨b, o + k * 8, none⟩ = some (.int .i64 X.m.id) ∧ (set7 W s 0 X.m).cell? ⟨b, o + k * 8 + 1, none⟩ = some (.int .i64 X.m.rt) ∧ (set7 W s 0 X.m).cell? ⟨b, o + k * 8 + 2, none⟩ = some (.int .i64 X.m.ep) ∧ (set7 W s 0 X.m).cell? ⟨b, o + k * 8 + 3, none⟩ = some (.int .i64 X.m.ct) ∧ (set7 W s 0 X.m).cell? ⟨b, o + k * 8 + 4, none⟩ = some (.int .i64 X.m.gn) ∧ (set7 W s 0 X.m).cell? ⟨b, o + k * 8 + 5, none⟩ = some (.int .i64 X.m.st) ∧ (set7 W s 0 X.m).cell? ⟨b, o + k * 8 + 6, none⟩ = some (.string X.m.bd) from ⟨(sets_far (p := ⟨p, 0, none⟩) HBR.out.2.2.1 0 X.m.l).trans q.1, (sets_far (p := ⟨b, o + k * 8, none⟩) HBR.out.2.2.2.1 0 X.m.l).trans q.2.1, (sets_far (p := ⟨b, o + k * 8 + 1, none⟩) HBR.out.2.2.2.1 0 X.m.l).trans q.2.2.1, (sets_far (p := ⟨b, o + k * 8 + 2, none⟩) HBR.out.2.2.2.1 0 X.m.l).trans q.2.2.2.1, (sets_far (p := ⟨b, o + k * 8 + 3, none⟩) HBR.out.2.2.2.1 0 X.m.l).trans q.2.2.2.2.1, (sets_far (p := ⟨b, o + k * 8 + 4, none⟩) HBR.out.2.2.2.1 0 X.m.l).trans q.2.2.2.2.2.1, (sets_far (p := ⟨b, o + k * 8 + 5, none⟩) HBR.out.2.2.2.1 0 X.m.l).trans q.2.2.2.2.2.2.1, (sets_far (p := ⟨b, o + k * 8 + 6, none⟩) HBR.out.2.2.2.1 0 X.m.l).trans q.2.2.2.2.2.2.2⟩)
    have HVW := Lib.hid (show VaA w p (some ⟨b, o, none⟩) c l A2 c2 h w3.drew from H2.out.va.below ((Below.refl _ _).drew))
    have HT0 := Lib.hid (show w3.drew.cell? ⟨p, 0, none⟩ = some (.slice (some ⟨b, o, none⟩) l.length c) ∧ w3.drew.cell? ⟨b, o + k * 8, none⟩ = some (.int .i64 X.m.id) ∧ w3.drew.cell? ⟨b, o + k * 8 + 1, none⟩ = some (.int .i64 X.m.rt) ∧ w3.drew.cell? ⟨b, o + k * 8 + 2, none⟩ = some (.int .i64 X.m.ep) ∧ w3.drew.cell? ⟨b, o + k * 8 + 3, none⟩ = some (.int .i64 X.m.ct) ∧ w3.drew.cell? ⟨b, o + k * 8 + 4, none⟩ = some (.int .i64 X.m.gn) ∧ w3.drew.cell? ⟨b, o + k * 8 + 5, none⟩ = some (.int .i64 X.m.st) ∧ w3.drew.cell? ⟨b, o + k * 8 + 6, none⟩ = some (.string X.m.bd) from HS0.out w3.drew (H2.out.below ((Below.refl _ _).drew)))
    have HAF := Lib.hid (fun (w4 : World) (hb : Below w3.drew.heap.size w3.drew w4) => show RlW w p r s (some ⟨b, o, none⟩) c l A2 c2 h w4 ∧ Dl w4 w4.heap.size (.slice A3 K.length c3) K from ⟨H2.out.below (drew_bel hb), HK2.out.up (drew_bel hb)⟩)
    have hrs : ¬ r = s := HBR.out.2.2.2.2
    have hsr : ¬ s = r := fun e => HBR.out.2.2.2.2 e.symm
    go_wp2_with fail
    go_region_held3 (fun W => W.cell? ⟨p, 0, none⟩ = some (.slice (some ⟨b, o, none⟩) l.length c) ∧ W.cell? ⟨b, o + k * 8, none⟩ = some (.int .i64 X.m.id) ∧ W.cell? ⟨b, o + k * 8 + 1, none⟩ = some (.int .i64 X.m.rt) ∧ W.cell? ⟨b, o + k * 8 + 2, none⟩ = some (.int .i64 X.m.ep) ∧ W.cell? ⟨b, o + k * 8 + 3, none⟩ = some (.int .i64 X.m.ct) ∧ W.cell? ⟨b, o + k * 8 + 4, none⟩ = some (.int .i64 X.m.gn) ∧ W.cell? ⟨b, o + k * 8 + 5, none⟩ = some (.int .i64 X.m.st) ∧ W.cell? ⟨b, o + k * 8 + 6, none⟩ = some (.string X.m.bd))
      (first | with_reducible exact HT0.out | with_reducible exact HT1.out | with_reducible exact HT2.out | with_reducible exact HT3.out)
      (first | (go_at_call 54; (with_reducible refine (HW.out _ _ HVW.out).mono ?_); rintro e w4 hq; obtain ⟨A4, c4, rfl, hnw4, hl4, hb4⟩ := eow_elv hq; obtain ⟨h4, hk4⟩ := HAF.out _ hb4; have H4 := Lib.hid h4; have HT1 := Lib.hid (HS0.out _ h4); have HT2 := Lib.hid (HSa.out _ (.slice A4 LE.length c4) (.slice A3 K.length c3) HT1.out); have HT3 := Lib.hid (HSb.out _ HT2.out); have HE4 := Lib.hid hl4; have HK4 := Lib.hid hk4; have HN4 := Lib.hid hnw4; obtain ⟨r0, r1, f0, f1, rl⟩ := h4.rt; obtain ⟨s0, s1, s2, s3, s4, s5, s6, g0, g1, g2, g3, g4, g5, g6, sl⟩ := h4.rm; clear hq hb4 hl4 hk4 hnw4 h4))
    have HF := Lib.hid (show TME w LE K X.m 0 (.returned (.tuple #[.agg #[.slice A4 LE.length c4, .slice A3 K.length c3], X.m.v, .int .i64 0])) (set7 (set2 w4 r (.slice A4 LE.length c4) (.slice A3 K.length c3)) s 0 X.m) from
      ⟨A4, c4, A3, c3, rfl, nw_low HN4.out H2.out.va.bel.size, nw_low HNW.out HSZ.out.2.2, (El.offs HN4.out (show s < w3.drew.heap.size from H2.out.rm.lt) X.m.l 0 (HE4.out.set2 HN4.out (show r < w3.drew.heap.size from H2.out.rt.lt))).more (by simp), (Dl.offs HNW.out HSZ.out.2.1 X.m.l 0 (HK4.out.set2 HNW.out HSZ.out.1)).more (by simp), sets_below (by have := H1.out.ne; omega) X.m.l 0 _ (set2_below H4.out.va.bel (by have := H1.out.ne; omega))⟩)
    go_wp2
    exact bodyPost_ret (v := .tuple #[.agg #[.slice A4 LE.length c4, .slice A3 K.length c3], X.m.v, .int .i64 0]) (by simp only [results, Tryz.results24]; go_simp <;> rfl) rfl HF.out
  · obtain ⟨hH, hL, hM⟩ := rlE_ne he
    have HN := Lib.hid (And.intro hL (And.intro hH hM))
    have hne : (rlE l h id != 0) = true := bne_iff_ne.2 he
    rw [hH] at HRM
    clear he hH hL hM
    rw [HN.out.1, HN.out.2.1, HN.out.2.2]
    generalize rlE l h id = x at *
    go_enter Tryz.func24, Tryz.ntmps24
    obtain ⟨t0, t1, tl⟩ := H0.out.va.tb
    go_wp2_with fail
    clear t0 t1 tl
    obtain ⟨p, hp⟩ : ∃ p, p = w.heap.size := ⟨_, rfl⟩
    obtain ⟨r, hr⟩ : ∃ r, r = w.heap.size + 1 := ⟨_, rfl⟩
    obtain ⟨s, hs⟩ : ∃ s, s = w.heap.size + 1 + 1 := ⟨_, rfl⟩
    rw [← hs, ← hr, ← hp] at H0 ⊢
    clear hp hr hs
    generalize (((w.alloc (.cells #[.slice A l.length c, .slice A2 h.length c2] 25)).alloc (.cells #[.slice none 0 0, .slice none 0 0] 25)).alloc (.cells #[.int .i64 0, .int .i64 0, .int .i64 0, .int .i64 0, .int .i64 0, .int .i64 0, .string ⟨#[]⟩] 27)) = w1 at *
    refine (HRM.out _ _ H0.out.va).mono ?_
    rintro e w2 ⟨A3, c3, rfl, hnw, hl, hb⟩
    have H1 := Lib.hid (H0.out.below hb)
    clear hb hnw hl
    obtain ⟨r0, r1, f0, f1, rl⟩ := H1.out.rt
    obtain ⟨s0, s1, s2, s3, s4, s5, s6, g0, g1, g2, g3, g4, g5, g6, sl⟩ := H1.out.rm
    have hrs : ¬ r = s := by have := H1.out.ne; omega
    have hsr : ¬ s = r := by have := H1.out.ne; omega
    have HB := Lib.hid (show Below w.heap.size w (set7 (set2 w2 r (.slice none 0 0) (.slice none 0 0)) s 0 zM) from sets_below (by have := H1.out.ne; omega) zM.l 0 _ (set2_below H1.out.va.bel (by have := H1.out.ne; omega)))
    go_wp2
    exact bodyPost_ret (v := .tuple #[.agg #[.slice none 0 0, .slice none 0 0], .agg #[.int .i64 0, .int .i64 0, .int .i64 0, .int .i64 0, .int .i64 0, .int .i64 0, .string ⟨#[]⟩], .int .i64 x]) (by simp only [results, Tryz.results24]; go_simp <;> rfl) rfl (tme_nil rfl rfl rfl rfl HB.out)
end Go.Proofs.YtjclhlejbidpgaaGreat
