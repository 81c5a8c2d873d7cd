/- What is proved here: Lsp; More of the statements' base. -/
import Derived.Test.YtjclhlejbidpgaaJ26
import Derived.Test.YtjclhlejbidpgaaJ27
import Derived.Test.YtjclhlejbidpgaaJ23
/- Plain: what a sequence of grants, releases and extensions holds: a source, a table in a box, the deadlines in an array. -/
namespace Go.Proofs.Ytjclhlejbidpgaa
open Go.RowKit
set_option linter.unusedVariables false

theorem El.grownB {W W' : World} {g lo n c B : Nat} {A : Option Addr} {l : List Le} (h : El W B (.slice A n c) l) (hA : Nw lo A) (hg : g < lo) (hB : B ≤ W.heap.size) (hgr : W.grownBy W' (some g)) : El W' B (.slice A n c) l := by
  obtain ⟨A', c', e, hl, hm, hr⟩ := h
  injection e with e1 e2 e3
  subst e1; subst e3
  refine ⟨A, c, by rw [e2], hl, hm, hr.1, fun h0 => ?_⟩
  obtain ⟨b, o, e, hb, hc⟩ := hr.2 h0
  have hlo : lo ≤ b := hA _ e
  exact ⟨b, o, e, hb, fun j u hu => (hgr.cell_far ⟨b, o + j, none⟩ (Nat.lt_of_lt_of_le hb hB) (fun e' => by injection e' with e'; have e2 : b = g := e'; omega)).trans (hc j u hu)⟩
theorem Dl.grownB {W W' : World} {g lo n c B : Nat} {A : Option Addr} {l : List Du} (h : Dl W B (.slice A n c) l) (hA : Nw lo A) (hg : g < lo) (hB : B ≤ W.heap.size) (hgr : W.grownBy W' (some g)) : Dl W' B (.slice A n c) l := by
  obtain ⟨A', c', e, hl, hm, hr⟩ := h
  injection e with e1 e2 e3
  subst e1; subst e3
  refine ⟨A, c, by rw [e2], hl, hm, hr.1, fun h0 => ?_⟩
  obtain ⟨b, o, e, hb, hc⟩ := hr.2 h0
  have hlo : lo ≤ b := hA _ e
  exact ⟨b, o, e, hb, fun j u hu => (hgr.cell_far ⟨b, o + j, none⟩ (Nat.lt_of_lt_of_le hb hB) (fun e' => by injection e' with e'; have e2 : b = g := e'; omega)).trans (hc j u hu)⟩
theorem RT.far1 {W : World} {r n c n2 c2 : Nat} {A A2 : Option Addr} (h : RT W r A n c A2 n2 c2) {p : Addr} (hp : p.block ≠ r) (v : Value) : RT (W.setCell p v) r A n c A2 n2 c2 :=
  ⟨(World.cell?_setCell_other W p _ v (fun e => hp (by rw [e]))).trans h.c0, (World.cell?_setCell_other W p _ v (fun e => hp (by rw [e]))).trans h.c1, by rw [World.frozen?_setCell]; exact h.f0, by rw [World.frozen?_setCell]; exact h.f1, by simpa using h.lt⟩

/-- An array of thirty numbers in a block. -/
structure Hv (W : World) (q : Nat) (F : Nat → Int) : Prop where
  lt : q < W.heap.size
  at_ : ∀ j, j < 30 → W.cell? ⟨q, j, none⟩ = some (.int .i64 (F j))
  fr : ∀ o, W.frozen? ⟨q, o, none⟩ = false
/-- The array with another number at a place. -/
def upd (F : Nat → Int) (j : Nat) (x : Int) : Nat → Int := fun k => if k = j then x else F k
section
variable {W W' : World} {q g : Nat} {F : Nat → Int}
theorem Hv.below (h : Hv W q F) (hb : Below W.heap.size W W') : Hv W' q F :=
  ⟨Nat.lt_of_lt_of_le h.lt hb.size, fun j hj => (hb.cell (p := ⟨q, j, none⟩) h.lt).trans (h.at_ j hj), fun o => (hb.frozen (p := ⟨q, o, none⟩) h.lt).trans (h.fr o)⟩
theorem Hv.grownG (h : Hv W q F) (hgr : W.grownBy W' (some g)) (hne : q ≠ g) : Hv W' q F :=
  ⟨Nat.lt_of_lt_of_le h.lt hgr.size, fun j hj => (hgr.cell_far ⟨q, j, none⟩ h.lt (fun e => hne (by injection e))).trans (h.at_ j hj), fun o => (hgr.frozen_far ⟨q, o, none⟩ h.lt (fun e => hne (by injection e))).trans (h.fr o)⟩
theorem Hv.other (h : Hv W q F) {p : Addr} (hp : p.block ≠ q) (v : Value) : Hv (W.setCell p v) q F :=
  ⟨by simpa using h.lt, fun j hj => (World.cell?_setCell_other W p _ v (fun e => hp (by rw [e]))).trans (h.at_ j hj), fun o => by rw [World.frozen?_setCell]; exact h.fr o⟩
theorem Hv.put (h : Hv W q F) {j : Nat} (hj : j < 30) (x : Int) : Hv (W.setCell ⟨q, j, none⟩ (.int .i64 x)) q (upd F j x) := by
  refine ⟨by simpa using h.lt, fun k hk => ?_, fun o => by rw [World.frozen?_setCell]; exact h.fr o⟩
  unfold upd
  by_cases e : k = j
  · subst e
    rw [if_pos rfl, World.cell?_setCell_same' _ _ _ (by rw [h.at_ k hk]; rfl)]
  · rw [if_neg e, World.cell?_setCell_other _ _ _ _ (fun e' => by injection e' with _ e' _; exact e e'.symm)]
    exact h.at_ k hk
end

/-- What the sequence holds. -/
structure ScAt (w : World) (g r q Bd : Nat) (A : Option Addr) (c : Nat) (l : List Le) (A2 : Option Addr) (c2 : Nat) (h : List Du) (F : Nat → Int) (W : World) : Prop where
  src : SrcAt W w.heap.size g
  rt : RT W r A l.length c A2 h.length c2
  el : El W Bd (.slice A l.length c) l
  dl : Dl W Bd (.slice A2 h.length c2) h
  hv : Hv W q F
  nw : Nw (q + 1) A ∧ Nw (q + 1) A2
  bel : Below w.heap.size w W
  ord : w.heap.size ≤ g ∧ g < r ∧ r < q ∧ q < Bd ∧ Bd ≤ W.heap.size
/-- With a new table in a box behind it. -/
structure ScY (w : World) (g r q Bd y : Nat) (A : Option Addr) (c : Nat) (l : List Le) (A2 : Option Addr) (c2 : Nat) (h : List Du) (F : Nat → Int) (A5 : Option Addr) (c5 : Nat) (l5 : List Le) (A6 : Option Addr) (c6 : Nat) (h6 : List Du) (W : World) : Prop where
  sc : ScAt w g r q Bd A c l A2 c2 h F W
  ry : RT W y A5 l5.length c5 A6 h6.length c6
  el : El W W.heap.size (.slice A5 l5.length c5) l5
  dl : Dl W W.heap.size (.slice A6 h6.length c6) h6
  nw : Nw (q + 1) A5 ∧ Nw (q + 1) A6
  ne : q < y
section
variable {w W W' : World} {g r q Bd y lo c c2 c5 c6 n m : Nat} {A A2 A5 A6 B1 B2 : Option Addr} {l l5 : List Le} {h h6 : List Du} {F : Nat → Int}
theorem ScAt.below (k : ScAt w g r q Bd A c l A2 c2 h F W) (hb : Below W.heap.size W W') : ScAt w g r q Bd A c l A2 c2 h F W' :=
  have ho := k.ord
  ⟨k.src.below hb, k.rt.below hb k.rt.lt, k.el.below (hb.mono ho.2.2.2.2), k.dl.below (hb.mono ho.2.2.2.2), k.hv.below hb, k.nw, k.bel.trans (hb.mono k.bel.size), ho.1, ho.2.1, ho.2.2.1, ho.2.2.2.1, Nat.le_trans ho.2.2.2.2 hb.size⟩
theorem ScAt.grownG (k : ScAt w g r q Bd A c l A2 c2 h F W) (hs : SrcAt W' w.heap.size g) (hg : W.grownBy W' (some g)) : ScAt w g r q Bd A c l A2 c2 h F W' :=
  have ho := k.ord
  ⟨hs, k.rt.grownG hg (by omega), k.el.grownB k.nw.1 (by omega) ho.2.2.2.2 hg, k.dl.grownB k.nw.2 (by omega) ho.2.2.2.2 hg, k.hv.grownG hg (by omega), k.nw, below_only k.bel hg ho.1 (Nat.le_refl _), ho.1, ho.2.1, ho.2.2.1, ho.2.2.2.1, Nat.le_trans ho.2.2.2.2 hg.size⟩
theorem ScAt.now (k : ScAt w g r q Bd A c l A2 c2 h F W) : ScAt w g r q W.heap.size A c l A2 c2 h F W :=
  have ho := k.ord
  ⟨k.src, k.rt, k.el.more ho.2.2.2.2, k.dl.more ho.2.2.2.2, k.hv, k.nw, k.bel, ho.1, ho.2.1, ho.2.2.1, Nat.lt_of_lt_of_le ho.2.2.2.1 ho.2.2.2.2, Nat.le_refl _⟩
theorem ScAt.drewN (k : ScAt w g r q Bd A c l A2 c2 h F W) (n : Nat) : ScAt w g r q Bd A c l A2 c2 h F (W.drewN n) := k.below (below_drewN (Below.refl _ _) n)
/-- A store behind it. -/
theorem ScAt.far (k : ScAt w g r q Bd A c l A2 c2 h F W) (hy : Bd ≤ y) (v v2 : Value) : ScAt w g r q Bd A c l A2 c2 h F (set2 W y v v2) := by
  have ho := k.ord
  exact ⟨(k.src.other (p := ⟨y, 0, none⟩) (show y ≠ g by omega) (show w.heap.size ≤ y by omega) _).other (p := ⟨y, 1, none⟩) (show y ≠ g by omega) (show w.heap.size ≤ y by omega) _, k.rt.far (by omega) _ _, (k.el.setCell (p := ⟨y, 0, none⟩) hy _).setCell (p := ⟨y, 1, none⟩) hy _, (k.dl.setCell (p := ⟨y, 0, none⟩) hy _).setCell (p := ⟨y, 1, none⟩) hy _,
    (k.hv.other (p := ⟨y, 0, none⟩) (show y ≠ q by omega) _).other (p := ⟨y, 1, none⟩) (show y ≠ q by omega) _, k.nw, set2_below k.bel (by omega), by rw [set2_size]; exact ho⟩
/-- A number of the array. -/
theorem ScAt.put (k : ScAt w g r q Bd A c l A2 c2 h F W) {j : Nat} (hj : j < 30) (x : Int) : ScAt w g r q Bd A c l A2 c2 h (upd F j x) (W.setCell ⟨q, j, none⟩ (.int .i64 x)) := by
  have ho := k.ord
  exact ⟨k.src.other (p := ⟨q, j, none⟩) (show q ≠ g by omega) (show w.heap.size ≤ q by omega) _, k.rt.far1 (p := ⟨q, j, none⟩) (show q ≠ r by omega) _, k.el.off k.nw.1 (p := ⟨q, j, none⟩) (Nat.lt_succ_self q) _, k.dl.off k.nw.2 (p := ⟨q, j, none⟩) (Nat.lt_succ_self q) _, k.hv.put hj x, k.nw, k.bel.setCell (p := ⟨q, j, none⟩) (show w.heap.size ≤ q by omega) _, by simpa using ho⟩
/-- The new table is stored behind it, the array is turned. -/
theorem sc_ok {n1 m1 n2 m2 : Nat} (k : ScAt w g r q Bd A c l A2 c2 h F W) (ry : RT W y B1 n1 m1 B2 n2 m2) (hy : Bd ≤ y) (hl : y < lo) (n5 : Nw lo A5) (n6 : Nw lo A6) (h5 : El W W.heap.size (.slice A5 l5.length c5) l5) (h6' : Dl W W.heap.size (.slice A6 h6.length c6) h6) {j : Nat} (hj : j < 30) (x : Int) :
    ScY w g r q Bd y A c l A2 c2 h (upd F j x) A5 c5 l5 A6 c6 h6 ((set2 W y (.slice A5 l5.length c5) (.slice A6 h6.length c6)).setCell ⟨q, j, none⟩ (.int .i64 x)) := by
  have ho := k.ord
  refine ⟨(k.far hy _ _).put hj x, (ry.put _ _ _ _ _ _).far1 (p := ⟨q, j, none⟩) (show q ≠ y by omega) _, ?_, ?_, ⟨nw_low n5 (by omega), nw_low n6 (by omega)⟩, by omega⟩
  · exact ((h5.set2 n5 hl).off n5 (p := ⟨q, j, none⟩) (show q < lo by omega) _).more (by simp)
  · exact ((h6'.set2 n6 hl).off n6 (p := ⟨q, j, none⟩) (show q < lo by omega) _).more (by simp)
theorem ScY.take (k : ScY w g r q Bd y A c l A2 c2 h F A5 c5 l5 A6 c6 h6 W) : ScAt w g r q W.heap.size A5 c5 l5 A6 c6 h6 F (set2 W r (.slice A5 l5.length c5) (.slice A6 h6.length c6)) := by
  have ho := k.sc.ord
  have hv := (k.sc.hv.other (p := ⟨r, 0, none⟩) (show r ≠ q by omega) (.slice A5 l5.length c5)).other (p := ⟨r, 1, none⟩) (show r ≠ q by omega) (.slice A6 h6.length c6)
  exact ⟨(k.sc.src.other (p := ⟨r, 0, none⟩) (show r ≠ g by omega) (show w.heap.size ≤ r by omega) _).other (p := ⟨r, 1, none⟩) (show r ≠ g by omega) (show w.heap.size ≤ r by omega) _, k.sc.rt.put _ _ _ _ _ _, k.el.set2 k.nw.1 (by omega), k.dl.set2 k.nw.2 (by omega), hv, k.nw, set2_below k.sc.bel (by omega), by rw [set2_size]; exact ⟨ho.1, ho.2.1, ho.2.2.1, by omega, Nat.le_refl _⟩⟩
end

/-- The array holds the deadlines of a valid table. -/
structure SkOk (l : List Le) (h : List Du) (F : Nat → Int) : Prop where
  ok : TbOk l h
  pos : ∀ y ∈ l, 1 ≤ y.dl
  eq : ∀ x : Nat, x < 30 → F x = dlO l x
section
variable {l : List Le} {h : List Du} {F : Nat → Int}
theorem SkOk.nil : SkOk [] [] (fun _ => 0) := ⟨TbOk.nil, fun y hy => (by cases hy), fun x _ => (dlO_none (by rw [kFi_none (fun a ha => by cases ha)]; decide)).symm⟩
theorem SkOk.has (k : SkOk l h F) {x : Nat} (hx : x < 30) : 0 < F x ↔ 0 ≤ kFi Le.id l x := by rw [k.eq x hx]; exact dlO_pos k.ok.asc k.pos x
theorem SkOk.rl (k : SkOk l h F) {x : Nat} (hx : x < 30) : rlE l h x = 0 ↔ 0 < F x := by
  rw [k.has hx]
  unfold rlE
  rw [if_neg (by simpa using (tbV_iff l h).2 k.ok)]
  by_cases h1 : kFi Le.id l x < 0
  · rw [if_pos h1]; exact ⟨fun e => absurd e (by decide), fun e => by omega⟩
  · rw [if_neg h1]; exact ⟨fun _ => by omega, fun _ => rfl⟩
theorem SkOk.ex (k : SkOk l h F) {x : Nat} (hx : x < 30) {d : Int} (hd : 1 ≤ d ∧ d ≤ 30) : exE l h x d = 0 ↔ 0 < F x := by
  rw [k.has hx]
  unfold exE
  rw [if_neg (by simpa using (tbV_iff l h).2 k.ok)]
  by_cases h1 : kFi Le.id l x < 0
  · rw [if_pos h1]; exact ⟨fun e => absurd e (by decide), fun e => by omega⟩
  · rw [if_neg h1, if_neg (by omega)]; exact ⟨fun _ => by omega, fun _ => rfl⟩
theorem SkOk.same (k : SkOk l h F) {x : Nat} (hx : x < 30) (h0 : ¬ 0 < F x) : SkOk l h (upd F x 0) := by
  refine ⟨k.ok, k.pos, fun y hy => ?_⟩
  unfold upd
  by_cases e : y = x
  · subst e
    rw [if_pos rfl, dlO_none (by have := k.has hy; omega)]
  · rw [if_neg e]; exact k.eq y hy
theorem SkOk.grant (k : SkOk l h F) {N : Msg} {x : Nat} {d : Int} (hd : 1 ≤ d) (hN : N.id = x) (e : grE l h ⟨N, d⟩ = 0) : SkOk (grL l h ⟨N, d⟩) (grH l h ⟨N, d⟩) (upd F x d) := by
  obtain ⟨_, ok, hl, hf⟩ := grE_zero e
  have hi : (⟨N, d⟩ : Le).id = (x : Int) := hN
  refine ⟨tb_gr k.ok _, fun y hy => ?_, fun y hy => ?_⟩
  · unfold grL at hy
    rw [if_pos e] at hy
    rcases List.mem_cons.1 ((kIns_perm l _).mem_iff.1 hy) with e' | hy
    · rw [e']; exact hd
    · exact k.pos y hy
  · unfold grL upd
    rw [if_pos e, dlO_ins k.ok.asc hf, hi]
    by_cases e' : y = x
    · rw [if_pos e', if_pos (by rw [e'])]
    · rw [if_neg e', if_neg (by omega)]; exact k.eq y hy
theorem SkOk.release (k : SkOk l h F) {x : Nat} (e : rlE l h x = 0) : SkOk (rlL l h x) (rlH l h x) (upd F x 0) := by
  obtain ⟨t, i, hi, _, ei, e2, e3, _⟩ := rlE_at e
  rw [e2, e3]
  refine ⟨by rw [← ei]; exact t.release hi, fun y hy => k.pos y ((List.eraseIdx_sublist l i).subset hy), fun y hy => ?_⟩
  unfold upd
  rw [dlO_erase t.asc hi, ei]
  by_cases e' : y = x
  · rw [if_pos e', if_pos (by rw [e'])]
  · rw [if_neg e', if_neg (by omega)]; exact k.eq y hy
theorem SkOk.extend (k : SkOk l h F) {x : Nat} {d : Int} (hd : 1 ≤ d) (e : exE l h x d = 0) : SkOk (exL l h x d) (exH l h x d) (upd F x d) := by
  obtain ⟨_, d0, d1⟩ := exE_zero e
  obtain ⟨t, i, hi, _, ei, e2, e3⟩ := exE_at e
  have ok : leOk (l[i].till d) := by
    obtain ⟨q1, q2, _, _⟩ := t.ok _ (List.getElem_mem hi)
    exact ⟨q1, q2, d0, d1⟩
  have hid : (l[i].till d).id = l[i].id := rfl
  have ep : exH l h x d = hpu (rmR h l[i].id) (l[i].till d).du := by
    rw [ei]
    unfold exH
    rw [if_pos e]
    show hpu (rmR h x) ⟨d, x⟩ = hpu (rmR h x) ⟨d, l[i].id⟩
    rw [ei]
  refine ⟨by rw [ep, e3]; exact t.extend hi ok ok.snd hid, fun y hy => ?_, fun y hy => ?_⟩
  · rw [e3] at hy
    rcases List.mem_or_eq_of_mem_set hy with hy | hy
    · exact k.pos y hy
    · rw [hy]; exact hd
  · unfold upd
    rw [e3, dlO_set t.asc hi hid, hid, ei]
    by_cases e' : y = x
    · rw [if_pos e', if_pos (by rw [e'])]; rfl
    · rw [if_neg e', if_neg (by omega)]; exact k.eq y hy
/-- What Find answers. -/
theorem SkOk.find (k : SkOk l h F) {x : Nat} (hx : x < 30) : (fnO l h x = true ∧ 0 < F x ∧ (fnX l h x).dl = F x ∧ (fnX l h x).m.id = x) ∨ (fnO l h x = false ∧ ¬ 0 < F x) := by
  by_cases h0 : 0 < F x
  · have hk := (k.has hx).1 h0
    rcases kFi_cases Le.id l x with ⟨e, _⟩ | ⟨i, hi, e, ei, _⟩
    · omega
    · obtain ⟨f1, f2⟩ := fn_yes (h := h) ((tbV_iff l h).2 k.ok) hi e
      refine .inl ⟨f1, h0, ?_, by rw [f2]; exact ei⟩
      rw [f2, k.eq x hx, ← ei]
      exact (dlO_at k.ok.asc hi).symm
  · exact .inr ⟨(fn_no (fun e => h0 ((k.has hx).2 e.2))).1, h0⟩
end
end Go.Proofs.Ytjclhlejbidpgaa
namespace Go.Proofs.Ytjclhlejbidpgaa
open Go.RowKit
set_option linter.unusedVariables false

/-- A yes or no of a source. -/
def SrBool (B g : Nat) (w : World) (e : Ending) (w' : World) : Prop := ∃ b : Bool, e = .returned (.bool b) ∧ SrcAt w' B g ∧ w.grownBy w' (some g)
set_option maxHeartbeats 2000000 in
theorem more_any (B g : Nat) (w : World) (h : SrcAt w B g) : Calls Try.prog 7 #[.pointer (some ⟨g, 0, none⟩)] w (SrBool B g w) := by
  have H := Lib.hid h
  obtain ⟨hB, hg, A, n, c, k, zs, a1, a2, a3, a4, a5, a6, a7, a8, a9⟩ := h
  have HK := Lib.hid (show ∀ b : Bool, decide ((k : Int) < (n : Int)) = b → True from fun _ _ => trivial)
  clear hB hg a2 a3 a4 a8 a9
  go_enter Try.func7, Try.ntmps7
  go_wp2
  go_quiet (fail)
  go_wp2
  go_ret
  exact ⟨_, rfl, H.out.drewN _, only_drewN (World.grownBy.refl _ _) _⟩
end Go.Proofs.Ytjclhlejbidpgaa
