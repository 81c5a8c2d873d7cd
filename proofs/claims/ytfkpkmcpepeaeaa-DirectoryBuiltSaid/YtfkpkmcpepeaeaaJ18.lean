/- What is proved here: New of the statements' base makes a source of a list; what a statement about built directories holds: a source, a directory in a box, its lists copied and changed in one place. -/
import Derived.Test.YtfkpkmcpepeaeaaJ02
import Derived.Test.YtfkpkmcpepeaeaaJ03
import Derived.Test.YtfkpkmcpepeaeaaJ17
import Derived.Test.YtfkpkmcpepeaeaaJ07
namespace Go.Proofs.Ytfkpkmcpepeaeaa
open Go.RowKit
set_option linter.unusedVariables false

/-- A new source. -/
def SrNew (w : World) (e : Ending) (w' : World) : Prop := ∃ g, e = .returned (.pointer (some ⟨g, 0, none⟩)) ∧ SrcAt w' w.heap.size g ∧ Below w.heap.size w w'

theorem src_new (w : World) (A : Option Addr) (n c : Nat) (zs : List Int) (t : TypeId) (h : Rd w w.heap.size 1 A n (zs.map i64v)) (hn : n ≤ 4000) (hc : n ≤ c) (hm : c ≤ maxLen) (hz : ∀ z ∈ zs, -9223372036854775808 ≤ z ∧ z ≤ 9223372036854775807) :
    SrNew w (.returned (.pointer (some ⟨w.heap.size, 0, none⟩))) (w.alloc (.cells #[.slice A n c, .int .i64 0] t)) :=
  ⟨_, rfl, ⟨Nat.le_refl _, by simp, A, n, c, 0, zs, by omega, hn, hc, hm, by simp [go_sem], by simp [go_sem], by simp [go_sem], h.alloc (Nat.le_refl _) _, hz⟩, (Below.refl _ _).alloc (Nat.le_refl _) _⟩

theorem new_src (A : Option Addr) (n c : Nat) (zs : List Int) (w : World) (h : Ns w w.heap.size (.slice A n c) zs) : Calls Try.prog 12 #[.slice A n c] w (SrNew w) := by
  obtain ⟨hn, hc, hm, hr, hz⟩ := h.parts
  by_cases h4 : (4000 : Int) < (n : Int)
  · have ht' : Try.prog.underlying 23 = some (.slice (Try.prog.elem 23)) := by kernel_rfl
    have he : Try.prog.elem 23 = 3 := by kernel_rfl
    have hz8 : ∀ w, (Go.sizeOf 3).run Try.prog w = .ok 1 w := Try.sizeOf3
    have hcut : ∀ W, (Instr.slice 23 (.slice A n c) none (some (.int .i64 4000)) none).run Try.prog W = .ok (.slice A 4000 c) W := fun W => by
      have hq := run_slice_h W 23 A n c ht' .i64 4000 (by omega) (by omega)
      rw [hq, he, hz8]
      cases A <;> simp [Result.andThen, sliced, Addr.add]
    have hr4 : Rd w w.heap.size 1 A 4000 ((zs.take 4000).map i64v) := by
      have hlen : zs.length = n := hn.symm
      refine ⟨by simp; omega, fun h0 => ?_⟩
      obtain ⟨b, o, rfl, hb, hcc⟩ := hr.2 (by omega)
      refine ⟨b, o, rfl, hb, fun k u hu => hcc k u ?_⟩
      have hk : k < 4000 := by
        have := (List.getElem?_eq_some_iff.1 hu).1
        simp at this; omega
      rw [← hu, List.map_take, List.getElem?_take_of_lt hk]
    have HN := Lib.hid (src_new w A 4000 c (zs.take 4000) 69 hr4 (by omega) (by omega) hm (fun z hz' => hz z (List.mem_of_mem_take hz')))
    clear h hn hc hm hr hz hr4 hz8 he ht'
    go_enter Try.func12, Try.ntmps12
    go_wp2
    go_ret
    exact HN.out
  · have HN := Lib.hid (src_new w A n c zs 69 hr (by omega) hc hm hz)
    clear h hn hc hm hr hz
    go_enter Try.func12, Try.ntmps12
    go_wp2
    go_ret
    exact HN.out
end Go.Proofs.Ytfkpkmcpepeaeaa
namespace Go.Proofs.Ytfkpkmcpepeaeaa
open Go.RowKit
set_option linter.unusedVariables false

/-- Block q holds these cells and may be written. -/
structure Rb (W : World) (q : Nat) (cs : List Value) : Prop where
  c : ∀ (j : Nat) (u : Value), cs[j]? = some u → W.cell? ⟨q, j, none⟩ = some u
  f : ∀ o, W.frozen? ⟨q, o, none⟩ = false
  lt : q < W.heap.size
section
variable {W W' : World} {q g : Nat} {cs : List Value}
theorem Rb.up (h : Rb W q cs) (hb : Below W.heap.size W W') : Rb W' q cs := ⟨fun j u hu => (hb.cell (p := ⟨q, j, none⟩) h.lt).trans (h.c j u hu), fun o => (hb.frozen (p := ⟨q, o, none⟩) h.lt).trans (h.f o), Nat.lt_of_lt_of_le h.lt hb.size⟩
theorem Rb.grown (h : Rb W q cs) (hg : W.grownBy W' (some g)) (hne : q ≠ g) : Rb W' q cs :=
  ⟨fun j u hu => (hg.cell_far ⟨q, j, none⟩ h.lt (fun e => by injection e with e; exact hne e)).trans (h.c j u hu), fun o => (hg.frozen_far ⟨q, o, none⟩ h.lt (fun e => by injection e with e; exact hne e)).trans (h.f o), Nat.lt_of_lt_of_le h.lt hg.size⟩
theorem Rb.other (h : Rb W q cs) {a : Addr} (hne : a.block ≠ q) (v : Value) : Rb (W.setCell a v) q cs :=
  ⟨fun j u hu => (World.cell?_setCell_other W a ⟨q, j, none⟩ v (fun e => hne (by rw [e]))).trans (h.c j u hu), fun o => by rw [World.frozen?_setCell]; exact h.f o, by simpa using h.lt⟩
theorem Rb.set (h : Rb W q cs) {j : Nat} (hj : j < cs.length) (v : Value) : Rb (W.setCell ⟨q, j, none⟩ v) q (cs.set j v) := by
  refine ⟨fun i u hu => ?_, fun o => by rw [World.frozen?_setCell]; exact h.f o, by simpa using h.lt⟩
  by_cases e : i = j
  · subst e
    rw [List.getElem?_set_self hj] at hu
    injection hu with hu
    subst hu
    exact World.cell?_setCell_same' W _ _ (by rw [h.c i _ (List.getElem?_eq_getElem hj)]; rfl)
  · rw [List.getElem?_set_ne (fun e' => e e'.symm)] at hu
    exact (World.cell?_setCell_other W _ _ _ (fun e' => by injection e' with _ e2; exact e e2.symm)).trans (h.c i u hu)
theorem Rb.of_own {base size n cap : Nat} {e : TypeId} (h : W.ownsRow base e size (.slice (some ⟨q, 0, none⟩) n cap) n cs) : Rb W q cs :=
  ⟨fun j u hu => by have := h.cells (g := q) rfl j u hu; rw [add_mk, Nat.zero_add] at this; exact this, fun o => h.frozenAt o, (h.lt q rfl).2⟩
theorem Rb.pl {l : List Sp} {c : Nat} (h : Rb W q (scs l)) (hc : l.length ≤ c) (hm : c ≤ maxLen) : Pl W W.heap.size (.slice (some ⟨q, 0, none⟩) l.length c) l :=
  ⟨_, c, rfl, hc, hm, by rw [scs_len], fun _ => ⟨q, 0, rfl, h.lt, fun j u hu => by rw [Nat.zero_add]; exact h.c j u hu⟩⟩
theorem Rb.fl {F : List Int} {c : Nat} (h : Rb W q (ics F)) (hc : F.length ≤ c) (hm : c ≤ maxLen) : Fl W W.heap.size (.slice (some ⟨q, 0, none⟩) F.length c) F :=
  ⟨_, c, rfl, hc, hm, by rw [ics_len], fun _ => ⟨q, 0, rfl, h.lt, fun j u hu => by rw [Nat.zero_add]; exact h.c j u hu⟩⟩
end
theorem own_rb {W : World} {base size n : Nat} {e : TypeId} {v : Value} {cs : List Value} (ho : W.ownsRow base e size v n cs) (h0 : 0 < n) : ∃ q cap, v = .slice (some ⟨q, 0, none⟩) n cap ∧ base ≤ q ∧ n ≤ cap ∧ cap ≤ maxLen ∧ Rb W q cs := by
  rcases ho.2 with ⟨_, h⟩ | ⟨q, cap, cur, hv, hq, _, hl, hm, _⟩
  · omega
  · subst hv
    exact ⟨q, cap, rfl, hq, hl, hm, Rb.of_own ho⟩
theorem ics_set {F : List Int} {k : Nat} (x : Int) : (ics F).set k (.int .i64 x) = ics (F.set k x) := by
  unfold ics
  rw [List.map_set]
  rfl
/-- The spans are copied. -/
structure Be10 (w : World) (g p q1 c1 : Nat) (d : Dd) (A2 : Option Addr) (c2 : Nat) (W : World) : Prop where
  src : SrcAt W w.heap.size g
  db : Db10 W p d ⟨some ⟨q1, 0, none⟩, c1, A2, c2⟩
  r1 : Rb W q1 (scs d.l)
  fl : Fl W W.heap.size (.slice A2 d.F.length c2) d.F
  bel : Below w.heap.size w W
  ord : w.heap.size ≤ g ∧ g < p ∧ p < q1
  cap : d.l.length ≤ c1 ∧ c1 ≤ maxLen
  off : ∀ a, A2 = some a → 0 < d.F.length → a.block ≠ p
/-- Both lists are copied. -/
structure Bf10 (w : World) (g p q1 c1 q2 c2 : Nat) (d : Dd) (W : World) : Prop where
  src : SrcAt W w.heap.size g
  db : Db10 W p d ⟨some ⟨q1, 0, none⟩, c1, some ⟨q2, 0, none⟩, c2⟩
  r1 : Rb W q1 (scs d.l)
  r2 : Rb W q2 (ics d.F)
  bel : Below w.heap.size w W
  ord : w.heap.size ≤ g ∧ g < p ∧ p < q1 ∧ q1 < q2
  cap : (d.l.length ≤ c1 ∧ c1 ≤ maxLen) ∧ d.F.length ≤ c2 ∧ c2 ≤ maxLen
theorem Db10.set1 {W : World} {p : Nat} {d : Dd} {X : Dx} (h : Db10 W p d X) (A : Option Addr) (c : Nat) : Db10 (W.setCell ⟨p, 1, none⟩ (.slice A d.l.length c)) p d ⟨A, c, X.A2, X.c2⟩ := by
  obtain ⟨c0, c1, c2, fr, lt⟩ := h
  exact ⟨by simp [go_sem, c0], by simp [go_sem, c1], by simp [go_sem, c2], fun o => by simp [go_sem, fr o], by simp [lt]⟩
theorem Db10.set2 {W : World} {p : Nat} {d : Dd} {X : Dx} (h : Db10 W p d X) (A : Option Addr) (c : Nat) : Db10 (W.setCell ⟨p, 2, none⟩ (.slice A d.F.length c)) p d ⟨X.A, X.c, A, c⟩ := by
  obtain ⟨c0, c1, c2, fr, lt⟩ := h
  exact ⟨by simp [go_sem, c0], by simp [go_sem, c1], by simp [go_sem, c2], fun o => by simp [go_sem, fr o], by simp [lt]⟩
section
variable {w W W' : World} {g p q1 c1 q2 c2 : Nat} {d : Dd} {X : Dx} {A2 : Option Addr}
theorem DsAt.one (k : DsAt w w.heap.size g p d X W) (hgp : g < p) {q : Nat} {c : Nat} (hb : Below W.heap.size W W') (hr : Rb W' q (scs d.l)) (hq : W.heap.size ≤ q) (hc : d.l.length ≤ c ∧ c ≤ maxLen) :
    Be10 w g p q c d X.A2 X.c2 (W'.setCell ⟨p, 1, none⟩ (.slice (some ⟨q, 0, none⟩) d.l.length c)) := by
  have k' := k.below hb
  have hn := k.ne
  have hp := k.db.lt
  exact ⟨k'.src.other (p := ⟨p, 1, none⟩) (show p ≠ g by omega) (show w.heap.size ≤ p by omega) _, k'.db.set1 _ _, hr.other (a := ⟨p, 1, none⟩) (show p ≠ q by omega) _, (k'.dr.fl.offp (p := ⟨p, 1, none⟩) k.op.o2 _).more (by simp), k'.bel.setCell (p := ⟨p, 1, none⟩) (show w.heap.size ≤ p by omega) _, ⟨by omega, hgp, by omega⟩, hc, k.op.o2⟩
theorem Be10.two (k : Be10 w g p q1 c1 d A2 c2 W) {q c : Nat} (hb : Below W.heap.size W W') (hr : Rb W' q (ics d.F)) (hq : W.heap.size ≤ q) (hc : d.F.length ≤ c ∧ c ≤ maxLen) :
    Bf10 w g p q1 c1 q c d (W'.setCell ⟨p, 2, none⟩ (.slice (some ⟨q, 0, none⟩) d.F.length c)) := by
  have hn := k.ord
  have hp := k.r1.lt
  exact ⟨(k.src.below hb).other (p := ⟨p, 2, none⟩) (show p ≠ g by omega) (show w.heap.size ≤ p by omega) _, (k.db.up hb).set2 _ _, (k.r1.up hb).other (a := ⟨p, 2, none⟩) (show p ≠ q1 by omega) _, hr.other (a := ⟨p, 2, none⟩) (show p ≠ q by omega) _, (k.bel.trans (hb.mono k.bel.size)).setCell (p := ⟨p, 2, none⟩) (show w.heap.size ≤ p by omega) _, ⟨by omega, by omega, by omega, by omega⟩, k.cap, hc⟩
theorem Bf10.below (k : Bf10 w g p q1 c1 q2 c2 d W) (hb : Below W.heap.size W W') : Bf10 w g p q1 c1 q2 c2 d W' :=
  ⟨k.src.below hb, k.db.up hb, k.r1.up hb, k.r2.up hb, k.bel.trans (hb.mono k.bel.size), k.ord, k.cap⟩
theorem Bf10.drew (k : Bf10 w g p q1 c1 q2 c2 d W) : Bf10 w g p q1 c1 q2 c2 d W.drew := k.below (Below.refl _ _).drew
theorem Bf10.turn (k : Bf10 w g p q1 c1 q2 c2 d W) (hs : SrcAt W' w.heap.size g) (hg : W.grownBy W' (some g)) : Bf10 w g p q1 c1 q2 c2 d W' :=
  ⟨hs, k.db.grown hg (by have := k.ord; omega), k.r1.grown hg (by have := k.ord; omega), k.r2.grown hg (by have := k.ord; omega), below_only k.bel hg k.ord.1 (Nat.le_refl _), k.ord, k.cap⟩
theorem Bf10.dr (k : Bf10 w g p q1 c1 q2 c2 d W) : DR W W.heap.size d ⟨some ⟨q1, 0, none⟩, c1, some ⟨q2, 0, none⟩, c2⟩ := ⟨k.r1.pl k.cap.1.1 k.cap.1.2, k.r2.fl k.cap.2.1 k.cap.2.2⟩
/-- A cell of the box or of the lists is written: what is left of the rest. -/
theorem Bf10.setV (k : Bf10 w g p q1 c1 q2 c2 d W) (x : Int) : Bf10 w g p q1 c1 q2 c2 ⟨x, d.l, d.F⟩ (W.setCell ⟨p, 0, none⟩ (.int .i64 x)) := by
  have hn := k.ord
  obtain ⟨e0, e1, e2, fr, lt⟩ := k.db
  exact ⟨k.src.other (p := ⟨p, 0, none⟩) (show p ≠ g by omega) (show w.heap.size ≤ p by omega) _, ⟨by simp [go_sem, e0], by simp [go_sem, e1], by simp [go_sem, e2], fun o => by simp [go_sem, fr o], by simp [lt]⟩, k.r1.other (a := ⟨p, 0, none⟩) (show p ≠ q1 by omega) _, k.r2.other (a := ⟨p, 0, none⟩) (show p ≠ q2 by omega) _, k.bel.setCell (p := ⟨p, 0, none⟩) (show w.heap.size ≤ p by omega) _, k.ord, k.cap⟩
theorem Bf10.setF (k : Bf10 w g p q1 c1 q2 c2 d W) {j : Nat} (hj : j < d.F.length) (x : Int) : Bf10 w g p q1 c1 q2 c2 ⟨d.vn, d.l, d.F.set j x⟩ (W.setCell ⟨q2, j, none⟩ (.int .i64 x)) := by
  have hn := k.ord
  have h2 := k.r2.set (j := j) (by rw [ics_len]; omega) (.int .i64 x)
  rw [ics_set] at h2
  have h3 := k.db.other (a := ⟨q2, j, none⟩) (show q2 ≠ p by omega) (.int .i64 x)
  exact ⟨k.src.other (p := ⟨q2, j, none⟩) (show q2 ≠ g by omega) (show w.heap.size ≤ q2 by omega) _, ⟨h3.c0, h3.c1, by rw [show (⟨d.vn, d.l, d.F.set j x⟩ : Dd).F.length = d.F.length from List.length_set]; exact h3.c2, h3.fr, h3.lt⟩, k.r1.other (a := ⟨q2, j, none⟩) (show q2 ≠ q1 by omega) _, h2, k.bel.setCell (p := ⟨q2, j, none⟩) (show w.heap.size ≤ q2 by omega) _, k.ord, k.cap.1, by rw [show (⟨d.vn, d.l, d.F.set j x⟩ : Dd).F.length = d.F.length from List.length_set]; exact k.cap.2⟩
theorem Bf10.setL (k : Bf10 w g p q1 c1 q2 c2 d W) {o : Nat} {L : List Sp} {x : Int} (hl : L.length = d.l.length) (ho : o < d.l.length * 3) (he : (scs d.l).set o (.int .i64 x) = scs L) : Bf10 w g p q1 c1 q2 c2 ⟨d.vn, L, d.F⟩ (W.setCell ⟨q1, o, none⟩ (.int .i64 x)) := by
  have hn := k.ord
  have h2 := k.r1.set (j := o) (by rw [scs_len]; exact ho) (.int .i64 x)
  rw [he] at h2
  have h3 := k.db.other (a := ⟨q1, o, none⟩) (show q1 ≠ p by omega) (.int .i64 x)
  exact ⟨k.src.other (p := ⟨q1, o, none⟩) (show q1 ≠ g by omega) (show w.heap.size ≤ q1 by omega) _, ⟨h3.c0, by rw [show (⟨d.vn, L, d.F⟩ : Dd).l.length = d.l.length from hl]; exact h3.c1, h3.c2, h3.fr, h3.lt⟩, h2, k.r2.other (a := ⟨q1, o, none⟩) (show q1 ≠ q2 by omega) _, k.bel.setCell (p := ⟨q1, o, none⟩) (show w.heap.size ≤ q1 by omega) _, k.ord, by rw [show (⟨d.vn, L, d.F⟩ : Dd).l.length = d.l.length from hl]; exact k.cap⟩
theorem Bf10.ko (k : Bf10 w g p q1 c1 q2 c2 d W) {a : Addr} (h : a.block ≠ p) (v : Value) : K3 p d ⟨some ⟨q1, 0, none⟩, c1, some ⟨q2, 0, none⟩, c2⟩ (W.setCell a v) := by
  have h3 := k.db.other (a := a) h v
  exact ⟨h3.c0, h3.c1, h3.c2⟩
theorem Bf10.pn (k : Bf10 w g p q1 c1 q2 c2 d W) : (q1 ≠ p ∧ q2 ≠ p) ∧ q1 < W.heap.size ∧ q2 < W.heap.size := by have h1 := k.ord; have h2 := k.r1.lt; have h3 := k.r2.lt; omega
/-- The cells of a span. -/
theorem Bf10.sp (k : Bf10 w g p q1 c1 q2 c2 d W) {j : Nat} (hj : j < d.l.length) : W.cell? ⟨q1, j * 3, none⟩ = some (.int .i64 (sg d.l j).lo) ∧ W.cell? ⟨q1, j * 3 + 1, none⟩ = some (.int .i64 (sg d.l j).hi) ∧ W.cell? ⟨q1, j * 3 + 2, none⟩ = some (.int .i64 (sg d.l j).sh) := by
  have h : ∀ i u, i < 3 → (d.l[j]).l[i]? = some u → W.cell? ⟨q1, j * 3 + i, none⟩ = some u := fun i u hi hu => k.r1.c _ u (by rw [scs_at d.l j i hj hi]; exact hu)
  rw [sg_get hj]
  exact ⟨h 0 _ (by omega) rfl, h 1 _ (by omega) rfl, h 2 _ (by omega) rfl⟩
end
end Go.Proofs.Ytfkpkmcpepeaeaa
