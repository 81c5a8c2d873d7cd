/- What is proved here: (plain) Apply of a valid directory gives a valid one; New gives a valid one; directory.Owner, Span, Home by contracts; in the statements of layer 10, awake is true; (plain) each route has exactly one owner; New gives a valid directory; directory.merge by a contract. -/
import Derived.Test.YtkecnihgjepfeaaJ06
import Derived.Test.YtkecnihgjepfeaaJ04
import Derived.Test.YtkecnihgjepfeaaRows
import Derived.Test.YtkecnihgjepfeaaJ02
import Derived.WalkKit
import Derived.Outline
import Derived.IntWalk
import Derived.Deep.RegionHeld3
import Derived.Deep.DrawnRows
import Derived.Deep.RegionWith
import Derived.Laws.EntriesVeiled
import Derived.Deep.AppendLies
import Derived.Test.YtkecnihgjepfeaaJ05
namespace Go.Proofs.Ytkecnihgjepfeaa
set_option linter.unusedVariables false

theorem spE_ok {d : Dd} {e : Ed} (h : spE d e = 0) : 0 ≤ ixS d.l e.fr ∧ ixS d.l e.to < 0 ∧ (sg d.l (ixS d.l e.fr).toNat).lo ≤ e.md ∧ e.md < (sg d.l (ixS d.l e.fr).toNat).hi := by
  unfold spE at h
  by_cases h1 : ixS d.l e.fr < 0 ∨ 0 ≤ ixS d.l e.to
  · rw [if_pos h1] at h; exact absurd h (by decide)
  · rw [if_neg h1] at h
    by_cases h2 : (sg d.l (ixS d.l e.fr).toNat).lo ≤ e.md ∧ e.md < (sg d.l (ixS d.l e.fr).toNat).hi
    · exact ⟨by omega, by omega, h2.1, h2.2⟩
    · rw [if_neg h2] at h; exact absurd h (by decide)
theorem meE_ok {d : Dd} {e : Ed} (h : meE d e = 0) : 0 ≤ ixS d.l e.fr ∧ 0 ≤ ixS d.l e.to ∧ (ixS d.l e.fr - ixS d.l e.to = 1 ∨ ixS d.l e.to - ixS d.l e.fr = 1) := by
  unfold meE at h
  by_cases h1 : (ixS d.l e.fr < 0 ∨ ixS d.l e.to < 0) ∨ (ixS d.l e.fr - ixS d.l e.to ≠ 1 ∧ ixS d.l e.to - ixS d.l e.fr ≠ 1)
  · rw [if_pos h1] at h; exact absurd h (by decide)
  · omega
theorem spD_ok {d : Dd} {e : Ed} (h : OkD d) (hE : spE d e = 0) (hto : slotP d.F.length e.to) (hv : d.vn ≠ 1099511627776) : OkD (spD d e) := by
  obtain ⟨h1, h2, h3, h4⟩ := spE_ok hE
  obtain ⟨i, hi, hil, hs, _⟩ := ixS_pos h1
  rw [hi] at h3 h4
  have hi' : (i : Int).toNat = i := rfl
  rw [hi'] at h3 h4
  have hne := (ixS_neg (by omega : ¬ 0 ≤ ixS d.l e.to)).2
  have hno : ∀ y ∈ d.l, y.sh ≠ e.to := fun y hy => by
    obtain ⟨k, hk, rfl⟩ := List.getElem_of_mem hy
    have := hne k hk
    rwa [sg_get hk] at this
  have hl := sg_split hil
  have hD : spD d e = ⟨d.vn + 1, d.l.take i ++ ⟨(sg d.l i).lo, e.md, (sg d.l i).sh⟩ :: ⟨e.md + 1, (sg d.l i).hi, e.to⟩ :: d.l.drop (i + 1), d.F.set e.to.toNat (-1)⟩ := by
    unfold spD spL
    rw [hi, hi', hs]
  have ho := h.okl
  rw [hl] at ho hno
  have hO := ho.split (md := e.md) (t9 := e.to) ⟨h3, h4⟩ hto hno
  have htn : e.to.toNat < d.F.length := by have := hto; omega
  rw [← hl] at hno
  have hrg := h.rg
  have hmem : ∀ s : Int, s ≠ e.to → hasS (spD d e).l s → hasS d.l s := fun s hse hh => by
    rw [hD] at hh
    obtain ⟨z, hz, rfl⟩ := hasS_iff.1 hh
    have hz' : z ∈ d.l.take i ++ ⟨(sg d.l i).lo, e.md, (sg d.l i).sh⟩ :: ⟨e.md + 1, (sg d.l i).hi, e.to⟩ :: d.l.drop (i + 1) := hz
    rw [List.mem_append, List.mem_cons, List.mem_cons] at hz'
    rcases hz' with hz | rfl | rfl | hz
    · exact hasS_iff.2 ⟨z, List.mem_of_mem_take hz, rfl⟩
    · exact hasS_iff.2 ⟨sg d.l i, sg_mem hil, rfl⟩
    · exact absurd rfl hse
    · exact hasS_iff.2 ⟨z, List.mem_of_mem_drop hz, rfl⟩
  have hF : (spD d e).F = d.F.set e.to.toNat (-1) := by rw [hD]
  have hFL : (spD d e).F.length = d.F.length := by rw [hF, List.length_set]
  have hf1 : ∀ j, j < (spD d e).F.length → f1D (spD d e).l (spD d e).F j := fun j hj => by
    rw [hFL] at hj
    have k := h.f1 j hj
    unfold f1D
    rw [hFL, hF, ig_set htn]
    by_cases hje : j = e.to.toNat
    · rw [if_pos hje]
      exact ⟨by omega, fun _ => rfl⟩
    · rw [if_neg hje]
      exact ⟨k.1, fun hh => k.2 (hmem _ (by have := hto.1; omega) hh)⟩
  refine OkL.okd ?_ ?_ ⟨hf1, fun j hj => ?_⟩
  · rw [hFL, hD]; exact hO
  · unfold rgD at hrg ⊢
    rw [hFL]
    have : (spD d e).vn = d.vn + 1 := rfl
    rw [this]
    omega
  · rw [hFL] at hj ⊢
    rw [hF]
    exact fw_split htn (h.f2 j hj)
theorem meD_ok {d : Dd} {e : Ed} (h : OkD d) (hE : meE d e = 0) (hfr : slotP d.F.length e.fr) (hto : slotP d.F.length e.to) (hv : d.vn ≠ 1099511627776) : OkD (meD d e) := by
  obtain ⟨h1, h2, h3⟩ := meE_ok hE
  obtain ⟨i, hi, hil, hsi, _⟩ := ixS_pos h1
  obtain ⟨j, hj, hjl, hsj, _⟩ := ixS_pos h2
  obtain ⟨f, hf⟩ : ∃ f : Nat, (min (ixS d.l e.fr) (ixS d.l e.to)).toNat = f := ⟨_, rfl⟩
  have hfx : f + 1 < d.l.length ∧ ((f = i ∧ f + 1 = j) ∨ (f = j ∧ f + 1 = i)) := by
    rw [hi, hj] at hf h3
    omega
  have hsh : ((sg d.l f).sh = e.fr ∧ (sg d.l (f + 1)).sh = e.to) ∨ ((sg d.l f).sh = e.to ∧ (sg d.l (f + 1)).sh = e.fr) := by
    rcases hfx.2 with ⟨rfl, e2⟩ | ⟨rfl, e2⟩
    · left; rw [e2]; exact ⟨hsi, hsj⟩
    · right; rw [e2]; exact ⟨hsj, hsi⟩
  have hl : d.l = d.l.take f ++ sg d.l f :: sg d.l (f + 1) :: d.l.drop (f + 2) := by
    have e2 : d.l.drop (f + 1) = sg d.l (f + 1) :: d.l.drop (f + 2) := by rw [sg_get hfx.1]; exact List.drop_eq_getElem_cons hfx.1
    rw [← e2]; exact sg_split (by omega)
  have hD : meD d e = ⟨d.vn + 1, d.l.take f ++ ⟨(sg d.l f).lo, (sg d.l (f + 1)).hi, e.to⟩ :: d.l.drop (f + 2), d.F.set e.fr.toNat e.to⟩ := by
    unfold meD meL
    rw [hf]
  have ho := h.okl
  rw [hl] at ho
  have hO := ho.merge (t9 := e.to) (by rcases hsh with ⟨_, k⟩ | ⟨k, _⟩; exact .inr k.symm; exact .inl k.symm)
  have hnd := ho.nd
  have e2 : (d.l.take f ++ sg d.l f :: sg d.l (f + 1) :: d.l.drop (f + 2)).map (·.sh) = (d.l.take f).map (·.sh) ++ (sg d.l f).sh :: (sg d.l (f + 1)).sh :: (d.l.drop (f + 2)).map (·.sh) := by simp
  rw [e2] at hnd
  have hfo : e.fr ≠ e.to ∧ (∀ z ∈ d.l.take f, z.sh ≠ e.fr) ∧ (∀ z ∈ d.l.drop (f + 2), z.sh ≠ e.fr) := by
    have k1 := List.nodup_cons.1 ((List.perm_middle.nodup_iff).1 hnd)
    have hnd2 : (((d.l.take f).map (·.sh) ++ [(sg d.l f).sh]) ++ (sg d.l (f + 1)).sh :: (d.l.drop (f + 2)).map (·.sh)).Nodup := by simpa using hnd
    have k2 := List.nodup_cons.1 ((List.perm_middle.nodup_iff).1 hnd2)
    have m1 := k1.1
    have m2 := k2.1
    simp only [List.mem_append, List.mem_cons, List.mem_map, List.not_mem_nil, or_false, not_or, not_exists, not_and] at m1 m2
    rcases hsh with ⟨s1, s2⟩ | ⟨s1, s2⟩
    · rw [s1] at m1
      rw [s2] at m1
      exact ⟨m1.2.1, fun z hz => m1.1 z hz, fun z hz => m1.2.2 z hz⟩
    · rw [s2, s1] at m2
      exact ⟨m2.1.2, fun z hz => m2.1.1 z hz, fun z hz => m2.2 z hz⟩
  have htn : e.fr.toNat < d.F.length := by have := hfr; omega
  have hrg := h.rg
  have hno : ¬ hasS (meD d e).l e.fr := fun hh => by
    rw [hD] at hh
    obtain ⟨z, hz, hzs⟩ := hasS_iff.1 hh
    have hz' : z ∈ d.l.take f ++ ⟨(sg d.l f).lo, (sg d.l (f + 1)).hi, e.to⟩ :: d.l.drop (f + 2) := hz
    rw [List.mem_append, List.mem_cons] at hz'
    rcases hz' with hz | rfl | hz
    · exact hfo.2.1 z hz hzs
    · exact hfo.1 hzs.symm
    · exact hfo.2.2 z hz hzs
  have hmem : ∀ s : Int, hasS (meD d e).l s → hasS d.l s := fun s hh => by
    rw [hD] at hh
    obtain ⟨z, hz, rfl⟩ := hasS_iff.1 hh
    have hz' : z ∈ d.l.take f ++ ⟨(sg d.l f).lo, (sg d.l (f + 1)).hi, e.to⟩ :: d.l.drop (f + 2) := hz
    rw [List.mem_append, List.mem_cons] at hz'
    rcases hz' with hz | rfl | hz
    · exact hasS_iff.2 ⟨z, List.mem_of_mem_take hz, rfl⟩
    · exact h2
    · exact hasS_iff.2 ⟨z, List.mem_of_mem_drop hz, rfl⟩
  have hF : (meD d e).F = d.F.set e.fr.toNat e.to := by rw [hD]
  have hFL : (meD d e).F.length = d.F.length := by rw [hF, List.length_set]
  have hf1 : ∀ j, j < (meD d e).F.length → f1D (meD d e).l (meD d e).F j := fun j hj => by
    rw [hFL] at hj
    have k := h.f1 j hj
    unfold f1D
    rw [hFL, hF, ig_set htn]
    by_cases hje : j = e.fr.toNat
    · rw [if_pos hje]
      have := hto
      refine ⟨by omega, fun hh => absurd hh ?_⟩
      rw [show (j : Int) = e.fr by have := hfr.1; omega]
      exact hno
    · rw [if_neg hje]
      exact ⟨k.1, fun hh => k.2 (hmem _ hh)⟩
  refine OkL.okd ?_ ?_ ⟨hf1, fun j hj => ?_⟩
  · rw [hFL, hD]; exact hO
  · unfold rgD at hrg ⊢
    rw [hFL]
    have : (meD d e).vn = d.vn + 1 := rfl
    rw [this]
    omega
  · have hx : ig d.F e.to.toNat = -1 := (h.f1 e.to.toNat (by have := hto; omega)).2 (by rw [Int.toNat_of_nonneg hto.1]; exact h2)
    rw [hFL] at hj
    have k := fw_merge htn hto.1 (by have := hfo.1; have := hto.1; have := hfr.1; omega) hx (h.f2 j hj)
    rw [← hF] at k
    exact fw_le (fun i hi => (hf1 i hi).1) (by rw [hFL]; omega) k
/-- Apply keeps a directory valid. -/
theorem apD_ok {d : Dd} {e : Ed} (hE : apE d e = 0) : vaD (apD d e) = 0 ∧ (apD d e).vn = d.vn + 1 ∧ (apD d e).F.length = d.F.length := by
  by_cases hN : apN d e = 0
  · obtain ⟨hv, h1, h2, h3, h4⟩ := apN_ok hN
    have ho := ok_va hv
    rcases h2 with hk | hk
    · rw [apD_1 hE hk]
      rw [apE_1 hN hk] at hE
      exact ⟨(spD_ok ho hE h4 h1).va, rfl, by simp [spD]⟩
    · rw [apD_2 hE hk]
      rw [apE_2 hN hk] at hE
      exact ⟨(meD_ok ho hE h3 h4 h1).va, rfl, by simp [meD]⟩
  · rw [apE_N hN] at hE
    exact absurd hE hN
end Go.Proofs.Ytkecnihgjepfeaa
namespace Go.Proofs.Ytkecnihgjepfeaa
open Go.RowKit
set_option linter.unusedVariables false

/-- A result box of a span behind a directory's box. -/
structure DS (w : World) (p q : Nat) (d : Dd) (X : Dx) (W : World) : Prop where
  da : DAt w p d X W
  c0 : W.cell? ⟨q, 0, none⟩ = some (.int .i64 0)
  c1 : W.cell? ⟨q, 1, none⟩ = some (.int .i64 0)
  c2 : W.cell? ⟨q, 2, none⟩ = some (.int .i64 0)
  fr : ∀ o, W.frozen? ⟨q, o, none⟩ = false
  lt : q < W.heap.size
  old : w.heap.size ≤ q
theorem DS.below {w W W' : World} {p q : Nat} {d : Dd} {X : Dx} (h : DS w p q d X W) (hb : Below W.heap.size W W') : DS w p q d X W' :=
  ⟨h.da.below hb, (hb.cell (p := ⟨q, 0, none⟩) h.lt).trans h.c0, (hb.cell (p := ⟨q, 1, none⟩) h.lt).trans h.c1, (hb.cell (p := ⟨q, 2, none⟩) h.lt).trans h.c2, fun o => (hb.frozen (p := ⟨q, o, none⟩) h.lt).trans (h.fr o), Nat.lt_of_lt_of_le h.lt hb.size, h.old⟩
theorem DS.all {w W : World} {p q : Nat} {d : Dd} {X : Dx} (h : DS w p q d X W) : (W.cell? ⟨q, 0, none⟩ = some (.int .i64 0) ∧ W.cell? ⟨q, 1, none⟩ = some (.int .i64 0) ∧ W.cell? ⟨q, 2, none⟩ = some (.int .i64 0) ∧ q < W.heap.size) ∧ W.frozen? ⟨q, 0, none⟩ = false ∧ W.frozen? ⟨q, 1, none⟩ = false ∧ W.frozen? ⟨q, 2, none⟩ = false := ⟨⟨h.c0, h.c1, h.c2, h.lt⟩, h.fr 0, h.fr 1, h.fr 2⟩
theorem DS.out {w W : World} {p q : Nat} {d : Dd} {X : Dx} (h : DS w p q d X W) (a b c : Value) : Below w.heap.size w (((W.setCell ⟨q, 0, none⟩ a).setCell ⟨q, 1, none⟩ b).setCell ⟨q, 2, none⟩ c) :=
  ((h.da.bel.setCell (p := ⟨q, 0, none⟩) h.old _).setCell (p := ⟨q, 1, none⟩) h.old _).setCell (p := ⟨q, 2, none⟩) h.old _
theorem DS.start {w : World} {d : Dd} {X : Dx} (t u : TypeId) (h : DR w w.heap.size d X) : DS w w.heap.size (w.heap.size + 1) d X ((w.alloc (.cells #[.int .i64 d.vn, .slice X.A d.l.length X.c, .slice X.A2 d.F.length X.c2] t)).alloc (.cells #[.int .i64 0, .int .i64 0, .int .i64 0] u)) := by
  refine ⟨(DAt.start t h).alloc _, by simp [go_sem], by simp [go_sem], by simp [go_sem], fun o => by simp [go_sem], by simp, by omega⟩
end Go.Proofs.Ytkecnihgjepfeaa
namespace Go.Proofs.Ytkecnihgjepfeaa
open Go.RowKit
set_option linter.unusedVariables false

theorem vaD_dec {d : Dd} (h1 : rgD d) (h2 : cvD 0 d.l = true) (h3 : msD d.F.length d.l = true) (h4 : ∀ j, j < d.l.length → ∀ i, i < j → (sg d.l i).sh ≠ (sg d.l j).sh) (h5 : ∀ i, i < d.F.length → (-1 ≤ ig d.F i ∧ ig d.F i < d.F.length) ∧ (hasS d.l (i : Int) → ig d.F i = -1))
    (h6 : ∀ i, i < d.F.length → fwD d.F d.F.length (i : Int) < 0) : vaD d = 0 := by
  refine vaD_ok h1 h2 h3 ?_ ?_
  · have : ¬ duD d.l := fun ⟨i, j, hij, hj, he⟩ => h4 j hj i hij he
    simp [duB, this]
  · have : foD d.l d.F := ⟨h5, h6⟩
    simp [foB, this]
/-- A directory in a box, with its lists. -/
structure DD (w : World) (p : Nat) (d : Dd) (X : Dx) (W : World) : Prop where
  db : Db10 W p d X
  dr : DR W W.heap.size d X
  old : w.heap.size ≤ p
  bel : Below w.heap.size w W
theorem DD.up {w W W' : World} {p : Nat} {d : Dd} {X : Dx} (h : DD w p d X W) (hb : Below W.heap.size W W') : DD w p d X W' := ⟨h.db.up hb, h.dr.up hb, h.old, h.bel.trans (hb.mono h.bel.size)⟩
theorem DD.start {w W : World} {d : Dd} {X : Dx} (hr : DR W W.heap.size d X) (hb : Below w.heap.size w W) (t : TypeId) : DD w W.heap.size d X (W.alloc (.cells #[.int .i64 d.vn, .slice X.A d.l.length X.c, .slice X.A2 d.F.length X.c2] t)) :=
  ⟨Db10.start W d X t, hr.alloc _, hb.size, hb.alloc hb.size _⟩

end Go.Proofs.Ytkecnihgjepfeaa
namespace Go.Proofs.Ytkecnihgjepfeaa
set_option linter.unusedVariables false

theorem nw_va {n m : Nat} (h1 : 1 ≤ m) (h2 : m ≤ n) (h3 : n ≤ 6) : vaD (nwD n m) = 0 := by
  have hE : nwE10 n m = 0 := by unfold nwE10; rw [if_pos (by omega)]
  have e : nwD n m = ⟨1, nwL m m, List.replicate n (-1)⟩ := by unfold nwD; rw [if_pos hE]; simp
  rw [e]
  clear hE e
  have hn : n = 1 ∨ n = 2 ∨ n = 3 ∨ n = 4 ∨ n = 5 ∨ n = 6 := by omega
  have hm : m = 1 ∨ m = 2 ∨ m = 3 ∨ m = 4 ∨ m = 5 ∨ m = 6 := by omega
  rcases hn with rfl | rfl | rfl | rfl | rfl | rfl <;> rcases hm with rfl | rfl | rfl | rfl | rfl | rfl
  all_goals first
    | (exfalso; omega)
    | exact vaD_dec (by unfold rgD; decide +kernel) (by decide +kernel) (by decide +kernel) (by decide +kernel) (by decide +kernel) (by decide +kernel)
end Go.Proofs.Ytkecnihgjepfeaa
namespace Go.Proofs.Ytkecnihgjepfeaa
open Go.RowKit
set_option linter.unusedVariables false

abbrev MgS (p q g f u : Nat) (d : Dd) (X : Dx) (e : Ed) (W : World) : Prop := W.cell? ⟨p, 1, none⟩ = some (.slice (some ⟨g, 0, none⟩) d.l.length X.c) ∧ W.cell? ⟨q, 2, none⟩ = some (.int .i64 e.to) ∧ W.cell? ⟨g, f * 3, none⟩ = some (.int .i64 (sg d.l f).lo) ∧ W.cell? ⟨g, u * 3 + 1, none⟩ = some (.int .i64 (sg d.l u).hi)
theorem MgS.set {p q g f u : Nat} {d : Dd} {X : Dx} {e : Ed} {W : World} (h : MgS p q g f u d X e W) (hu : u = f + 1) (hp : p ≠ g) (hq : q ≠ g) (u' v : Value) : MgS p q g f u d X e (((W.setCell ⟨g, f * 3, none⟩ (.int .i64 (sg d.l f).lo)).setCell ⟨g, f * 3 + 1, none⟩ u').setCell ⟨g, f * 3 + 2, none⟩ v) := by
  obtain ⟨h1, h2, h3, h4⟩ := h
  have o : ∀ (a b : Addr) (u : Value) (W : World), a ≠ b → (W.setCell b u).cell? a = W.cell? a := fun a b u W hn => World.cell?_setCell_other W b a u (fun e => hn (by first | exact e | exact e.symm))
  have n1 : ∀ j, (⟨p, 1, none⟩ : Addr) ≠ ⟨g, j, none⟩ := fun j e => hp (by injection e)
  have n2 : ∀ j, (⟨q, 2, none⟩ : Addr) ≠ ⟨g, j, none⟩ := fun j e => hq (by injection e)
  have n3 : ∀ i j, i ≠ j → (⟨g, i, none⟩ : Addr) ≠ ⟨g, j, none⟩ := fun i j hn e => hn (by injection e)
  refine ⟨by rw [o _ _ _ _ (n1 _), o _ _ _ _ (n1 _), o _ _ _ _ (n1 _)]; exact h1, by rw [o _ _ _ _ (n2 _), o _ _ _ _ (n2 _), o _ _ _ _ (n2 _)]; exact h2, ?_, by rw [o _ _ _ _ (n3 _ _ (by omega)), o _ _ _ _ (n3 _ _ (by omega)), o _ _ _ _ (n3 _ _ (by omega))]; exact h4⟩
  rw [o _ _ _ _ (n3 _ _ (by omega)), o _ _ _ _ (n3 _ _ (by omega))]
  simp [go_sem, h3]
end Go.Proofs.Ytkecnihgjepfeaa
