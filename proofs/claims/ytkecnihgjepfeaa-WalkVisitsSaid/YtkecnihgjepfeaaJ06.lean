/- What is proved here: (plain) moves that keep 'nothing below B is turned', for the keep argument of a drawn region; what a loop holds that builds a new directory in a box; (plain) Apply of a valid directory gives a valid one; New gives a valid one; directory.Owner, Span, Home by contracts; in the statements of layer 10, awake is true. -/
import Derived.Test.YtkecnihgjepfeaaJ01
import Derived.Test.YtkecnihgjepfeaaJ05
import Derived.Test.YtkecnihgjepfeaaJ04
import Derived.Test.YtkecnihgjepfeaaRows
import Derived.WalkKit
import Derived.Outline
import Derived.IntWalk
import Derived.OwnWalk
import Derived.Deep.RegionHeld3
import Derived.Deep.DrawnRows
import Derived.Deep.RegionWith
import Derived.Laws.EntriesVeiled
import Derived.Deep.AppendLies
namespace Go.Proofs.Ytkecnihgjepfeaa
open Go.RowKit
theorem dal {B : Nat} {a W : World} {o : Obj} (h : Below B a W) (h1 : B ≤ W.heap.size) : Below B a (W.alloc o) := h.alloc h1 o
theorem dst {B : Nat} {a W : World} {x : Addr} {v : Value} (h : Below B a W) (h1 : B ≤ x.block) : Below B a (W.setCell x v) := h.setCell h1 v
theorem ddr {B : Nat} {a W : World} (h : Below B a W) : Below B a W.drew := h.drew
end Go.Proofs.Ytkecnihgjepfeaa
namespace Go.Proofs.Ytkecnihgjepfeaa
open Go.RowKit
set_option linter.unusedVariables false

/-- The first k spans of n. -/
def nwL (n k : Nat) : List Sp := (List.range k).map fun (i : Nat) => ⟨(i : Int) * 65536 / n, ((i : Int) + 1) * 65536 / n - 1, i⟩
theorem nwL_succ (n k : Nat) : nwL n (k + 1) = nwL n k ++ [⟨(k : Int) * 65536 / n, ((k : Int) + 1) * 65536 / n - 1, k⟩] := by simp [nwL, List.range_succ]
theorem nwL_len (n k : Nat) : (nwL n k).length = k := by simp [nwL]
def nwE10 (s l : Int) : Int := if 1 ≤ s ∧ s ≤ 6 ∧ 1 ≤ l ∧ l ≤ s then 0 else 1
def nwD (s l : Int) : Dd := if nwE10 s l = 0 then ⟨1, nwL l.toNat l.toNat, List.replicate s.toNat (-1)⟩ else zD10

/-- A result box, and a box of a directory whose lists the call owns. -/
structure NA (w : World) (r y : Nat) (d : Dd) (X : Dx) (W : World) : Prop where
  rb : Db10 W r zD10 zDx
  xb : Db10 W y d X
  ol : W.ownsRow (r + 1) 44 3 (.slice X.A d.l.length X.c) d.l.length (scs d.l)
  of : W.ownsRow (r + 1) 3 1 (.slice X.A2 d.F.length X.c2) d.F.length (ics d.F)
  d1 : ∀ k, (Value.slice X.A d.l.length X.c).ownBlock = some k → (Value.slice X.A2 d.F.length X.c2).ownBlock ≠ some k
  d2 : ∀ k, (Value.slice X.A d.l.length X.c).ownBlock = some k → k ≠ y
  d3 : ∀ k, (Value.slice X.A2 d.F.length X.c2).ownBlock = some k → k ≠ y
  ne : r = w.heap.size ∧ r < y
  bel : Below w.heap.size w W
theorem Db10.grownO {W W' : World} {p : Nat} {d : Dd} {X : Dx} {ob : Option Nat} (h : Db10 W p d X) (hg : W.grownBy W' ob) (hne : ob ≠ some p) : Db10 W' p d X :=
  h.keep (fun o => hg.cell_far ⟨p, o, none⟩ h.lt (fun e => hne e.symm)) (fun o => hg.frozen_far ⟨p, o, none⟩ h.lt (fun e => hne e.symm)) hg.size
theorem own_farO {W W' : World} {base size n : Nat} {ob : Option Nat} {t : TypeId} {v : Value} {xs : List Value} (h : W.ownsRow base t size v n xs) (hg : W.grownBy W' ob) (hne : ∀ k, v.ownBlock = some k → ob ≠ some k) : W'.ownsRow base t size v n xs :=
  ⟨h.1, h.2.imp_right fun ⟨k, cap, cur, hv, hk, hh, rr⟩ => ⟨k, cap, cur, hv, hk, (hg.block k (Array.getElem?_eq_some_iff.1 hh).1 (by
    have := hne k (by rw [hv]; rfl)
    exact fun e => this e.symm)).trans hh, rr⟩⟩
section
variable {w W W' : World} {r y : Nat} {d : Dd} {X : Dx}
theorem NA.below (h : NA w r y d X W) (hb : Below W.heap.size W W') : NA w r y d X W' :=
  ⟨h.rb.up hb, h.xb.up hb, own_up10 h.ol hb, own_up10 h.of hb, h.d1, h.d2, h.d3, h.ne, h.bel.trans (hb.mono h.bel.size)⟩
theorem NA.drew (h : NA w r y d X W) : NA w r y d X W.drew := h.below (Below.refl _ _).drew
theorem NA.alloc (h : NA w r y d X W) (o : Obj) : NA w r y d X (W.alloc o) := h.below ((Below.refl _ _).alloc (Nat.le_refl _) o)
theorem NA.start {F : List Int} {A2 : Option Addr} {c2 : Nat} (hr : r = w.heap.size) (hb : Below w.heap.size w W) (hd : Db10 W r zD10 zDx) (hf : W.ownsRow (r + 1) 3 1 (.slice A2 F.length c2) F.length (ics F)) (t : TypeId) :
    NA w r W.heap.size ⟨1, [], F⟩ ⟨none, 0, A2, c2⟩ (W.alloc (.cells #[.int .i64 1, .slice none 0 0, .slice A2 F.length c2] t)) := by
  have hlt := hd.lt
  have hs := hb.size
  have hk : ∀ k, (Value.slice A2 F.length c2).ownBlock = some k → k ≠ W.heap.size := fun k e => by have := (hf.lt k e).2; omega
  exact ⟨hd.alloc _, Db10.start W ⟨1, [], F⟩ ⟨none, 0, A2, c2⟩ t, World.ownsRow_nil _ _ _ _, own_up10 hf ((Below.refl _ _).alloc (Nat.le_refl _) _), fun k e => by simp [Value.ownBlock] at e, fun k e => by simp [Value.ownBlock] at e, hk, ⟨hr, hlt⟩, hb.alloc hs _⟩
theorem NA.nw (h : NA w r y d X W) : X.nw w.heap.size := by
  have := h.ne
  exact ⟨nwv_of (nwv_own h.ol (by omega)), nwv_of (nwv_own h.of (by omega))⟩
theorem NA.dr (h : NA w r y d X W) : DR W W.heap.size d X := ⟨Pl.of_own h.ol, Fl.of_own h.of⟩
/-- A span is appended. -/
theorem NA.app (h : NA w r y d X W) {S : Sp} {g cap : Nat} (ho : W'.ownsRow (r + 1) 44 3 (.slice (some ⟨g, 0, none⟩) (d.l.length + 1) cap) (d.l.length + 1) (scs d.l ++ S.l)) (hg : W.grownBy W' (Value.slice X.A d.l.length X.c).ownBlock) (hat : (Value.slice X.A d.l.length X.c).ownBlock = some g ∨ g = W.heap.size) :
    (W'.cell? ⟨y, 1, none⟩ = some (.slice X.A d.l.length X.c) ∧ W'.frozen? ⟨y, 1, none⟩ = false ∧ y < W'.heap.size) ∧ NA w r y ⟨d.vn, d.l ++ [S], d.F⟩ ⟨some ⟨g, 0, none⟩, cap, X.A2, X.c2⟩ (W'.setCell ⟨y, 1, none⟩ (.slice (some ⟨g, 0, none⟩) (d.l.length + 1) cap)) := by
  have hn := h.ne
  have hrl := h.rb.lt
  have hor : (Value.slice X.A d.l.length X.c).ownBlock ≠ some r := fun e => by have := (h.ol.lt r e).1; omega
  have hoy : (Value.slice X.A d.l.length X.c).ownBlock ≠ some y := fun e => h.d2 y e rfl
  have hx := h.xb.grownO hg hoy
  have hr := h.rb.grownO hg hor
  have hf := own_farO h.of hg fun k hk e => h.d1 k e hk
  have hgy : g ≠ y := by
    rcases hat with e | e
    · exact h.d2 g e
    · have := h.xb.lt; omega
  have hb : Below w.heap.size w W' := h.bel.grown hg h.bel.size fun k hk => by have := (h.ol.lt k hk).1; omega
  refine ⟨⟨hx.c1, hx.fr 1, hx.lt⟩, hr.other (a := ⟨y, 1, none⟩) (by show y ≠ r; omega) _, ⟨?_, ?_, ?_, fun o => ?_, ?_⟩, ?_, own_oth hf (fun k hk => h.d3 k hk) _, fun k hk e => ?_, fun k hk => ?_, h.d3, h.ne, hb.setCell (p := ⟨y, 1, none⟩) (show w.heap.size ≤ y by omega) _⟩
  · simpa [go_sem] using hx.c0
  · simp [go_sem, hx.c1]
  · simpa [go_sem] using hx.c2
  · simpa [go_sem] using hx.fr o
  · simpa using hx.lt
  · have k := own_oth ho (a := ⟨y, 1, none⟩) (fun k hk => by simp [Value.ownBlock] at hk; subst hk; exact hgy) (.slice (some ⟨g, 0, none⟩) (d.l.length + 1) cap)
    have e1 : scs (d.l ++ [S]) = scs d.l ++ S.l := by simp [scs]
    show World.ownsRow _ _ _ _ (.slice (some ⟨g, 0, none⟩) (d.l ++ [S]).length cap) (d.l ++ [S]).length (scs (d.l ++ [S]))
    rw [e1, List.length_append, List.length_singleton]
    exact k
  · simp [Value.ownBlock] at hk
    subst hk
    rcases hat with e2 | e2
    · exact h.d1 _ e2 e
    · have := (h.of.lt _ e).2; omega
  · simp [Value.ownBlock] at hk
    subst hk
    exact hgy
theorem NA.out (h : NA w r y d X W) : DE w.heap.size w d 0 (.returned (.tuple #[dv d X, .int .i64 0])) (((W.setCell ⟨r, 0, none⟩ (.int .i64 d.vn)).setCell ⟨r, 1, none⟩ (.slice X.A d.l.length X.c)).setCell ⟨r, 2, none⟩ (.slice X.A2 d.F.length X.c2)) := by
  have hp := h.ne
  have hl : Pl W r.succ (.slice X.A d.l.length X.c) d.l ∨ True := .inr trivial
  have n1 : X.nw (r + 1) := ⟨nwv_of (nwv_own h.ol (Nat.le_refl _)), nwv_of (nwv_own h.of (Nat.le_refl _))⟩
  have f : ∀ o, DOff d X (⟨r, o, none⟩ : Addr).block := fun o => n1.off (Nat.lt_succ_self r)
  exact ⟨X, rfl, h.nw, (((h.dr.offp (q := ⟨r, 0, none⟩) (f 0) _).offp (q := ⟨r, 1, none⟩) (f 1) _).offp (q := ⟨r, 2, none⟩) (f 2) _).more (by simp), ((h.bel.setCell (p := ⟨r, 0, none⟩) (show w.heap.size ≤ r by omega) _).setCell (p := ⟨r, 1, none⟩) (show w.heap.size ≤ r by omega) _).setCell (p := ⟨r, 2, none⟩) (show w.heap.size ≤ r by omega) _⟩
end
/-- The answer 'no'. -/
theorem new_out0 {w W : World} {r : Nat} (hr : r = w.heap.size) (hb : Below w.heap.size w W) (x : Int) : DE w.heap.size w zD10 x (.returned (.tuple #[.agg #[.int .i64 0, .slice none 0 0, .slice none 0 0], .int .i64 x])) (((W.setCell ⟨r, 0, none⟩ (.int .i64 0)).setCell ⟨r, 1, none⟩ (.slice none 0 0)).setCell ⟨r, 2, none⟩ (.slice none 0 0)) :=
  ⟨zDx, rfl, zDx_nw _, DR.zero, ((hb.setCell (p := ⟨r, 0, none⟩) (show w.heap.size ≤ r by omega) _).setCell (p := ⟨r, 1, none⟩) (show w.heap.size ≤ r by omega) _).setCell (p := ⟨r, 2, none⟩) (show w.heap.size ≤ r by omega) _⟩
end Go.Proofs.Ytkecnihgjepfeaa
namespace Go.Proofs.Ytkecnihgjepfeaa
set_option linter.unusedVariables false

theorem spE_ok {d : Dd} {e : Ed} (h : spE d e = 0) : 0 ≤ ixS d.l e.fr ∧ ixS d.l e.to < 0 ∧ (sg d.l (ixS d.l e.fr).toNat).lo ≤ e.md ∧ e.md < (sg d.l (ixS d.l e.fr).toNat).hi := by
  unfold spE at h
  by_cases h1 : ixS d.l e.fr < 0 ∨ 0 ≤ ixS d.l e.to
  · rw [if_pos h1] at h; exact absurd h (by decide)
  · rw [if_neg h1] at h
    by_cases h2 : (sg d.l (ixS d.l e.fr).toNat).lo ≤ e.md ∧ e.md < (sg d.l (ixS d.l e.fr).toNat).hi
    · exact ⟨by omega, by omega, h2.1, h2.2⟩
    · rw [if_neg h2] at h; exact absurd h (by decide)
theorem meE_ok {d : Dd} {e : Ed} (h : meE d e = 0) : 0 ≤ ixS d.l e.fr ∧ 0 ≤ ixS d.l e.to ∧ (ixS d.l e.fr - ixS d.l e.to = 1 ∨ ixS d.l e.to - ixS d.l e.fr = 1) := by
  unfold meE at h
  by_cases h1 : (ixS d.l e.fr < 0 ∨ ixS d.l e.to < 0) ∨ (ixS d.l e.fr - ixS d.l e.to ≠ 1 ∧ ixS d.l e.to - ixS d.l e.fr ≠ 1)
  · rw [if_pos h1] at h; exact absurd h (by decide)
  · omega
theorem spD_ok {d : Dd} {e : Ed} (h : OkD d) (hE : spE d e = 0) (hto : slotP d.F.length e.to) (hv : d.vn ≠ 1099511627776) : OkD (spD d e) := by
  obtain ⟨h1, h2, h3, h4⟩ := spE_ok hE
  obtain ⟨i, hi, hil, hs, _⟩ := ixS_pos h1
  rw [hi] at h3 h4
  have hi' : (i : Int).toNat = i := rfl
  rw [hi'] at h3 h4
  have hne := (ixS_neg (by omega : ¬ 0 ≤ ixS d.l e.to)).2
  have hno : ∀ y ∈ d.l, y.sh ≠ e.to := fun y hy => by
    obtain ⟨k, hk, rfl⟩ := List.getElem_of_mem hy
    have := hne k hk
    rwa [sg_get hk] at this
  have hl := sg_split hil
  have hD : spD d e = ⟨d.vn + 1, d.l.take i ++ ⟨(sg d.l i).lo, e.md, (sg d.l i).sh⟩ :: ⟨e.md + 1, (sg d.l i).hi, e.to⟩ :: d.l.drop (i + 1), d.F.set e.to.toNat (-1)⟩ := by
    unfold spD spL
    rw [hi, hi', hs]
  have ho := h.okl
  rw [hl] at ho hno
  have hO := ho.split (md := e.md) (t9 := e.to) ⟨h3, h4⟩ hto hno
  have htn : e.to.toNat < d.F.length := by have := hto; omega
  rw [← hl] at hno
  have hrg := h.rg
  have hmem : ∀ s : Int, s ≠ e.to → hasS (spD d e).l s → hasS d.l s := fun s hse hh => by
    rw [hD] at hh
    obtain ⟨z, hz, rfl⟩ := hasS_iff.1 hh
    have hz' : z ∈ d.l.take i ++ ⟨(sg d.l i).lo, e.md, (sg d.l i).sh⟩ :: ⟨e.md + 1, (sg d.l i).hi, e.to⟩ :: d.l.drop (i + 1) := hz
    rw [List.mem_append, List.mem_cons, List.mem_cons] at hz'
    rcases hz' with hz | rfl | rfl | hz
    · exact hasS_iff.2 ⟨z, List.mem_of_mem_take hz, rfl⟩
    · exact hasS_iff.2 ⟨sg d.l i, sg_mem hil, rfl⟩
    · exact absurd rfl hse
    · exact hasS_iff.2 ⟨z, List.mem_of_mem_drop hz, rfl⟩
  have hF : (spD d e).F = d.F.set e.to.toNat (-1) := by rw [hD]
  have hFL : (spD d e).F.length = d.F.length := by rw [hF, List.length_set]
  have hf1 : ∀ j, j < (spD d e).F.length → f1D (spD d e).l (spD d e).F j := fun j hj => by
    rw [hFL] at hj
    have k := h.f1 j hj
    unfold f1D
    rw [hFL, hF, ig_set htn]
    by_cases hje : j = e.to.toNat
    · rw [if_pos hje]
      exact ⟨by omega, fun _ => rfl⟩
    · rw [if_neg hje]
      exact ⟨k.1, fun hh => k.2 (hmem _ (by have := hto.1; omega) hh)⟩
  refine OkL.okd ?_ ?_ ⟨hf1, fun j hj => ?_⟩
  · rw [hFL, hD]; exact hO
  · unfold rgD at hrg ⊢
    rw [hFL]
    have : (spD d e).vn = d.vn + 1 := rfl
    rw [this]
    omega
  · rw [hFL] at hj ⊢
    rw [hF]
    exact fw_split htn (h.f2 j hj)
theorem meD_ok {d : Dd} {e : Ed} (h : OkD d) (hE : meE d e = 0) (hfr : slotP d.F.length e.fr) (hto : slotP d.F.length e.to) (hv : d.vn ≠ 1099511627776) : OkD (meD d e) := by
  obtain ⟨h1, h2, h3⟩ := meE_ok hE
  obtain ⟨i, hi, hil, hsi, _⟩ := ixS_pos h1
  obtain ⟨j, hj, hjl, hsj, _⟩ := ixS_pos h2
  obtain ⟨f, hf⟩ : ∃ f : Nat, (min (ixS d.l e.fr) (ixS d.l e.to)).toNat = f := ⟨_, rfl⟩
  have hfx : f + 1 < d.l.length ∧ ((f = i ∧ f + 1 = j) ∨ (f = j ∧ f + 1 = i)) := by
    rw [hi, hj] at hf h3
    omega
  have hsh : ((sg d.l f).sh = e.fr ∧ (sg d.l (f + 1)).sh = e.to) ∨ ((sg d.l f).sh = e.to ∧ (sg d.l (f + 1)).sh = e.fr) := by
    rcases hfx.2 with ⟨rfl, e2⟩ | ⟨rfl, e2⟩
    · left; rw [e2]; exact ⟨hsi, hsj⟩
    · right; rw [e2]; exact ⟨hsj, hsi⟩
  have hl : d.l = d.l.take f ++ sg d.l f :: sg d.l (f + 1) :: d.l.drop (f + 2) := by
    have e2 : d.l.drop (f + 1) = sg d.l (f + 1) :: d.l.drop (f + 2) := by rw [sg_get hfx.1]; exact List.drop_eq_getElem_cons hfx.1
    rw [← e2]; exact sg_split (by omega)
  have hD : meD d e = ⟨d.vn + 1, d.l.take f ++ ⟨(sg d.l f).lo, (sg d.l (f + 1)).hi, e.to⟩ :: d.l.drop (f + 2), d.F.set e.fr.toNat e.to⟩ := by
    unfold meD meL
    rw [hf]
  have ho := h.okl
  rw [hl] at ho
  have hO := ho.merge (t9 := e.to) (by rcases hsh with ⟨_, k⟩ | ⟨k, _⟩; exact .inr k.symm; exact .inl k.symm)
  have hnd := ho.nd
  have e2 : (d.l.take f ++ sg d.l f :: sg d.l (f + 1) :: d.l.drop (f + 2)).map (·.sh) = (d.l.take f).map (·.sh) ++ (sg d.l f).sh :: (sg d.l (f + 1)).sh :: (d.l.drop (f + 2)).map (·.sh) := by simp
  rw [e2] at hnd
  have hfo : e.fr ≠ e.to ∧ (∀ z ∈ d.l.take f, z.sh ≠ e.fr) ∧ (∀ z ∈ d.l.drop (f + 2), z.sh ≠ e.fr) := by
    have k1 := List.nodup_cons.1 ((List.perm_middle.nodup_iff).1 hnd)
    have hnd2 : (((d.l.take f).map (·.sh) ++ [(sg d.l f).sh]) ++ (sg d.l (f + 1)).sh :: (d.l.drop (f + 2)).map (·.sh)).Nodup := by simpa using hnd
    have k2 := List.nodup_cons.1 ((List.perm_middle.nodup_iff).1 hnd2)
    have m1 := k1.1
    have m2 := k2.1
    simp only [List.mem_append, List.mem_cons, List.mem_map, List.not_mem_nil, or_false, not_or, not_exists, not_and] at m1 m2
    rcases hsh with ⟨s1, s2⟩ | ⟨s1, s2⟩
    · rw [s1] at m1
      rw [s2] at m1
      exact ⟨m1.2.1, fun z hz => m1.1 z hz, fun z hz => m1.2.2 z hz⟩
    · rw [s2, s1] at m2
      exact ⟨m2.1.2, fun z hz => m2.1.1 z hz, fun z hz => m2.2 z hz⟩
  have htn : e.fr.toNat < d.F.length := by have := hfr; omega
  have hrg := h.rg
  have hno : ¬ hasS (meD d e).l e.fr := fun hh => by
    rw [hD] at hh
    obtain ⟨z, hz, hzs⟩ := hasS_iff.1 hh
    have hz' : z ∈ d.l.take f ++ ⟨(sg d.l f).lo, (sg d.l (f + 1)).hi, e.to⟩ :: d.l.drop (f + 2) := hz
    rw [List.mem_append, List.mem_cons] at hz'
    rcases hz' with hz | rfl | hz
    · exact hfo.2.1 z hz hzs
    · exact hfo.1 hzs.symm
    · exact hfo.2.2 z hz hzs
  have hmem : ∀ s : Int, hasS (meD d e).l s → hasS d.l s := fun s hh => by
    rw [hD] at hh
    obtain ⟨z, hz, rfl⟩ := hasS_iff.1 hh
    have hz' : z ∈ d.l.take f ++ ⟨(sg d.l f).lo, (sg d.l (f + 1)).hi, e.to⟩ :: d.l.drop (f + 2) := hz
    rw [List.mem_append, List.mem_cons] at hz'
    rcases hz' with hz | rfl | hz
    · exact hasS_iff.2 ⟨z, List.mem_of_mem_take hz, rfl⟩
    · exact h2
    · exact hasS_iff.2 ⟨z, List.mem_of_mem_drop hz, rfl⟩
  have hF : (meD d e).F = d.F.set e.fr.toNat e.to := by rw [hD]
  have hFL : (meD d e).F.length = d.F.length := by rw [hF, List.length_set]
  have hf1 : ∀ j, j < (meD d e).F.length → f1D (meD d e).l (meD d e).F j := fun j hj => by
    rw [hFL] at hj
    have k := h.f1 j hj
    unfold f1D
    rw [hFL, hF, ig_set htn]
    by_cases hje : j = e.fr.toNat
    · rw [if_pos hje]
      have := hto
      refine ⟨by omega, fun hh => absurd hh ?_⟩
      rw [show (j : Int) = e.fr by have := hfr.1; omega]
      exact hno
    · rw [if_neg hje]
      exact ⟨k.1, fun hh => k.2 (hmem _ hh)⟩
  refine OkL.okd ?_ ?_ ⟨hf1, fun j hj => ?_⟩
  · rw [hFL, hD]; exact hO
  · unfold rgD at hrg ⊢
    rw [hFL]
    have : (meD d e).vn = d.vn + 1 := rfl
    rw [this]
    omega
  · have hx : ig d.F e.to.toNat = -1 := (h.f1 e.to.toNat (by have := hto; omega)).2 (by rw [Int.toNat_of_nonneg hto.1]; exact h2)
    rw [hFL] at hj
    have k := fw_merge htn hto.1 (by have := hfo.1; have := hto.1; have := hfr.1; omega) hx (h.f2 j hj)
    rw [← hF] at k
    exact fw_le (fun i hi => (hf1 i hi).1) (by rw [hFL]; omega) k
/-- Apply keeps a directory valid. -/
theorem apD_ok {d : Dd} {e : Ed} (hE : apE d e = 0) : vaD (apD d e) = 0 ∧ (apD d e).vn = d.vn + 1 ∧ (apD d e).F.length = d.F.length := by
  by_cases hN : apN d e = 0
  · obtain ⟨hv, h1, h2, h3, h4⟩ := apN_ok hN
    have ho := ok_va hv
    rcases h2 with hk | hk
    · rw [apD_1 hE hk]
      rw [apE_1 hN hk] at hE
      exact ⟨(spD_ok ho hE h4 h1).va, rfl, by simp [spD]⟩
    · rw [apD_2 hE hk]
      rw [apE_2 hN hk] at hE
      exact ⟨(meD_ok ho hE h3 h4 h1).va, rfl, by simp [meD]⟩
  · rw [apE_N hN] at hE
    exact absurd hE hN
end Go.Proofs.Ytkecnihgjepfeaa
namespace Go.Proofs.Ytkecnihgjepfeaa
open Go.RowKit
set_option linter.unusedVariables false

/-- A result box of a span behind a directory's box. -/
structure DS (w : World) (p q : Nat) (d : Dd) (X : Dx) (W : World) : Prop where
  da : DAt w p d X W
  c0 : W.cell? ⟨q, 0, none⟩ = some (.int .i64 0)
  c1 : W.cell? ⟨q, 1, none⟩ = some (.int .i64 0)
  c2 : W.cell? ⟨q, 2, none⟩ = some (.int .i64 0)
  fr : ∀ o, W.frozen? ⟨q, o, none⟩ = false
  lt : q < W.heap.size
  old : w.heap.size ≤ q
theorem DS.below {w W W' : World} {p q : Nat} {d : Dd} {X : Dx} (h : DS w p q d X W) (hb : Below W.heap.size W W') : DS w p q d X W' :=
  ⟨h.da.below hb, (hb.cell (p := ⟨q, 0, none⟩) h.lt).trans h.c0, (hb.cell (p := ⟨q, 1, none⟩) h.lt).trans h.c1, (hb.cell (p := ⟨q, 2, none⟩) h.lt).trans h.c2, fun o => (hb.frozen (p := ⟨q, o, none⟩) h.lt).trans (h.fr o), Nat.lt_of_lt_of_le h.lt hb.size, h.old⟩
theorem DS.all {w W : World} {p q : Nat} {d : Dd} {X : Dx} (h : DS w p q d X W) : (W.cell? ⟨q, 0, none⟩ = some (.int .i64 0) ∧ W.cell? ⟨q, 1, none⟩ = some (.int .i64 0) ∧ W.cell? ⟨q, 2, none⟩ = some (.int .i64 0) ∧ q < W.heap.size) ∧ W.frozen? ⟨q, 0, none⟩ = false ∧ W.frozen? ⟨q, 1, none⟩ = false ∧ W.frozen? ⟨q, 2, none⟩ = false := ⟨⟨h.c0, h.c1, h.c2, h.lt⟩, h.fr 0, h.fr 1, h.fr 2⟩
theorem DS.out {w W : World} {p q : Nat} {d : Dd} {X : Dx} (h : DS w p q d X W) (a b c : Value) : Below w.heap.size w (((W.setCell ⟨q, 0, none⟩ a).setCell ⟨q, 1, none⟩ b).setCell ⟨q, 2, none⟩ c) :=
  ((h.da.bel.setCell (p := ⟨q, 0, none⟩) h.old _).setCell (p := ⟨q, 1, none⟩) h.old _).setCell (p := ⟨q, 2, none⟩) h.old _
theorem DS.start {w : World} {d : Dd} {X : Dx} (t u : TypeId) (h : DR w w.heap.size d X) : DS w w.heap.size (w.heap.size + 1) d X ((w.alloc (.cells #[.int .i64 d.vn, .slice X.A d.l.length X.c, .slice X.A2 d.F.length X.c2] t)).alloc (.cells #[.int .i64 0, .int .i64 0, .int .i64 0] u)) := by
  refine ⟨(DAt.start t h).alloc _, by simp [go_sem], by simp [go_sem], by simp [go_sem], fun o => by simp [go_sem], by simp, by omega⟩
end Go.Proofs.Ytkecnihgjepfeaa
namespace Go.Proofs.Ytkecnihgjepfeaa
open Go.RowKit
set_option linter.unusedVariables false

theorem vaD_dec {d : Dd} (h1 : rgD d) (h2 : cvD 0 d.l = true) (h3 : msD d.F.length d.l = true) (h4 : ∀ j, j < d.l.length → ∀ i, i < j → (sg d.l i).sh ≠ (sg d.l j).sh) (h5 : ∀ i, i < d.F.length → (-1 ≤ ig d.F i ∧ ig d.F i < d.F.length) ∧ (hasS d.l (i : Int) → ig d.F i = -1))
    (h6 : ∀ i, i < d.F.length → fwD d.F d.F.length (i : Int) < 0) : vaD d = 0 := by
  refine vaD_ok h1 h2 h3 ?_ ?_
  · have : ¬ duD d.l := fun ⟨i, j, hij, hj, he⟩ => h4 j hj i hij he
    simp [duB, this]
  · have : foD d.l d.F := ⟨h5, h6⟩
    simp [foB, this]
/-- A directory in a box, with its lists. -/
structure DD (w : World) (p : Nat) (d : Dd) (X : Dx) (W : World) : Prop where
  db : Db10 W p d X
  dr : DR W W.heap.size d X
  old : w.heap.size ≤ p
  bel : Below w.heap.size w W
theorem DD.up {w W W' : World} {p : Nat} {d : Dd} {X : Dx} (h : DD w p d X W) (hb : Below W.heap.size W W') : DD w p d X W' := ⟨h.db.up hb, h.dr.up hb, h.old, h.bel.trans (hb.mono h.bel.size)⟩
theorem DD.start {w W : World} {d : Dd} {X : Dx} (hr : DR W W.heap.size d X) (hb : Below w.heap.size w W) (t : TypeId) : DD w W.heap.size d X (W.alloc (.cells #[.int .i64 d.vn, .slice X.A d.l.length X.c, .slice X.A2 d.F.length X.c2] t)) :=
  ⟨Db10.start W d X t, hr.alloc _, hb.size, hb.alloc hb.size _⟩

end Go.Proofs.Ytkecnihgjepfeaa
