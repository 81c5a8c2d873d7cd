/- What is proved here: what a loop holds that builds a new directory in a box; (plain) Apply of a valid directory gives a valid one; New gives a valid one; directory.slotTest, Validate's closure, slices.ContainsFunc over it, hasSameShard, isForwardValid by contracts. -/
import Derived.Test.YtdilgeabcacbdaaJ06
import Derived.Test.YtdilgeabcacbdaaJ08
import Derived.Test.YtdilgeabcacbdaaJ07
import Derived.Test.YtdilgeabcacbdaaJ04
namespace Go.Proofs.Ytdilgeabcacbdaa
open Go.RowKit
set_option linter.unusedVariables false

/-- The first k spans of n. -/
def nwL (n k : Nat) : List Sp := (List.range k).map fun (i : Nat) => ⟨(i : Int) * 65536 / n, ((i : Int) + 1) * 65536 / n - 1, i⟩
theorem nwL_succ (n k : Nat) : nwL n (k + 1) = nwL n k ++ [⟨(k : Int) * 65536 / n, ((k : Int) + 1) * 65536 / n - 1, k⟩] := by simp [nwL, List.range_succ]
theorem nwL_len (n k : Nat) : (nwL n k).length = k := by simp [nwL]
def nwE (s l : Int) : Int := if 1 ≤ s ∧ s ≤ 6 ∧ 1 ≤ l ∧ l ≤ s then 0 else 1
def nwD (s l : Int) : Dd := if nwE s l = 0 then ⟨1, nwL l.toNat l.toNat, List.replicate s.toNat (-1)⟩ else zD

/-- A result box, and a box of a directory whose lists the call owns. -/
structure NA (w : World) (r y : Nat) (d : Dd) (X : Dx) (W : World) : Prop where
  rb : DB W r zD zDx
  xb : DB W y d X
  ol : W.ownsRow (r + 1) 63 3 (.slice X.A d.l.length X.c) d.l.length (scs d.l)
  of : W.ownsRow (r + 1) 3 1 (.slice X.A2 d.F.length X.c2) d.F.length (ics d.F)
  d1 : ∀ k, (Value.slice X.A d.l.length X.c).ownBlock = some k → (Value.slice X.A2 d.F.length X.c2).ownBlock ≠ some k
  d2 : ∀ k, (Value.slice X.A d.l.length X.c).ownBlock = some k → k ≠ y
  d3 : ∀ k, (Value.slice X.A2 d.F.length X.c2).ownBlock = some k → k ≠ y
  ne : r = w.heap.size ∧ r < y
  bel : Below w.heap.size w W
theorem DB.grownO {W W' : World} {p : Nat} {d : Dd} {X : Dx} {ob : Option Nat} (h : DB W p d X) (hg : W.grownBy W' ob) (hne : ob ≠ some p) : DB W' p d X :=
  h.keep (fun o => hg.cell_far ⟨p, o, none⟩ h.lt (fun e => hne e.symm)) (fun o => hg.frozen_far ⟨p, o, none⟩ h.lt (fun e => hne e.symm)) hg.size
theorem own_farO {W W' : World} {base size n : Nat} {ob : Option Nat} {t : TypeId} {v : Value} {xs : List Value} (h : W.ownsRow base t size v n xs) (hg : W.grownBy W' ob) (hne : ∀ k, v.ownBlock = some k → ob ≠ some k) : W'.ownsRow base t size v n xs :=
  ⟨h.1, h.2.imp_right fun ⟨k, cap, cur, hv, hk, hh, rr⟩ => ⟨k, cap, cur, hv, hk, (hg.block k (Array.getElem?_eq_some_iff.1 hh).1 (by
    have := hne k (by rw [hv]; rfl)
    exact fun e => this e.symm)).trans hh, rr⟩⟩
section
variable {w W W' : World} {r y : Nat} {d : Dd} {X : Dx}
theorem NA.below (h : NA w r y d X W) (hb : Below W.heap.size W W') : NA w r y d X W' :=
  ⟨h.rb.up hb, h.xb.up hb, own_up h.ol hb, own_up h.of hb, h.d1, h.d2, h.d3, h.ne, h.bel.trans (hb.mono h.bel.size)⟩
theorem NA.drew (h : NA w r y d X W) : NA w r y d X W.drew := h.below (Below.refl _ _).drew
theorem NA.alloc (h : NA w r y d X W) (o : Obj) : NA w r y d X (W.alloc o) := h.below ((Below.refl _ _).alloc (Nat.le_refl _) o)
theorem NA.start {F : List Int} {A2 : Option Addr} {c2 : Nat} (hr : r = w.heap.size) (hb : Below w.heap.size w W) (hd : DB W r zD zDx) (hf : W.ownsRow (r + 1) 3 1 (.slice A2 F.length c2) F.length (ics F)) (t : TypeId) :
    NA w r W.heap.size ⟨1, [], F⟩ ⟨none, 0, A2, c2⟩ (W.alloc (.cells #[.int .i64 1, .slice none 0 0, .slice A2 F.length c2] t)) := by
  have hlt := hd.lt
  have hs := hb.size
  have hk : ∀ k, (Value.slice A2 F.length c2).ownBlock = some k → k ≠ W.heap.size := fun k e => by have := (hf.lt k e).2; omega
  exact ⟨hd.alloc _, DB.start W ⟨1, [], F⟩ ⟨none, 0, A2, c2⟩ t, World.ownsRow_nil _ _ _ _, own_up hf ((Below.refl _ _).alloc (Nat.le_refl _) _), fun k e => by simp [Value.ownBlock] at e, fun k e => by simp [Value.ownBlock] at e, hk, ⟨hr, hlt⟩, hb.alloc hs _⟩
theorem NA.nw (h : NA w r y d X W) : X.nw w.heap.size := by
  have := h.ne
  exact ⟨nwv_of (nwv_own h.ol (by omega)), nwv_of (nwv_own h.of (by omega))⟩
theorem NA.dr (h : NA w r y d X W) : DR W W.heap.size d X := ⟨Pl.of_own h.ol, Fl.of_own h.of⟩
/-- A span is appended. -/
theorem NA.app (h : NA w r y d X W) {S : Sp} {g cap : Nat} (ho : W'.ownsRow (r + 1) 63 3 (.slice (some ⟨g, 0, none⟩) (d.l.length + 1) cap) (d.l.length + 1) (scs d.l ++ S.l)) (hg : W.grownBy W' (Value.slice X.A d.l.length X.c).ownBlock) (hat : (Value.slice X.A d.l.length X.c).ownBlock = some g ∨ g = W.heap.size) :
    (W'.cell? ⟨y, 1, none⟩ = some (.slice X.A d.l.length X.c) ∧ W'.frozen? ⟨y, 1, none⟩ = false ∧ y < W'.heap.size) ∧ NA w r y ⟨d.vn, d.l ++ [S], d.F⟩ ⟨some ⟨g, 0, none⟩, cap, X.A2, X.c2⟩ (W'.setCell ⟨y, 1, none⟩ (.slice (some ⟨g, 0, none⟩) (d.l.length + 1) cap)) := by
  have hn := h.ne
  have hrl := h.rb.lt
  have hor : (Value.slice X.A d.l.length X.c).ownBlock ≠ some r := fun e => by have := (h.ol.lt r e).1; omega
  have hoy : (Value.slice X.A d.l.length X.c).ownBlock ≠ some y := fun e => h.d2 y e rfl
  have hx := h.xb.grownO hg hoy
  have hr := h.rb.grownO hg hor
  have hf := own_farO h.of hg fun k hk e => h.d1 k e hk
  have hgy : g ≠ y := by
    rcases hat with e | e
    · exact h.d2 g e
    · have := h.xb.lt; omega
  have hb : Below w.heap.size w W' := h.bel.grown hg h.bel.size fun k hk => by have := (h.ol.lt k hk).1; omega
  refine ⟨⟨hx.c1, hx.fr 1, hx.lt⟩, hr.other (a := ⟨y, 1, none⟩) (by show y ≠ r; omega) _, ⟨?_, ?_, ?_, fun o => ?_, ?_⟩, ?_, own_oth hf (fun k hk => h.d3 k hk) _, fun k hk e => ?_, fun k hk => ?_, h.d3, h.ne, hb.setCell (p := ⟨y, 1, none⟩) (show w.heap.size ≤ y by omega) _⟩
  · simpa [go_sem] using hx.c0
  · simp [go_sem, hx.c1]
  · simpa [go_sem] using hx.c2
  · simpa [go_sem] using hx.fr o
  · simpa using hx.lt
  · have k := own_oth ho (a := ⟨y, 1, none⟩) (fun k hk => by simp [Value.ownBlock] at hk; subst hk; exact hgy) (.slice (some ⟨g, 0, none⟩) (d.l.length + 1) cap)
    have e1 : scs (d.l ++ [S]) = scs d.l ++ S.l := by simp [scs]
    show World.ownsRow _ _ _ _ (.slice (some ⟨g, 0, none⟩) (d.l ++ [S]).length cap) (d.l ++ [S]).length (scs (d.l ++ [S]))
    rw [e1, List.length_append, List.length_singleton]
    exact k
  · simp [Value.ownBlock] at hk
    subst hk
    rcases hat with e2 | e2
    · exact h.d1 _ e2 e
    · have := (h.of.lt _ e).2; omega
  · simp [Value.ownBlock] at hk
    subst hk
    exact hgy
theorem NA.out (h : NA w r y d X W) : DE w.heap.size w d 0 (.returned (.tuple #[dv d X, .int .i64 0])) (((W.setCell ⟨r, 0, none⟩ (.int .i64 d.vn)).setCell ⟨r, 1, none⟩ (.slice X.A d.l.length X.c)).setCell ⟨r, 2, none⟩ (.slice X.A2 d.F.length X.c2)) := by
  have hp := h.ne
  have hl : Pl W r.succ (.slice X.A d.l.length X.c) d.l ∨ True := .inr trivial
  have n1 : X.nw (r + 1) := ⟨nwv_of (nwv_own h.ol (Nat.le_refl _)), nwv_of (nwv_own h.of (Nat.le_refl _))⟩
  have f : ∀ o, DOff d X (⟨r, o, none⟩ : Addr).block := fun o => n1.off (Nat.lt_succ_self r)
  exact ⟨X, rfl, h.nw, (((h.dr.offp (q := ⟨r, 0, none⟩) (f 0) _).offp (q := ⟨r, 1, none⟩) (f 1) _).offp (q := ⟨r, 2, none⟩) (f 2) _).more (by simp), ((h.bel.setCell (p := ⟨r, 0, none⟩) (show w.heap.size ≤ r by omega) _).setCell (p := ⟨r, 1, none⟩) (show w.heap.size ≤ r by omega) _).setCell (p := ⟨r, 2, none⟩) (show w.heap.size ≤ r by omega) _⟩
end
/-- The answer 'no'. -/
theorem new_out0 {w W : World} {r : Nat} (hr : r = w.heap.size) (hb : Below w.heap.size w W) (x : Int) : DE w.heap.size w zD x (.returned (.tuple #[.agg #[.int .i64 0, .slice none 0 0, .slice none 0 0], .int .i64 x])) (((W.setCell ⟨r, 0, none⟩ (.int .i64 0)).setCell ⟨r, 1, none⟩ (.slice none 0 0)).setCell ⟨r, 2, none⟩ (.slice none 0 0)) :=
  ⟨zDx, rfl, zDx_nw _, DR.zero, ((hb.setCell (p := ⟨r, 0, none⟩) (show w.heap.size ≤ r by omega) _).setCell (p := ⟨r, 1, none⟩) (show w.heap.size ≤ r by omega) _).setCell (p := ⟨r, 2, none⟩) (show w.heap.size ≤ r by omega) _⟩
end Go.Proofs.Ytdilgeabcacbdaa
namespace Go.Proofs.Ytdilgeabcacbdaa
set_option linter.unusedVariables false

theorem spE_ok {d : Dd} {e : Ed} (h : spE d e = 0) : 0 ≤ ixS d.l e.fr ∧ ixS d.l e.to < 0 ∧ (sg d.l (ixS d.l e.fr).toNat).lo ≤ e.md ∧ e.md < (sg d.l (ixS d.l e.fr).toNat).hi := by
  unfold spE at h
  by_cases h1 : ixS d.l e.fr < 0 ∨ 0 ≤ ixS d.l e.to
  · rw [if_pos h1] at h; exact absurd h (by decide)
  · rw [if_neg h1] at h
    by_cases h2 : (sg d.l (ixS d.l e.fr).toNat).lo ≤ e.md ∧ e.md < (sg d.l (ixS d.l e.fr).toNat).hi
    · exact ⟨by omega, by omega, h2.1, h2.2⟩
    · rw [if_neg h2] at h; exact absurd h (by decide)
theorem meE_ok {d : Dd} {e : Ed} (h : meE d e = 0) : 0 ≤ ixS d.l e.fr ∧ 0 ≤ ixS d.l e.to ∧ (ixS d.l e.fr - ixS d.l e.to = 1 ∨ ixS d.l e.to - ixS d.l e.fr = 1) := by
  unfold meE at h
  by_cases h1 : (ixS d.l e.fr < 0 ∨ ixS d.l e.to < 0) ∨ (ixS d.l e.fr - ixS d.l e.to ≠ 1 ∧ ixS d.l e.to - ixS d.l e.fr ≠ 1)
  · rw [if_pos h1] at h; exact absurd h (by decide)
  · omega
theorem spD_ok {d : Dd} {e : Ed} (h : OkD d) (hE : spE d e = 0) (hto : slotP d.F.length e.to) (hv : d.vn ≠ 1099511627776) : OkD (spD d e) := by
  obtain ⟨h1, h2, h3, h4⟩ := spE_ok hE
  obtain ⟨i, hi, hil, hs, _⟩ := ixS_pos h1
  rw [hi] at h3 h4
  have hi' : (i : Int).toNat = i := rfl
  rw [hi'] at h3 h4
  have hne := (ixS_neg (by omega : ¬ 0 ≤ ixS d.l e.to)).2
  have hno : ∀ y ∈ d.l, y.sh ≠ e.to := fun y hy => by
    obtain ⟨k, hk, rfl⟩ := List.getElem_of_mem hy
    have := hne k hk
    rwa [sg_get hk] at this
  have hl := sg_split hil
  have hD : spD d e = ⟨d.vn + 1, d.l.take i ++ ⟨(sg d.l i).lo, e.md, (sg d.l i).sh⟩ :: ⟨e.md + 1, (sg d.l i).hi, e.to⟩ :: d.l.drop (i + 1), d.F.set e.to.toNat (-1)⟩ := by
    unfold spD spL
    rw [hi, hi', hs]
  have ho := h.okl
  rw [hl] at ho hno
  have hO := ho.split (md := e.md) (t9 := e.to) ⟨h3, h4⟩ hto hno
  have htn : e.to.toNat < d.F.length := by have := hto; omega
  rw [← hl] at hno
  have hrg := h.rg
  have hmem : ∀ s : Int, s ≠ e.to → hasS (spD d e).l s → hasS d.l s := fun s hse hh => by
    rw [hD] at hh
    obtain ⟨z, hz, rfl⟩ := hasS_iff.1 hh
    have hz' : z ∈ d.l.take i ++ ⟨(sg d.l i).lo, e.md, (sg d.l i).sh⟩ :: ⟨e.md + 1, (sg d.l i).hi, e.to⟩ :: d.l.drop (i + 1) := hz
    rw [List.mem_append, List.mem_cons, List.mem_cons] at hz'
    rcases hz' with hz | rfl | rfl | hz
    · exact hasS_iff.2 ⟨z, List.mem_of_mem_take hz, rfl⟩
    · exact hasS_iff.2 ⟨sg d.l i, sg_mem hil, rfl⟩
    · exact absurd rfl hse
    · exact hasS_iff.2 ⟨z, List.mem_of_mem_drop hz, rfl⟩
  have hF : (spD d e).F = d.F.set e.to.toNat (-1) := by rw [hD]
  have hFL : (spD d e).F.length = d.F.length := by rw [hF, List.length_set]
  have hf1 : ∀ j, j < (spD d e).F.length → f1D (spD d e).l (spD d e).F j := fun j hj => by
    rw [hFL] at hj
    have k := h.f1 j hj
    unfold f1D
    rw [hFL, hF, ig_set htn]
    by_cases hje : j = e.to.toNat
    · rw [if_pos hje]
      exact ⟨by omega, fun _ => rfl⟩
    · rw [if_neg hje]
      exact ⟨k.1, fun hh => k.2 (hmem _ (by have := hto.1; omega) hh)⟩
  refine OkL.okd ?_ ?_ ⟨hf1, fun j hj => ?_⟩
  · rw [hFL, hD]; exact hO
  · unfold rgD at hrg ⊢
    rw [hFL]
    have : (spD d e).vn = d.vn + 1 := rfl
    rw [this]
    omega
  · rw [hFL] at hj ⊢
    rw [hF]
    exact fw_split htn (h.f2 j hj)
theorem meD_ok {d : Dd} {e : Ed} (h : OkD d) (hE : meE d e = 0) (hfr : slotP d.F.length e.fr) (hto : slotP d.F.length e.to) (hv : d.vn ≠ 1099511627776) : OkD (meD d e) := by
  obtain ⟨h1, h2, h3⟩ := meE_ok hE
  obtain ⟨i, hi, hil, hsi, _⟩ := ixS_pos h1
  obtain ⟨j, hj, hjl, hsj, _⟩ := ixS_pos h2
  obtain ⟨f, hf⟩ : ∃ f : Nat, (min (ixS d.l e.fr) (ixS d.l e.to)).toNat = f := ⟨_, rfl⟩
  have hfx : f + 1 < d.l.length ∧ ((f = i ∧ f + 1 = j) ∨ (f = j ∧ f + 1 = i)) := by
    rw [hi, hj] at hf h3
    omega
  have hsh : ((sg d.l f).sh = e.fr ∧ (sg d.l (f + 1)).sh = e.to) ∨ ((sg d.l f).sh = e.to ∧ (sg d.l (f + 1)).sh = e.fr) := by
    rcases hfx.2 with ⟨rfl, e2⟩ | ⟨rfl, e2⟩
    · left; rw [e2]; exact ⟨hsi, hsj⟩
    · right; rw [e2]; exact ⟨hsj, hsi⟩
  have hl : d.l = d.l.take f ++ sg d.l f :: sg d.l (f + 1) :: d.l.drop (f + 2) := by
    have e2 : d.l.drop (f + 1) = sg d.l (f + 1) :: d.l.drop (f + 2) := by rw [sg_get hfx.1]; exact List.drop_eq_getElem_cons hfx.1
    rw [← e2]; exact sg_split (by omega)
  have hD : meD d e = ⟨d.vn + 1, d.l.take f ++ ⟨(sg d.l f).lo, (sg d.l (f + 1)).hi, e.to⟩ :: d.l.drop (f + 2), d.F.set e.fr.toNat e.to⟩ := by
    unfold meD meL
    rw [hf]
  have ho := h.okl
  rw [hl] at ho
  have hO := ho.merge (t9 := e.to) (by rcases hsh with ⟨_, k⟩ | ⟨k, _⟩; exact .inr k.symm; exact .inl k.symm)
  have hnd := ho.nd
  have e2 : (d.l.take f ++ sg d.l f :: sg d.l (f + 1) :: d.l.drop (f + 2)).map (·.sh) = (d.l.take f).map (·.sh) ++ (sg d.l f).sh :: (sg d.l (f + 1)).sh :: (d.l.drop (f + 2)).map (·.sh) := by simp
  rw [e2] at hnd
  have hfo : e.fr ≠ e.to ∧ (∀ z ∈ d.l.take f, z.sh ≠ e.fr) ∧ (∀ z ∈ d.l.drop (f + 2), z.sh ≠ e.fr) := by
    have k1 := List.nodup_cons.1 ((List.perm_middle.nodup_iff).1 hnd)
    have hnd2 : (((d.l.take f).map (·.sh) ++ [(sg d.l f).sh]) ++ (sg d.l (f + 1)).sh :: (d.l.drop (f + 2)).map (·.sh)).Nodup := by simpa using hnd
    have k2 := List.nodup_cons.1 ((List.perm_middle.nodup_iff).1 hnd2)
    have m1 := k1.1
    have m2 := k2.1
    simp only [List.mem_append, List.mem_cons, List.mem_map, List.not_mem_nil, or_false, not_or, not_exists, not_and] at m1 m2
    rcases hsh with ⟨s1, s2⟩ | ⟨s1, s2⟩
    · rw [s1] at m1
      rw [s2] at m1
      exact ⟨m1.2.1, fun z hz => m1.1 z hz, fun z hz => m1.2.2 z hz⟩
    · rw [s2, s1] at m2
      exact ⟨m2.1.2, fun z hz => m2.1.1 z hz, fun z hz => m2.2 z hz⟩
  have htn : e.fr.toNat < d.F.length := by have := hfr; omega
  have hrg := h.rg
  have hno : ¬ hasS (meD d e).l e.fr := fun hh => by
    rw [hD] at hh
    obtain ⟨z, hz, hzs⟩ := hasS_iff.1 hh
    have hz' : z ∈ d.l.take f ++ ⟨(sg d.l f).lo, (sg d.l (f + 1)).hi, e.to⟩ :: d.l.drop (f + 2) := hz
    rw [List.mem_append, List.mem_cons] at hz'
    rcases hz' with hz | rfl | hz
    · exact hfo.2.1 z hz hzs
    · exact hfo.1 hzs.symm
    · exact hfo.2.2 z hz hzs
  have hmem : ∀ s : Int, hasS (meD d e).l s → hasS d.l s := fun s hh => by
    rw [hD] at hh
    obtain ⟨z, hz, rfl⟩ := hasS_iff.1 hh
    have hz' : z ∈ d.l.take f ++ ⟨(sg d.l f).lo, (sg d.l (f + 1)).hi, e.to⟩ :: d.l.drop (f + 2) := hz
    rw [List.mem_append, List.mem_cons] at hz'
    rcases hz' with hz | rfl | hz
    · exact hasS_iff.2 ⟨z, List.mem_of_mem_take hz, rfl⟩
    · exact h2
    · exact hasS_iff.2 ⟨z, List.mem_of_mem_drop hz, rfl⟩
  have hF : (meD d e).F = d.F.set e.fr.toNat e.to := by rw [hD]
  have hFL : (meD d e).F.length = d.F.length := by rw [hF, List.length_set]
  have hf1 : ∀ j, j < (meD d e).F.length → f1D (meD d e).l (meD d e).F j := fun j hj => by
    rw [hFL] at hj
    have k := h.f1 j hj
    unfold f1D
    rw [hFL, hF, ig_set htn]
    by_cases hje : j = e.fr.toNat
    · rw [if_pos hje]
      have := hto
      refine ⟨by omega, fun hh => absurd hh ?_⟩
      rw [show (j : Int) = e.fr by have := hfr.1; omega]
      exact hno
    · rw [if_neg hje]
      exact ⟨k.1, fun hh => k.2 (hmem _ hh)⟩
  refine OkL.okd ?_ ?_ ⟨hf1, fun j hj => ?_⟩
  · rw [hFL, hD]; exact hO
  · unfold rgD at hrg ⊢
    rw [hFL]
    have : (meD d e).vn = d.vn + 1 := rfl
    rw [this]
    omega
  · have hx : ig d.F e.to.toNat = -1 := (h.f1 e.to.toNat (by have := hto; omega)).2 (by rw [Int.toNat_of_nonneg hto.1]; exact h2)
    rw [hFL] at hj
    have k := fw_merge htn hto.1 (by have := hfo.1; have := hto.1; have := hfr.1; omega) hx (h.f2 j hj)
    rw [← hF] at k
    exact fw_le (fun i hi => (hf1 i hi).1) (by rw [hFL]; omega) k
/-- Apply keeps a directory valid. -/
theorem apD_ok {d : Dd} {e : Ed} (hE : apE d e = 0) : vaD (apD d e) = 0 ∧ (apD d e).vn = d.vn + 1 ∧ (apD d e).F.length = d.F.length := by
  by_cases hN : apN d e = 0
  · obtain ⟨hv, h1, h2, h3, h4⟩ := apN_ok hN
    have ho := ok_va hv
    rcases h2 with hk | hk
    · rw [apD_1 hE hk]
      rw [apE_1 hN hk] at hE
      exact ⟨(spD_ok ho hE h4 h1).va, rfl, by simp [spD]⟩
    · rw [apD_2 hE hk]
      rw [apE_2 hN hk] at hE
      exact ⟨(meD_ok ho hE h3 h4 h1).va, rfl, by simp [meD]⟩
  · rw [apE_N hN] at hE
    exact absurd hE hN
end Go.Proofs.Ytdilgeabcacbdaa
namespace Go.Proofs.Ytdilgeabcacbdaa
open Go.RowKit
set_option linter.unusedVariables false

/-- slotTest's function value: it keeps a box of the directory. -/
abbrev stV (p : Nat) : Value := .func (.func 89) #[] #[.pointer (some ⟨p, 0, none⟩)]
theorem slot1_any (s : Int) (p : Nat) (A2 : Option Addr) (n c2 : Nat) (w : World) (hp : p < w.heap.size) (hc : w.cell? ⟨p, 2, none⟩ = some (.slice A2 n c2)) (hn : n ≤ 1000) :
    Calls Try.prog 89 #[.int .i64 s, .pointer (some ⟨p, 0, none⟩)] w fun e w' => e = .returned (.bool (decide (slotP n s))) ∧ w = w' := by
  have HW := Lib.hid (fun w1 => rwithin_any s 0 ((n : Int) - 1) w1)
  have HD := Lib.hid (show wiR s 0 ((n : Int) - 1) = decide (slotP n s) by unfold wiR; rw [Bool.eq_iff_iff]; simp only [decide_eq_true_eq]; unfold slotP; omega)
  have hsub : IntKind.i64.wrap ((n : Int) - 1) = (n : Int) - 1 := IntWalk.i64_in _ (by omega)
  rw [HD.out] at HW
  generalize decide (slotP n s) = r at *
  clear HD
  go_enter Try.func89, Try.ntmps89
  go_wp2_with fail
  refine (HW.out _).mono ?_
  rintro e w1 ⟨rfl, rfl⟩
  go_wp2
  go_ret
  exact ⟨rfl, rfl⟩
theorem slotTest_any (d : Dd) (X : Dx) (w : World) :
    Calls Try.prog 54 #[dv d X] w fun e w' => e = .returned (stV w.heap.size) ∧ w' = w.alloc (.cells #[.int .i64 d.vn, .slice X.A d.l.length X.c, .slice X.A2 d.F.length X.c2] 47) := by
  have hmf : ∀ (fn : Fn) (first cap : Array Value) (w : World), (Instr.makeFunc fn first cap).run Try.prog w = .ok (.func fn first cap) w := fun _ _ _ _ => rfl
  go_enter Try.func54, Try.ntmps54
  go_wp2
  go_ret
  exact ⟨rfl, rfl⟩

/-- A box of a function value that tells whether a number is a slot. -/
abbrev St2 (W : World) (q p n : Nat) : Prop := W.cell? ⟨q, 0, none⟩ = some (stV p) ∧ q < W.heap.size ∧ p < W.heap.size ∧ ∃ A2 c2, W.cell? ⟨p, 2, none⟩ = some (.slice A2 n c2)
theorem St2.up {W W' : World} {q p n : Nat} (h : St2 W q p n) (hb : Below W.heap.size W W') : St2 W' q p n := by
  obtain ⟨h1, h2, h3, A2, c2, h4⟩ := h
  exact ⟨(hb.cell (p := ⟨q, 0, none⟩) h2).trans h1, Nat.lt_of_lt_of_le h2 hb.size, Nat.lt_of_lt_of_le h3 hb.size, A2, c2, (hb.cell (p := ⟨p, 2, none⟩) h3).trans h4⟩
theorem svclo_any (d : Sp) (q p n : Nat) (w : World) (hs : St2 w q p n) (hn : n ≤ 1000) :
    Calls Try.prog 84 #[d.v, .pointer (some ⟨q, 0, none⟩)] w fun e w' => e = .returned (.bool (!decide (slotP n d.sh))) ∧ Below w.heap.size w w' := by
  have HB := Lib.hid ((Below.refl w.heap.size w).alloc (Nat.le_refl _) (.cells #[.int .i64 d.lo, .int .i64 d.hi, .int .i64 d.sh] 63))
  obtain ⟨h1, h2, h3, A2, c2, h4⟩ := hs
  have HF := Lib.hid (slot1_any d.sh p A2 n c2 (w.alloc (.cells #[.int .i64 d.lo, .int .i64 d.hi, .int .i64 d.sh] 63)) (by simp; omega) (by rw [World.cell?_alloc_lt _ _ _ (by exact h3)]; exact h4) hn)
  generalize decide (slotP n d.sh) = r at *
  clear h4
  go_enter Try.func84, Try.ntmps84
  go_wp2_with fail
  refine HF.out.mono ?_
  rintro e w1 ⟨rfl, rfl⟩
  go_wp2
  go_ret
  exact ⟨rfl, HB.out⟩

/-- A place that is there just if not all shards are slots. -/
def MsP (n : Nat) (l : List Sp) (w : World) (e : Ending) (w' : World) : Prop := ∃ r : Int, e = .returned (.int .i64 r) ∧ decide (0 ≤ r) = (!msD n l) ∧ Below w.heap.size w w'
set_option maxHeartbeats 1000000 in
theorem msfunc_any (A : Option Addr) (n c : Nat) (l : List Sp) (q p m : Nat) (w : World) (hv : Pl w w.heap.size (.slice A n c) l) (hs : St2 w q p m) (hm : m ≤ 1000) :
    Calls Try.prog 87 #[.slice A n c, .func (.func 84) #[] #[.pointer (some ⟨q, 0, none⟩)]] w (MsP m l w) := by
  obtain ⟨rfl, hm1, hm2⟩ := hv.len
  have hL : l.length ≤ 9223372036854775807 := by unfold maxLen at hm2; omega
  have HV := Lib.hid hv
  have HS := Lib.hid hs
  have HM := Lib.hid hm
  have HB := Lib.hid (Below.refl w.heap.size w)
  clear hv hm1 hm2 hs hm
  go_enter Try.func87, Try.ntmps87
  go_wp2
  go_loopw [8] (fun i wr => ∃ k : Nat, k ≤ l.length ∧ i = .int .i64 k ∧ Below w.heap.size w wr ∧ ∀ j, j < k → slotP m (sg l j).sh) (fun i _ => l.length - (intOf i).toNat)
  case atStart => exact ⟨0, by omega, rfl, HB.out, fun j h => absurd h (by omega)⟩
  case round =>
    obtain ⟨k, hk, rfl, hb, hno⟩ := hrel
    have HN := Lib.hid hno
    have HVK := Lib.hid (HV.out.below hb)
    have HSK := Lib.hid (HS.out.up hb)
    have HB := Lib.hid hb
    clear hno hb
    by_cases hlt : k < l.length
    · obtain ⟨b, o, rfl, hb, c0, c1, c2⟩ := HVK.out.atg hlt
      have HF := Lib.hid (fun w1 hp => svclo_any (sg l k) q p m w1 hp HM.out)
      by_cases he : slotP m (sg l k).sh
      · have HNN := Lib.hid (show ∀ j, j < k + 1 → slotP m (sg l j).sh from fun j h => by
          by_cases e : j = k
          · rw [e]; exact he
          · exact HN.out j (by omega))
        rw [decide_eq_true he] at HF
        clear he
        generalize sg l k = M at *
        go_wp2_with fail
        refine (HF.out _ HSK.out).mono ?_
        rintro e w1 ⟨rfl, hb1⟩
        have HB1 := Lib.hid (HB.out.trans (hb1.mono HB.out.size))
        clear hb1
        go_wp2
        go_roundw
        case rel => exact ⟨k + 1, by omega, by go_num, HB1.out, HNN.out⟩
        case measure => simp [intOf]; omega
      · have HR := Lib.hid (msD_no hlt he)
        rw [decide_eq_false he] at HF
        clear he
        generalize sg l k = M at *
        go_wp2_with fail
        refine (HF.out _ HSK.out).mono ?_
        rintro e w1 ⟨rfl, hb1⟩
        have HB1 := Lib.hid (HB.out.trans (hb1.mono HB.out.size))
        clear hb1
        go_wp2
        go_ret
        exact ⟨k, rfl, by rw [HR.out]; simp, HB1.out⟩
    · have HR := Lib.hid (msD_iff.2 (fun j hj => HN.out j (by omega)))
      go_wp2
      go_ret
      exact ⟨-1, rfl, by rw [HR.out]; rfl, HB.out⟩
theorem mscontains_any (A : Option Addr) (n c : Nat) (l : List Sp) (q p m : Nat) (w : World) (hv : Pl w w.heap.size (.slice A n c) l) (hs : St2 w q p m) (hm : m ≤ 1000) :
    Calls Try.prog 83 #[.slice A n c, .func (.func 84) #[] #[.pointer (some ⟨q, 0, none⟩)]] w fun e w' => e = .returned (.bool (!msD m l)) ∧ Below w.heap.size w w' := by
  have HC := Lib.hid (msfunc_any A n c l q p m w hv hs hm)
  clear hv hs
  go_enter Try.func83, Try.ntmps83
  go_wp2_with fail
  refine HC.out.mono ?_
  rintro e w1 ⟨r, rfl, hr, hb1⟩
  have HR := Lib.hid hr
  have HB1 := Lib.hid hb1
  clear hr hb1
  go_wp2
  go_ret
  exact ⟨by rw [← HR.out]; simp, HB1.out⟩

theorem drew_belR {W W' : World} (h : Below W.drew.heap.size W.drew W') : Below W.heap.size W W' := ((Below.refl W.heap.size W).drew).trans h
set_option maxHeartbeats 2000000 in
theorem ssameshard_any (A : Option Addr) (n c : Nat) (l : List Sp) (w : World) (hv : Pl w w.heap.size (.slice A n c) l) :
    Calls Try.prog 85 #[.slice A n c] w fun e w' => e = .returned (.bool (duB l)) ∧ Below w.heap.size w w' := by
  obtain ⟨rfl, hm1, hm2⟩ := hv.len
  have hL : l.length ≤ 9223372036854775807 := by unfold maxLen at hm2; omega
  have HV := Lib.hid hv
  have HB := Lib.hid (Below.refl w.heap.size w)
  clear hv hm2
  go_enter Try.func85, Try.ntmps85
  go_wp2
  go_loopw [7] (fun i wr => ∃ k : Nat, k ≤ l.length ∧ i = .int .i64 k ∧ Below w.heap.size w wr ∧ ∀ j, j < k → ixS (l.take j) (sg l j).sh < 0) (fun i _ => l.length - (intOf i).toNat)
  case atStart => exact ⟨0, by omega, rfl, HB.out, fun j h => absurd h (by omega)⟩
  case round =>
    obtain ⟨k, hk, rfl, hb, hno⟩ := hrel
    have HN := Lib.hid hno
    have HVK := Lib.hid (HV.out.below hb)
    have HB := Lib.hid hb
    clear hno hb
    by_cases hlt : k < l.length
    · have hkc : k ≤ c := by omega
      obtain ⟨b, o, rfl, hb, c0, c1, c2⟩ := HVK.out.atg hlt
      have HVA := Lib.hid (show Pl (wr.alloc (.cells #[.int .i64 (sg l k).lo, .int .i64 (sg l k).hi, .int .i64 (sg l k).sh] 63)).drew (wr.alloc (.cells #[.int .i64 (sg l k).lo, .int .i64 (sg l k).hi, .int .i64 (sg l k).sh] 63)).drew.heap.size (.slice (some ⟨b, o, none⟩) k c) (l.take k) from ((HVK.out.upto (Nat.le_of_lt hlt)).alloc HB.out.size _).more (show w.heap.size ≤ (wr.alloc (.cells #[.int .i64 (sg l k).lo, .int .i64 (sg l k).hi, .int .i64 (sg l k).sh] 63)).heap.size by have := HB.out.size; simp; omega))
      have HBA := Lib.hid (HB.out.alloc HB.out.size (.cells #[.int .i64 (sg l k).lo, .int .i64 (sg l k).hi, .int .i64 (sg l k).sh] 63))
      have HFD := Lib.hid (fun w1 (h : Pl w1 w1.heap.size (.slice (some ⟨b, o, none⟩) k c) (l.take k)) => sfind_any _ _ _ _ (sg l k).sh w1 h)
      by_cases he : 0 ≤ ixS (l.take k) (sg l k).sh
      · have HR := Lib.hid (duB_yes (du_take hlt he))
        generalize sg l k = M at *
        generalize ixS (l.take k) M.sh = r at *
        go_wp2
        go_region_with ((go_at_call 53; refine (HFD.out _ HVA.out).mono ?_; rintro e w1 ⟨rfl, hb1⟩; have HB1 := Lib.hid (HBA.out.trans ((drew_belR hb1).mono HBA.out.size)); clear hb1))
        all_goals
          go_wp2
          go_ret
          exact ⟨by rw [HR.out]; rfl, HB1.out⟩
      · have HNN := Lib.hid (show ∀ j, j < k + 1 → ixS (l.take j) (sg l j).sh < 0 from fun j h => by
          by_cases e : j = k
          · rw [e]; omega
          · exact HN.out j (by omega))
        have hr1 := (ixS_neg he).1
        generalize sg l k = M at *
        rw [hr1] at HFD
        clear hr1 he
        go_wp2
        go_region_with ((go_at_call 53; refine (HFD.out _ HVA.out).mono ?_; rintro e w1 ⟨rfl, hb1⟩; have HB1 := Lib.hid (HBA.out.trans ((drew_belR hb1).mono HBA.out.size)); clear hb1))
        all_goals
          go_wp2
          go_roundw
          case rel => exact ⟨k + 1, by omega, by go_num, HB1.out, HNN.out⟩
          case measure => simp [intOf]; omega
    · have HR := Lib.hid (duB_no (du_not (l := l) (fun j hj => by have := HN.out j (by omega); omega)))
      go_wp2
      go_ret
      exact ⟨by rw [HR.out]; rfl, HB.out⟩

set_option maxHeartbeats 4000000 in
set_option maxRecDepth 20000 in
theorem sfwvalid_any (d : Dd) (X : Dx) (s : Int) (w : World) (hd : DR w w.heap.size d X) (hs : slotP d.F.length s) (hn : d.F.length ≤ 1000) :
    Calls Try.prog 86 #[dv d X, .int .i64 s] w fun e w' => e = .returned (.bool (fvB d.l d.F s)) ∧ Below w.heap.size w w' := by
  have H0 := Lib.hid (DAt.start 47 hd)
  have HFD := Lib.hid (fun p W (k : DAt w p d X W) => sfind_any X.A d.l.length X.c d.l s W k.dr.pl)
  have HST := Lib.hid (fun W => slotTest_any d X W)
  have HS1 := Lib.hid (fun p x W hp hc => slot1_any x p X.A2 d.F.length X.c2 W hp hc hn)
  have HN := Lib.hid hn
  have HAT := Lib.hid (fun p W (k : DAt w p d X W) (j : Nat) (hj : j < d.F.length) => k.dr.fl.atg hj)
  by_cases hh : hasS d.l s
  · have HR := Lib.hid (show (ig d.F s.toNat == -1) = fvB d.l d.F s by unfold fvB; rw [if_pos hh, Bool.eq_iff_iff]; simp)
    have hix : 0 ≤ ixS d.l s := hh
    generalize ixS d.l s = r at *
    obtain ⟨j, rfl⟩ := Int.eq_ofNat_of_zero_le hs.1
    have hj : j < d.F.length := by have := hs.2; omega
    clear hd hs hh hn
    go_enter Try.func86, Try.ntmps86
    obtain ⟨⟨x0, x1, x2, xl⟩, -⟩ := H0.out.db.all
    go_wp2_with fail
    refine (HFD.out _ _ H0.out).mono ?_
    rintro e w1 ⟨rfl, hb⟩
    have H1 := Lib.hid (H0.out.below hb)
    clear hb x0 x1 x2 xl
    obtain ⟨b, o, hA, hb', c0⟩ := HAT.out _ _ H1.out j hj
    obtain ⟨⟨x0, x1, x2, xl⟩, -⟩ := H1.out.db.all
    rw [hA] at x2
    clear hA
    go_wp2
    go_ret
    exact ⟨by rw [← HR.out]; rfl, H1.out.bel⟩
  · have HR := Lib.hid (show pvD d.F d.F.length s = fvB d.l d.F s by unfold fvB; rw [if_neg hh])
    have hix := (ixS_neg hh).1
    rw [hix] at HFD
    clear hix hh hn hd
    have HSS := Lib.hid hs
    have hL : d.F.length ≤ 9223372036854775807 := by have := HN.out; omega
    go_enter Try.func86, Try.ntmps86
    obtain ⟨⟨x0, x1, x2, xl⟩, -⟩ := H0.out.db.all
    go_wp2_with fail
    refine (HFD.out _ _ H0.out).mono ?_
    rintro e w1 ⟨rfl, hb⟩
    have H1 := Lib.hid (H0.out.below hb)
    clear hb x0 x1 x2 xl
    obtain ⟨⟨x0, x1, x2, xl⟩, -⟩ := H1.out.db.all
    go_wp2_with fail
    refine (HST.out _).mono ?_
    rintro e w2 ⟨rfl, hw2⟩
    obtain ⟨p, hp⟩ : ∃ p, p = w.heap.size := ⟨_, rfl⟩
    obtain ⟨q, hq⟩ : ∃ q, q = w1.heap.size := ⟨_, rfl⟩
    have H2 := Lib.hid (show DAt w p d X w2 from by rw [hp, hw2]; exact H1.out.alloc _)
    have Q2 := Lib.hid (show w2.cell? ⟨q, 2, none⟩ = some (.slice X.A2 d.F.length X.c2) ∧ q < w2.heap.size from by rw [hw2, hq]; exact ⟨by simp [go_sem], by simp⟩)
    rw [← hp, ← hq]
    clear hp hq hw2 x0 x1 x2 xl H0 H1 HFD HST hs
    obtain ⟨⟨x0, x1, x2, xl⟩, -⟩ := H2.out.db.all
    go_wp2
    go_loopw [1, 22] (fun x i wr => ∃ (k : Nat) (t : Int), k ≤ d.F.length ∧ x = .int .i64 t ∧ i = .int .i64 k ∧ slotP d.F.length t ∧ pvD d.F (d.F.length - k) t = pvD d.F d.F.length s ∧ wr = w2) (fun _ i _ => d.F.length - (intOf i).toNat)
    case atStart => exact ⟨0, s, by omega, rfl, rfl, HSS.out, by rw [Nat.sub_zero], rfl⟩
    case round =>
      obtain ⟨k, t, hk, rfl, rfl, ht, hpv, rfl⟩ := hrel
      have HT := Lib.hid ht
      have HPV := Lib.hid hpv
      clear hpv
      by_cases hlt : k < d.F.length
      · obtain ⟨j, rfl⟩ := Int.eq_ofNat_of_zero_le ht.1
        have hj : j < d.F.length := by have := ht.2; omega
        obtain ⟨b, o, hA, hbl, c0⟩ := HAT.out _ _ H2.out j hj
        rw [hA] at x2
        clear hA
        have HPN := Lib.hid (show d.F.length - k = (d.F.length - (k + 1)) + 1 by omega)
        rw [HPN.out] at HPV
        by_cases h1 : ig d.F j = -1
        · have HR1 := Lib.hid (show fvB d.l d.F s = true by rw [← HR.out, ← HPV.out]; exact pvD_one h1)
          rw [h1] at c0
          clear h1 ht
          go_wp2
          go_ret
          exact ⟨by rw [HR1.out]; rfl, H2.out.bel⟩
        · have hne : (ig d.F j == -1) = false := by simpa using h1
          by_cases h2 : slotP d.F.length (ig d.F j)
          · have HPV2 := Lib.hid (show pvD d.F (d.F.length - (k + 1)) (ig d.F j) = pvD d.F d.F.length s from (pvD_next h1 h2).symm.trans HPV.out)
            have HS2 := Lib.hid (HS1.out q (ig d.F j) wr Q2.out.2 Q2.out.1)
            have H22 := Lib.hid h2
            rw [decide_eq_true h2] at HS2
            clear h1 h2 ht
            generalize ig d.F j = y at *
            go_wp2_with fail
            refine HS2.out.mono ?_
            rintro e w3 ⟨rfl, hw3⟩
            replace hw3 := hw3.symm
            subst hw3
            go_wp2
            go_roundw
            case rel => exact ⟨k + 1, y, by omega, rfl, by go_num, H22.out, HPV2.out, by trivial⟩
            case measure => simp [intOf]; omega
          · have HR1 := Lib.hid (show fvB d.l d.F s = false by rw [← HR.out, ← HPV.out]; exact pvD_no h1 h2)
            have HS2 := Lib.hid (HS1.out q (ig d.F j) wr Q2.out.2 Q2.out.1)
            rw [decide_eq_false h2] at HS2
            clear h1 h2 ht
            generalize ig d.F j = y at *
            go_wp2_with fail
            refine HS2.out.mono ?_
            rintro e w3 ⟨rfl, hw3⟩
            replace hw3 := hw3.symm
            subst hw3
            go_wp2
            go_ret
            exact ⟨by rw [HR1.out]; rfl, H2.out.bel⟩
      · have HR1 := Lib.hid (show fvB d.l d.F s = false by rw [← HR.out, ← HPV.out, show d.F.length - k = 0 by omega]; rfl)
        clear ht
        go_wp2
        go_ret
        exact ⟨by rw [HR1.out]; rfl, H2.out.bel⟩
end Go.Proofs.Ytdilgeabcacbdaa
