/- What is proved here: (lemmas) what a change of an owner leaves of a copied arena; arena.TryLock by a contract; Vs; snapshot's functions, arena.wordOf and Load by contracts; snapshot.compare, load, Step, arena.wordOf and Load by contracts. -/
import Derived.Test.YtijpflljopckiaaJ33
import Derived.Deep.DeepCutAuto
import Derived.Deep.RegionHeld3
namespace Go.Proofs.Ytijpflljopckiaa
open Go.RowKit
set_option linter.unusedVariables false

theorem qcs_setow (Q : List Sl) (i : Nat) (x v : Int) (S : Sh) (D : Sx) (h : Q[i]? = some ⟨x, S, D⟩) : (qcs Q).set (i * 9) (.int .i64 v) = qcs (Q.set i ⟨v, S, D⟩) := by
  induction Q generalizing i with
  | nil => simp at h
  | cons s Q ih =>
    cases i with
    | zero =>
      simp only [List.getElem?_cons_zero, Option.some.injEq] at h
      subst h
      rfl
    | succ i =>
      simp only [List.getElem?_cons_succ] at h
      rw [qcs_cons, List.set_cons_succ, qcs_cons, ← ih i h, show (i + 1) * 9 = 9 + i * 9 by omega, sl_app_set]
section
variable {w W W' : World} {p r b : Nat} {a : Ar} {Y : Ax}
/-- The place of an owner. -/
theorem Cb12.at_ (h : Cb12 w p r b a Y W) {k : Nat} (hk : k ≤ a.sl.length) : W.cell? (ownP p b a.sl.length k) = some (.int .i64 (a.own k)) ∧ W.frozen? (ownP p b a.sl.length k) = false ∧ (ownP p b a.sl.length k).block < W.heap.size := by
  unfold ownP Ar.own
  by_cases e : k = a.sl.length
  · rw [if_pos e, if_pos e]
    exact ⟨h.pb.k.2.2.1, h.pb.fr 2, h.pb.lt⟩
  · rw [if_neg e, if_neg e]
    have hl : k < Y.q.length := by rw [h.len]; omega
    have h9 := h.ro.q9 (List.getElem?_eq_getElem hl)
    have e2 : Y.q[k].ow = (og a.sl k).ow := by
      rw [og_get (show k < a.sl.length by omega)]
      have : a.sl[k]'(by omega) = Y.q[k].so := by simp [← h.so]
      rw [this]; rfl
    rw [← e2]
    exact ⟨h9.1, h.ro.f _, h.ro.lt⟩
/-- Another owner is stored. -/
theorem Cb12.own (h : Cb12 w p r b a Y W) {k : Nat} (hk : k ≤ a.sl.length) (v : Int) : ∃ Y' : Ax, Cb12 w p r b (a.setOwn k v) Y' (W.setCell (ownP p b a.sl.length k) (.int .i64 v)) ∧ ∀ lo, Y.nw lo → Y'.nw lo := by
  have hne := h.ne
  unfold ownP Ar.setOwn
  by_cases e : k = a.sl.length
  · rw [if_pos e, if_pos e]
    obtain ⟨k1, k2, k3, k4, k5, k6, k7⟩ := h.keep 2 (.int .i64 v)
    obtain ⟨⟨y0, y1, y2, y3, y4, y5, y6, y7, y8, y9, y10⟩, fr, lt⟩ := h.pb
    exact ⟨Y, ⟨⟨⟨by simp [go_sem, y0], by simp [go_sem, y1], by simp [go_sem, y2], by simp [go_sem, y3], by simp [go_sem, y4], by simp [go_sem, y5], by simp [go_sem, y6], by simp [go_sem, y7], by simp [go_sem, y8], by simp [go_sem, y9], by simp [go_sem, y10]⟩, fun o => by simp [go_sem, fr o], by simp [lt]⟩, k5, k6, h.ea, h.ec, h.so, fun t ht => ⟨k1 t ht, (h.sr t ht).2⟩, ⟨k2, h.tl.2⟩, ⟨k3, h.ls.2⟩, ⟨k4, h.dr.2⟩, h.ne, k7⟩, fun _ hn => hn⟩
  · rw [if_neg e, if_neg e]
    have hl : k < Y.q.length := by rw [h.len]; omega
    obtain ⟨t, ht⟩ : ∃ t, Y.q[k]? = some t := ⟨_, List.getElem?_eq_getElem hl⟩
    have e2 : t.sh = (og a.sl k).sh := by
      rw [og_get (show k < a.sl.length by omega)]
      have h1 : (Y.q.map Sl.so)[k]? = some t.so := by rw [List.getElem?_map, ht]; rfl
      rw [h.so] at h1
      obtain ⟨_, h2⟩ := List.getElem?_eq_some_iff.1 h1
      rw [h2]; rfl
    obtain ⟨x, S, D⟩ := t
    simp only at e2
    rw [← e2]
    have hm := h.sr _ (List.mem_of_getElem? ht)
    have h2 := h.ro.set (j := k * 9) (by rw [qcs_len]; omega) (.int .i64 v)
    rw [qcs_setow Y.q k x v S D ht] at h2
    have hpb := h.pb.other (x := ⟨b, k * 9, none⟩) (show b ≠ p by omega) (.int .i64 v)
    have hmem : ∀ s ∈ Y.q.set k ⟨v, S, D⟩, s ∈ Y.q ∨ s = ⟨v, S, D⟩ := fun s hs => by
      rcases List.mem_or_eq_of_mem_set hs with h1 | h1
      · exact .inl h1
      · exact .inr h1
    refine ⟨⟨Y.A, Y.c, Y.q.set k ⟨v, S, D⟩, Y.A2, Y.c2, Y.A3, Y.c3, Y.D⟩, ⟨⟨?_, hpb.fr, hpb.lt⟩, h.rb.other (x := ⟨b, k * 9, none⟩) (show b ≠ r by omega) _, h2, h.ea, by simpa using h.ec, ?_, fun s hs => ?_, ⟨(h.tl.1.offb (p := ⟨b, k * 9, none⟩) h.tl.2.1 _).more (by simp), h.tl.2⟩, ⟨(h.ls.1.offp (p := ⟨b, k * 9, none⟩) h.ls.2.1 _).more (by simp), h.ls.2⟩, ⟨(h.dr.1.offp (q := ⟨b, k * 9, none⟩) h.dr.2.1 _).more (by simp), h.dr.2⟩, h.ne, h.bel.setCell (p := ⟨b, k * 9, none⟩) (show w.heap.size ≤ b by omega) _⟩, fun lo hn => ⟨hn.n1, fun s hs => ?_, hn.n2, hn.n3, hn.n4⟩⟩
    · obtain ⟨y0, y1, y2, y3, y4, y5, y6, y7, y8, y9, y10⟩ := hpb.k
      exact ⟨by simpa using y0, y1, y2, y3, y4, y5, y6, y7, y8, y9, y10⟩
    · show (Y.q.set k ⟨v, S, D⟩).map Sl.so = a.sl.set k ⟨v, S⟩
      rw [List.map_set, h.so]
      rfl
    · rcases hmem s hs with h1 | rfl
      · exact ⟨((h.sr s h1).1.offp (p := ⟨b, k * 9, none⟩) (h.sr s h1).2.1 _).more (by simp), (h.sr s h1).2⟩
      · exact ⟨(hm.1.offp (p := ⟨b, k * 9, none⟩) hm.2.1 _).more (by simp), hm.2⟩
    · rcases hmem s hs with h1 | rfl
      · exact hn.ns s h1
      · exact (show D.nw lo from hn.ns ⟨x, S, D⟩ (List.mem_of_getElem? ht))
theorem QB.far11 {q : Nat} {a' : Ar} {Y' : Ax} (h : QB W q a Y) (hq : p ≠ q) : QB (set11 W p a' Y') q a Y :=
  ((((((((((h.other (x := ⟨p, 0, none⟩) hq _).other (x := ⟨p, 1, none⟩) hq _).other (x := ⟨p, 2, none⟩) hq _).other (x := ⟨p, 3, none⟩) hq _).other (x := ⟨p, 4, none⟩) hq _).other (x := ⟨p, 5, none⟩) hq _).other (x := ⟨p, 6, none⟩) hq _).other (x := ⟨p, 7, none⟩) hq _).other (x := ⟨p, 8, none⟩) hq _).other (x := ⟨p, 9, none⟩) hq _).other (x := ⟨p, 10, none⟩) hq _
/-- A copy is stored into the box of its original. -/
theorem Ci12.copied (h : Ci12 w p r a Y W) {Z : Ax} (hb : Below W.heap.size W W') (hn : Z.nw W.heap.size) (har : AR W' W'.heap.size a Z) (ea : Z.A = some ⟨b, 0, none⟩) (ec : a.sl.length ≤ Z.c ∧ Z.c ≤ maxLen) (hr : Rb W' b (qcs Z.q)) (o1 : ∀ t ∈ Z.q, SOff t.sh t.sx b) (o2 : OffB b a.st.length Z.A2) (o3 : OffB b a.dl.length Z.A3) (o4 : DOff a.dir Z.D b) : Cb12 w p r b a Z (set11 W' p a Z) := by
  have h' := h.below hb
  have hne := h.ne
  have hpl := h.pb.lt
  have hrl := h.rb.lt
  have hbl : W.heap.size ≤ b := hn.n1 _ ea
  have hp := hn.off (a := a) hpl
  have hrr := hn.off (a := a) hrl
  have h11 := (har.set11 hp a Z).more (B' := (set11 W' p a Z).heap.size) (by rw [set11_size]; exact Nat.le_refl _)
  exact ⟨h'.pb.set a Z, h'.rb.far11 (by omega), hr.set11 (by omega) a Z, ea, ec, har.so, fun t ht => ⟨h11.sr t ht, o1 t ht, hp.os t ht, hrr.os t ht⟩, ⟨h11.tl, o2, hp.o2, hrr.o2⟩, ⟨h11.ls, o3, hp.o3, hrr.o3⟩, ⟨h11.dr, o4, hp.o4, hrr.o4⟩, ⟨hne.1, hne.2, by omega⟩, set11_below h'.bel hne.1 a Z⟩
end
end Go.Proofs.Ytijpflljopckiaa
namespace Go.Proofs.Ytijpflljopckiaa
open Go.RowKit
set_option linter.unusedVariables false

/-- An arena, whether it was locked, and an error as a result: its lists are new. -/
def A3P (w : World) (a : Ar) (ok : Bool) (x : Int) (e : Ending) (w' : World) : Prop := ∃ Y, e = .returned (.tuple #[av a Y, .bool ok, .int .i64 x]) ∧ Y.nw w.heap.size ∧ AR w' w'.heap.size a Y ∧ Below w.heap.size w w'
theorem a3_out {w W : World} {r : Nat} {a : Ar} {Y : Ax} (hr : w.heap.size ≤ r) (hb : Below w.heap.size w W) (hn : Y.nw (r + 1)) (hs : AR W W.heap.size a Y) (ok : Bool) (x : Int) : A3P w a ok x (.returned (.tuple #[av a Y, .bool ok, .int .i64 x])) (set11 W r a Y) :=
  ⟨Y, rfl, hn.low (by omega), (hs.set11 (hn.off (Nat.lt_succ_self r)) a Y).more (by rw [set11_size]; exact Nat.le_refl _), set11_below hb hr a Y⟩
end Go.Proofs.Ytijpflljopckiaa
/- Plain: snapshots and their boxes; what snapshot's functions and the words' functions of an arena give. -/
namespace Go.Proofs.Ytijpflljopckiaa
open Go.RowKit
set_option linter.unusedVariables false

/-- A snapshot. -/
structure Sn where
  ph : Int
  ep : Int
  ck : Int
  sp : Int
def zSn : Sn := ⟨0, 0, 0, 0⟩
/-- .. as a value, and its cells. -/
abbrev Sn.v (s : Sn) : Value := .agg #[.int .i64 s.ph, .int .i64 s.ep, .int .i64 s.ck, .int .i64 s.sp]
abbrev Sn.cl (s : Sn) : Array Value := #[.int .i64 s.ph, .int .i64 s.ep, .int .i64 s.ck, .int .i64 s.sp]
abbrev K4n (W : World) (q : Nat) (s : Sn) : Prop := W.cell? ⟨q, 0, none⟩ = some (.int .i64 s.ph) ∧ W.cell? ⟨q, 1, none⟩ = some (.int .i64 s.ep) ∧ W.cell? ⟨q, 2, none⟩ = some (.int .i64 s.ck) ∧ W.cell? ⟨q, 3, none⟩ = some (.int .i64 s.sp)
/-- Block q holds a snapshot, and may be written. -/
structure NB (W : World) (q : Nat) (s : Sn) : Prop where
  k : K4n W q s
  fr : ∀ o, W.frozen? ⟨q, o, none⟩ = false
  lt : q < W.heap.size
/-- The four stores of a snapshot. -/
abbrev set4n (W : World) (q : Nat) (s : Sn) : World := (((W.setCell ⟨q, 0, none⟩ (.int .i64 s.ph)).setCell ⟨q, 1, none⟩ (.int .i64 s.ep)).setCell ⟨q, 2, none⟩ (.int .i64 s.ck)).setCell ⟨q, 3, none⟩ (.int .i64 s.sp)
section
variable {W W' : World} {q g : Nat} {s t : Sn}
theorem NB.keep (h : NB W q s) (hc : ∀ o, W'.cell? ⟨q, o, none⟩ = W.cell? ⟨q, o, none⟩) (hf : ∀ o, W'.frozen? ⟨q, o, none⟩ = W.frozen? ⟨q, o, none⟩) (hs : W.heap.size ≤ W'.heap.size) : NB W' q s := by
  obtain ⟨⟨k0, k1, k2, k3⟩, fr, lt⟩ := h
  exact ⟨⟨(hc 0).trans k0, (hc 1).trans k1, (hc 2).trans k2, (hc 3).trans k3⟩, fun o => (hf o).trans (fr o), Nat.lt_of_lt_of_le lt hs⟩
theorem NB.up (h : NB W q s) (hb : Below W.heap.size W W') : NB W' q s := h.keep (fun o => hb.cell (p := ⟨q, o, none⟩) h.lt) (fun o => hb.frozen (p := ⟨q, o, none⟩) h.lt) hb.size
theorem NB.other (h : NB W q s) {x : Addr} (hne : x.block ≠ q) (v : Value) : NB (W.setCell x v) q s :=
  h.keep (fun o => World.cell?_setCell_other W x ⟨q, o, none⟩ v (fun e => hne (by rw [e]))) (fun o => by simp [go_sem]) (by simp)
theorem NB.grown (h : NB W q s) (hg : W.grownBy W' (some g)) (hne : q ≠ g) : NB W' q s := h.keep (fun o => hg.cell_far ⟨q, o, none⟩ h.lt (fun e => by injection e with e; exact hne e)) (fun o => hg.frozen_far ⟨q, o, none⟩ h.lt (fun e => by injection e with e; exact hne e)) hg.size
theorem NB.start (w : World) (s : Sn) (t : TypeId) : NB (w.alloc (.cells s.cl t)) w.heap.size s :=
  ⟨⟨by simp [go_sem], by simp [go_sem], by simp [go_sem], by simp [go_sem]⟩, fun o => by simp [go_sem], by simp⟩
theorem NB.set (h : NB W q s) (t : Sn) : NB (set4n W q t) q t := by
  obtain ⟨⟨k0, k1, k2, k3⟩, fr, lt⟩ := h
  exact ⟨⟨by simp [go_sem, k0], by simp [go_sem, k1], by simp [go_sem, k2], by simp [go_sem, k3]⟩, fun o => by simp [go_sem, fr o], by simp [lt]⟩
theorem NB.free (h : NB W q s) : W.frozen? ⟨q, 0, none⟩ = false ∧ W.frozen? ⟨q, 1, none⟩ = false ∧ W.frozen? ⟨q, 2, none⟩ = false ∧ W.frozen? ⟨q, 3, none⟩ = false := ⟨h.fr 0, h.fr 1, h.fr 2, h.fr 3⟩
theorem set4n_size (W : World) (q : Nat) (s : Sn) : (set4n W q s).heap.size = W.heap.size := by simp
theorem set4n_below {B : Nat} {w : World} (h : Below B w W) (hb : B ≤ q) (s : Sn) : Below B w (set4n W q s) :=
  (((h.setCell (p := ⟨q, 0, none⟩) hb _).setCell (p := ⟨q, 1, none⟩) hb _).setCell (p := ⟨q, 2, none⟩) hb _).setCell (p := ⟨q, 3, none⟩) hb _
theorem NB.set11 {p : Nat} (h : NB W q s) (hp : p ≠ q) (a : Ar) (Y : Ax) : NB (set11 W p a Y) q s :=
  ((((((((((h.other (x := ⟨p, 0, none⟩) hp _).other (x := ⟨p, 1, none⟩) hp _).other (x := ⟨p, 2, none⟩) hp _).other (x := ⟨p, 3, none⟩) hp _).other (x := ⟨p, 4, none⟩) hp _).other (x := ⟨p, 5, none⟩) hp _).other (x := ⟨p, 6, none⟩) hp _).other (x := ⟨p, 7, none⟩) hp _).other (x := ⟨p, 8, none⟩) hp _).other (x := ⟨p, 9, none⟩) hp _).other (x := ⟨p, 10, none⟩) hp _
theorem QB.set4n {p : Nat} {a : Ar} {Y : Ax} (h : QB W p a Y) (hp : q ≠ p) (s : Sn) : QB (set4n W q s) p a Y :=
  (((h.other (x := ⟨q, 0, none⟩) hp _).other (x := ⟨q, 1, none⟩) hp _).other (x := ⟨q, 2, none⟩) hp _).other (x := ⟨q, 3, none⟩) hp _
theorem AR.set4n {B : Nat} {a : Ar} {Y : Ax} (h : AR W B a Y) (ho : AOff a Y q) (s : Sn) : AR (set4n W q s) B a Y :=
  (((h.offp (q := ⟨q, 0, none⟩) ho _).offp (q := ⟨q, 1, none⟩) ho _).offp (q := ⟨q, 2, none⟩) ho _).offp (q := ⟨q, 3, none⟩) ho _
end
/-- A snapshot as a result. -/
def NR (w : World) (s : Sn) (e : Ending) (w' : World) : Prop := e = .returned s.v ∧ Below w.heap.size w w'
/-- .. and an error. -/
def NE (w : World) (s : Sn) (x : Int) (e : Ending) (w' : World) : Prop := e = .returned (.tuple #[s.v, .int .i64 x]) ∧ Below w.heap.size w w'
/-- What Step's three ways give. -/
def bgN (s : Sn) (x : Int) : Sn := ⟨1, x, s.ck, s.sp⟩
def stN (s : Sn) (x n : Int) : Sn := ⟨2, s.ep, x, n⟩
def cmN (s : Sn) (x : Int) : Sn := if x = s.ep then ⟨3, s.ep, s.ck, s.sp⟩ else bgN s x
/-- Step: snapshot, error (ep and ck: the words of the arena). -/
def nsN (ep ck : Int) (s : Sn) (n : Int) : Sn := if s.ph = 0 then bgN s ep else if s.ph = 1 then stN s ck n else if s.ph = 2 then cmN s ep else zSn
def nsE (s : Sn) : Int := if s.ph = 0 ∨ s.ph = 1 ∨ s.ph = 2 then 0 else if s.ph = 3 then 7 else 1
/-- An arena with other words. -/
def Ar.words (a : Ar) (ep ck ni : Int) : Ar := ⟨a.sl, a.st, a.ow, a.cap, a.dl, a.dir, ep, ck, ni⟩
end Go.Proofs.Ytijpflljopckiaa
namespace Go.Proofs.Ytijpflljopckiaa
open Go.RowKit
set_option linter.unusedVariables false

/-- A snapshot's box and a result's. -/
structure N2 (w : World) (p r : Nat) (s : Sn) (W : World) : Prop where
  pb : NB W p s
  rb : NB W r zSn
  ne : w.heap.size ≤ p ∧ p < r
  bel : Below w.heap.size w W
theorem N2.below {w W W' : World} {p r : Nat} {s : Sn} (h : N2 w p r s W) (hb : Below W.heap.size W W') : N2 w p r s W' := ⟨h.pb.up hb, h.rb.up hb, h.ne, h.bel.trans (hb.mono h.bel.size)⟩
theorem N2.start (w : World) (ph ep ck sp : Int) : N2 w w.heap.size (w.heap.size + 1) ⟨ph, ep, ck, sp⟩ ((w.alloc (.cells #[.int .i64 ph, .int .i64 ep, .int .i64 ck, .int .i64 sp] 43)).alloc (.cells #[.int .i64 0, .int .i64 0, .int .i64 0, .int .i64 0] 43)) := by
  have h1 := NB.start (w.alloc (.cells #[.int .i64 ph, .int .i64 ep, .int .i64 ck, .int .i64 sp] 43)) zSn 43
  rw [show (w.alloc (.cells #[.int .i64 ph, .int .i64 ep, .int .i64 ck, .int .i64 sp] 43)).heap.size = w.heap.size + 1 by simp] at h1
  have b2 : Below (w.alloc (.cells #[.int .i64 ph, .int .i64 ep, .int .i64 ck, .int .i64 sp] 43)).heap.size (w.alloc (.cells #[.int .i64 ph, .int .i64 ep, .int .i64 ck, .int .i64 sp] 43)) ((w.alloc (.cells #[.int .i64 ph, .int .i64 ep, .int .i64 ck, .int .i64 sp] 43)).alloc (.cells #[.int .i64 0, .int .i64 0, .int .i64 0, .int .i64 0] 43)) := (Below.refl _ _).alloc (Nat.le_refl _) _
  exact ⟨(NB.start w ⟨ph, ep, ck, sp⟩ 43).up b2, h1, by omega, ((Below.refl _ _).alloc (Nat.le_refl _) _).alloc (by simp) _⟩
set_option maxHeartbeats 4000000 in
set_option maxRecDepth 20000 in
theorem nnew_any (w : World) : Calls Try.prog 9 #[] w (NR w zSn) := by
  have H0 := Lib.hid (show NB (w.alloc (.cells #[.int .i64 0, .int .i64 0, .int .i64 0, .int .i64 0] 43)) w.heap.size zSn from NB.start w zSn 43)
  have HB := Lib.hid ((Below.refl w.heap.size w).alloc (Nat.le_refl _) (.cells #[.int .i64 0, .int .i64 0, .int .i64 0, .int .i64 0] 43))
  obtain ⟨r, hr⟩ : ∃ r, r = w.heap.size := ⟨_, rfl⟩
  have HR := Lib.hid hr
  clear hr
  go_enter Try.func9, Try.ntmps9
  go_upto_region 1 with (fail)
  rw [← HR.out] at H0 ⊢
  generalize w.alloc (.cells #[.int .i64 0, .int .i64 0, .int .i64 0, .int .i64 0] 43) = w1 at *
  have HF := Lib.hid (show NR w zSn (.returned (.agg #[.int .i64 0, .int .i64 0, .int .i64 0, .int .i64 0])) ((((w1.setCell ⟨r, 0, none⟩ (.int .i64 0)).setCell ⟨r, 1, none⟩ (.int .i64 0)).setCell ⟨r, 2, none⟩ (.int .i64 0)).setCell ⟨r, 3, none⟩ (.int .i64 0)) from ⟨rfl, set4n_below HB.out (by rw [HR.out]; exact Nat.le_refl _) zSn⟩)
  obtain ⟨r0, r1, r2, r3⟩ := H0.out.k
  simp only [zSn] at r0 r1 r2 r3
  have rl := H0.out.lt
  obtain ⟨f0, f1, f2, f3⟩ := H0.out.free
  clear H0
  go_wp2
  exact bodyPost_ret (v := .agg #[.int .i64 0, .int .i64 0, .int .i64 0, .int .i64 0]) (by simp only [results, Try.results9]; go_simp <;> rfl) rfl HF.out
set_option maxHeartbeats 4000000 in
set_option maxRecDepth 20000 in
theorem nbegin_any (ph ep ck sp x : Int) (w : World) : Calls Try.prog 36 #[.agg #[.int .i64 ph, .int .i64 ep, .int .i64 ck, .int .i64 sp], .int .i64 x] w (NR w (bgN ⟨ph, ep, ck, sp⟩ x)) := by
  obtain ⟨p, hp⟩ : ∃ p, p = w.heap.size := ⟨_, rfl⟩
  obtain ⟨r, hr⟩ : ∃ r, r = w.heap.size + 1 := ⟨_, rfl⟩
  have H0 := Lib.hid (show N2 w p r ⟨ph, ep, ck, sp⟩ _ from by rw [hr, hp]; exact N2.start w ph ep ck sp)
  have HPP := Lib.hid (And.intro hp hr)
  clear hp hr
  go_enter Try.func36, Try.ntmps36
  go_upto_region 1 with (fail)
  rw [← HPP.out.2, ← HPP.out.1]
  generalize (w.alloc (.cells #[.int .i64 ph, .int .i64 ep, .int .i64 ck, .int .i64 sp] 43)).alloc (.cells #[.int .i64 0, .int .i64 0, .int .i64 0, .int .i64 0] 43) = w1 at *
  have HF := Lib.hid (show NR w (bgN ⟨ph, ep, ck, sp⟩ x) (.returned (.agg #[.int .i64 1, .int .i64 x, .int .i64 ck, .int .i64 sp])) ((((((w1.setCell ⟨p, 1, none⟩ (.int .i64 x)).setCell ⟨p, 0, none⟩ (.int .i64 1)).setCell ⟨r, 0, none⟩ (.int .i64 1)).setCell ⟨r, 1, none⟩ (.int .i64 x)).setCell ⟨r, 2, none⟩ (.int .i64 ck)).setCell ⟨r, 3, none⟩ (.int .i64 sp)) from ⟨rfl, set4n_below (Below.setCell (Below.setCell H0.out.bel (show w.heap.size ≤ p from H0.out.ne.1) _) (show w.heap.size ≤ p from H0.out.ne.1) _) (show w.heap.size ≤ r by have := H0.out.ne; omega) (bgN ⟨ph, ep, ck, sp⟩ x)⟩)
  obtain ⟨p0, p1, p2, p3⟩ := H0.out.pb.k
  have pl := H0.out.pb.lt
  obtain ⟨g0, g1, g2, g3⟩ := H0.out.pb.free
  obtain ⟨r0, r1, r2, r3⟩ := H0.out.rb.k
  have rl := H0.out.rb.lt
  obtain ⟨f0, f1, f2, f3⟩ := H0.out.rb.free
  have hpr : ¬ p = r := by have := H0.out.ne; omega
  have hrp : ¬ r = p := fun e => hpr e.symm
  simp only [zSn] at r0 r1 r2 r3
  clear H0
  go_wp2
  exact bodyPost_ret (v := .agg #[.int .i64 1, .int .i64 x, .int .i64 ck, .int .i64 sp]) (by simp only [results, Try.results36]; go_simp <;> rfl) rfl HF.out
set_option maxHeartbeats 4000000 in
set_option maxRecDepth 20000 in
theorem nstamp_any (ph ep ck sp x n : Int) (w : World) : Calls Try.prog 38 #[.agg #[.int .i64 ph, .int .i64 ep, .int .i64 ck, .int .i64 sp], .int .i64 x, .int .i64 n] w (NR w (stN ⟨ph, ep, ck, sp⟩ x n)) := by
  obtain ⟨p, hp⟩ : ∃ p, p = w.heap.size := ⟨_, rfl⟩
  obtain ⟨r, hr⟩ : ∃ r, r = w.heap.size + 1 := ⟨_, rfl⟩
  have H0 := Lib.hid (show N2 w p r ⟨ph, ep, ck, sp⟩ _ from by rw [hr, hp]; exact N2.start w ph ep ck sp)
  have HPP := Lib.hid (And.intro hp hr)
  clear hp hr
  go_enter Try.func38, Try.ntmps38
  go_upto_region 1 with (fail)
  rw [← HPP.out.2, ← HPP.out.1]
  generalize (w.alloc (.cells #[.int .i64 ph, .int .i64 ep, .int .i64 ck, .int .i64 sp] 43)).alloc (.cells #[.int .i64 0, .int .i64 0, .int .i64 0, .int .i64 0] 43) = w1 at *
  have HF := Lib.hid (show NR w (stN ⟨ph, ep, ck, sp⟩ x n) (.returned (.agg #[.int .i64 2, .int .i64 ep, .int .i64 x, .int .i64 n])) (((((((w1.setCell ⟨p, 2, none⟩ (.int .i64 x)).setCell ⟨p, 3, none⟩ (.int .i64 n)).setCell ⟨p, 0, none⟩ (.int .i64 2)).setCell ⟨r, 0, none⟩ (.int .i64 2)).setCell ⟨r, 1, none⟩ (.int .i64 ep)).setCell ⟨r, 2, none⟩ (.int .i64 x)).setCell ⟨r, 3, none⟩ (.int .i64 n)) from ⟨rfl, set4n_below (Below.setCell (Below.setCell (Below.setCell H0.out.bel (show w.heap.size ≤ p from H0.out.ne.1) _) (show w.heap.size ≤ p from H0.out.ne.1) _) (show w.heap.size ≤ p from H0.out.ne.1) _) (show w.heap.size ≤ r by have := H0.out.ne; omega) (stN ⟨ph, ep, ck, sp⟩ x n)⟩)
  obtain ⟨p0, p1, p2, p3⟩ := H0.out.pb.k
  have pl := H0.out.pb.lt
  obtain ⟨g0, g1, g2, g3⟩ := H0.out.pb.free
  obtain ⟨r0, r1, r2, r3⟩ := H0.out.rb.k
  have rl := H0.out.rb.lt
  obtain ⟨f0, f1, f2, f3⟩ := H0.out.rb.free
  have hpr : ¬ p = r := by have := H0.out.ne; omega
  have hrp : ¬ r = p := fun e => hpr e.symm
  simp only [zSn] at r0 r1 r2 r3
  clear H0
  go_wp2
  exact bodyPost_ret (v := .agg #[.int .i64 2, .int .i64 ep, .int .i64 x, .int .i64 n]) (by simp only [results, Try.results38]; go_simp <;> rfl) rfl HF.out
end Go.Proofs.Ytijpflljopckiaa
namespace Go.Proofs.Ytijpflljopckiaa
open Go.RowKit
set_option linter.unusedVariables false

set_option maxHeartbeats 4000000 in
set_option maxRecDepth 20000 in
theorem ncompare_any (ph ep ck sp x : Int) (w : World) : Calls Try.prog 39 #[.agg #[.int .i64 ph, .int .i64 ep, .int .i64 ck, .int .i64 sp], .int .i64 x] w (NR w (cmN ⟨ph, ep, ck, sp⟩ x)) := by
  obtain ⟨p, hp⟩ : ∃ p, p = w.heap.size := ⟨_, rfl⟩
  obtain ⟨r, hr⟩ : ∃ r, r = w.heap.size + 1 := ⟨_, rfl⟩
  have H0 := Lib.hid (show N2 w p r ⟨ph, ep, ck, sp⟩ _ from by rw [hr, hp]; exact N2.start w ph ep ck sp)
  have HPP := Lib.hid (And.intro hp hr)
  clear hp hr
  obtain ⟨R, hR⟩ : ∃ R, R = cmN ⟨ph, ep, ck, sp⟩ x := ⟨_, rfl⟩
  rw [← hR]
  have HRR := Lib.hid hR
  clear hR
  go_enter Try.func39, Try.ntmps39
  go_upto_region 1 with (fail)
  rw [← HPP.out.2, ← HPP.out.1]
  generalize (w.alloc (.cells #[.int .i64 ph, .int .i64 ep, .int .i64 ck, .int .i64 sp] 43)).alloc (.cells #[.int .i64 0, .int .i64 0, .int .i64 0, .int .i64 0] 43) = w1 at *
  have hR := HRR.out
  clear HRR
  obtain ⟨p0, p1, p2, p3⟩ := H0.out.pb.k
  have pl := H0.out.pb.lt
  obtain ⟨g0, g1, g2, g3⟩ := H0.out.pb.free
  obtain ⟨r0, r1, r2, r3⟩ := H0.out.rb.k
  have rl := H0.out.rb.lt
  obtain ⟨f0, f1, f2, f3⟩ := H0.out.rb.free
  have hpr : ¬ p = r := by have := H0.out.ne; omega
  have hrp : ¬ r = p := fun e => hpr e.symm
  simp only [zSn] at r0 r1 r2 r3
  simp only at p0 p1 p2 p3
  by_cases hx : x = ep
  · subst hx
    have hne : (x != x) = false := by simp
    have hpost : R = ⟨3, x, ck, sp⟩ := hR.trans (if_pos rfl)
    have HF := Lib.hid (show NR w R (.returned (.agg #[.int .i64 3, .int .i64 x, .int .i64 ck, .int .i64 sp])) (((((w1.setCell ⟨p, 0, none⟩ (.int .i64 3)).setCell ⟨r, 0, none⟩ (.int .i64 3)).setCell ⟨r, 1, none⟩ (.int .i64 x)).setCell ⟨r, 2, none⟩ (.int .i64 ck)).setCell ⟨r, 3, none⟩ (.int .i64 sp)) from by rw [hpost]; exact ⟨rfl, set4n_below (Below.setCell H0.out.bel (show w.heap.size ≤ p from H0.out.ne.1) _) (show w.heap.size ≤ r by have := H0.out.ne; omega) ⟨3, x, ck, sp⟩⟩)
    clear hpost hR H0
    go_wp2
    exact bodyPost_ret (v := .agg #[.int .i64 3, .int .i64 x, .int .i64 ck, .int .i64 sp]) (by simp only [results, Try.results39]; go_simp <;> rfl) rfl HF.out
  · skip
    have hne : (x != ep) = true := bne_iff_ne.2 hx
    have hpost : R = bgN ⟨ph, ep, ck, sp⟩ x := hR.trans (if_neg hx)
    have HBG := Lib.hid (fun W => nbegin_any ph ep ck sp x W)
    rw [← hpost] at HBG
    clear hpost hx hR
    go_wp2_with fail
    clear p0 p1 p2 p3 pl g0 g1 g2 g3 r0 r1 r2 r3 rl f0 f1 f2 f3
    refine (HBG.out _).mono ?_
    rintro e w2 ⟨rfl, hb⟩
    have H1 := Lib.hid (H0.out.below hb)
    clear hb H0 HBG
    have HF := Lib.hid (show NR w R (.returned (.agg #[.int .i64 R.ph, .int .i64 R.ep, .int .i64 R.ck, .int .i64 R.sp])) ((((w2.setCell ⟨r, 0, none⟩ (.int .i64 R.ph)).setCell ⟨r, 1, none⟩ (.int .i64 R.ep)).setCell ⟨r, 2, none⟩ (.int .i64 R.ck)).setCell ⟨r, 3, none⟩ (.int .i64 R.sp)) from ⟨rfl, set4n_below H1.out.bel (show w.heap.size ≤ r by have := H1.out.ne; omega) R⟩)
    obtain ⟨r0, r1, r2, r3⟩ := H1.out.rb.k
    have rl := H1.out.rb.lt
    obtain ⟨f0, f1, f2, f3⟩ := H1.out.rb.free
    simp only [zSn] at r0 r1 r2 r3
    clear H1
    go_wp2
    exact bodyPost_ret (v := .agg #[.int .i64 R.ph, .int .i64 R.ep, .int .i64 R.ck, .int .i64 R.sp]) (by simp only [results, Try.results39]; go_simp <;> rfl) rfl HF.out
set_option maxHeartbeats 4000000 in
set_option maxRecDepth 20000 in
theorem aword1_any (a : Ar) (Y : Ax) (p : Nat) (w : World) (hq : QB w p a Y) : Calls Try.prog 44 #[.pointer (some ⟨p, 0, none⟩), .int .i64 1] w fun e w' => e = .returned (.pointer (some ⟨p, 8, none⟩)) ∧ w = w' := by
  obtain ⟨y0, y1, y2, y3, y4, y5, y6, y7, y8, y9, y10⟩ := hq.k
  have yl := hq.lt
  clear hq
  go_enter Try.func44, Try.ntmps44
  go_wp2
  go_ret
  exact ⟨rfl, rfl⟩
set_option maxHeartbeats 4000000 in
set_option maxRecDepth 20000 in
theorem aword2_any (a : Ar) (Y : Ax) (p : Nat) (w : World) (hq : QB w p a Y) : Calls Try.prog 44 #[.pointer (some ⟨p, 0, none⟩), .int .i64 2] w fun e w' => e = .returned (.pointer (some ⟨p, 9, none⟩)) ∧ w = w' := by
  obtain ⟨y0, y1, y2, y3, y4, y5, y6, y7, y8, y9, y10⟩ := hq.k
  have yl := hq.lt
  clear hq
  go_enter Try.func44, Try.ntmps44
  go_wp2
  go_ret
  exact ⟨rfl, rfl⟩
set_option maxHeartbeats 4000000 in
set_option maxRecDepth 20000 in
theorem aload1_any (a : Ar) (Y : Ax) (w : World) : Calls Try.prog 70 #[av a Y, .int .i64 1] w fun e w' => e = .returned (.tuple #[.int .i64 a.ep, .int .i64 0]) ∧ Below w.heap.size w w' := by
  have HQ := Lib.hid (QB.start w a Y 36)
  have HB := Lib.hid ((Below.refl w.heap.size w).alloc (Nat.le_refl _) (.cells #[.slice Y.A a.sl.length Y.c, .slice Y.A2 a.st.length Y.c2, .int .i64 a.ow, .int .i64 a.cap, .slice Y.A3 a.dl.length Y.c3, .int .i64 a.dir.vn, .slice Y.D.A a.dir.l.length Y.D.c, .slice Y.D.A2 a.dir.F.length Y.D.c2, .int .i64 a.ep, .int .i64 a.ck, .int .i64 a.ni] 36))
  go_enter Try.func70, Try.ntmps70
  go_upto_region 1 with (fail)
  obtain ⟨p, hp⟩ : ∃ p, p = w.heap.size := ⟨_, rfl⟩
  rw [← hp] at HQ ⊢
  clear hp
  generalize w.alloc (.cells #[.slice Y.A a.sl.length Y.c, .slice Y.A2 a.st.length Y.c2, .int .i64 a.ow, .int .i64 a.cap, .slice Y.A3 a.dl.length Y.c3, .int .i64 a.dir.vn, .slice Y.D.A a.dir.l.length Y.D.c, .slice Y.D.A2 a.dir.F.length Y.D.c2, .int .i64 a.ep, .int .i64 a.ck, .int .i64 a.ni] 36) = w1 at *
  have HW := Lib.hid (aword1_any a Y p w1 HQ.out)
  go_wp2_with fail
  refine HW.out.mono ?_
  rintro e w2 ⟨rfl, rfl⟩
  obtain ⟨y0, y1, y2, y3, y4, y5, y6, y7, y8, y9, y10⟩ := HQ.out.k
  have yl := HQ.out.lt
  clear HQ HW
  go_wp2
  exact bodyPost_ret (v := .tuple #[.int .i64 a.ep, .int .i64 0]) (by simp only [results, Try.results70]; go_simp <;> rfl) rfl ⟨rfl, HB.out⟩
set_option maxHeartbeats 4000000 in
set_option maxRecDepth 20000 in
theorem nload1_any (a : Ar) (Y : Ax) (w : World) : Calls Try.prog 37 #[av a Y, .int .i64 1] w fun e w' => e = .returned (.int .i64 a.ep) ∧ Below w.heap.size w w' := by
  have HQ := Lib.hid (QB.start w a Y 36)
  have HB := Lib.hid ((Below.refl w.heap.size w).alloc (Nat.le_refl _) (.cells #[.slice Y.A a.sl.length Y.c, .slice Y.A2 a.st.length Y.c2, .int .i64 a.ow, .int .i64 a.cap, .slice Y.A3 a.dl.length Y.c3, .int .i64 a.dir.vn, .slice Y.D.A a.dir.l.length Y.D.c, .slice Y.D.A2 a.dir.F.length Y.D.c2, .int .i64 a.ep, .int .i64 a.ck, .int .i64 a.ni] 36))
  have HL := Lib.hid (fun W => aload1_any a Y W)
  go_enter Try.func37, Try.ntmps37
  go_upto_region 1 with (fail)
  obtain ⟨p, hp⟩ : ∃ p, p = w.heap.size := ⟨_, rfl⟩
  rw [← hp] at HQ ⊢
  clear hp
  generalize w.alloc (.cells #[.slice Y.A a.sl.length Y.c, .slice Y.A2 a.st.length Y.c2, .int .i64 a.ow, .int .i64 a.cap, .slice Y.A3 a.dl.length Y.c3, .int .i64 a.dir.vn, .slice Y.D.A a.dir.l.length Y.D.c, .slice Y.D.A2 a.dir.F.length Y.D.c2, .int .i64 a.ep, .int .i64 a.ck, .int .i64 a.ni] 36) = w1 at *
  obtain ⟨y0, y1, y2, y3, y4, y5, y6, y7, y8, y9, y10⟩ := HQ.out.k
  have yl := HQ.out.lt
  go_wp2_with fail
  clear y0 y1 y2 y3 y4 y5 y6 y7 y8 y9 y10 yl
  refine (HL.out _).mono ?_
  rintro e w2 ⟨rfl, hb⟩
  have HF := Lib.hid (HB.out.trans (hb.mono HB.out.size))
  clear hb HB HL HQ
  go_wp2
  go_ret
  exact ⟨rfl, HF.out⟩
set_option maxHeartbeats 4000000 in
set_option maxRecDepth 20000 in
theorem aload2_any (a : Ar) (Y : Ax) (w : World) : Calls Try.prog 70 #[av a Y, .int .i64 2] w fun e w' => e = .returned (.tuple #[.int .i64 a.ck, .int .i64 0]) ∧ Below w.heap.size w w' := by
  have HQ := Lib.hid (QB.start w a Y 36)
  have HB := Lib.hid ((Below.refl w.heap.size w).alloc (Nat.le_refl _) (.cells #[.slice Y.A a.sl.length Y.c, .slice Y.A2 a.st.length Y.c2, .int .i64 a.ow, .int .i64 a.cap, .slice Y.A3 a.dl.length Y.c3, .int .i64 a.dir.vn, .slice Y.D.A a.dir.l.length Y.D.c, .slice Y.D.A2 a.dir.F.length Y.D.c2, .int .i64 a.ep, .int .i64 a.ck, .int .i64 a.ni] 36))
  go_enter Try.func70, Try.ntmps70
  go_upto_region 1 with (fail)
  obtain ⟨p, hp⟩ : ∃ p, p = w.heap.size := ⟨_, rfl⟩
  rw [← hp] at HQ ⊢
  clear hp
  generalize w.alloc (.cells #[.slice Y.A a.sl.length Y.c, .slice Y.A2 a.st.length Y.c2, .int .i64 a.ow, .int .i64 a.cap, .slice Y.A3 a.dl.length Y.c3, .int .i64 a.dir.vn, .slice Y.D.A a.dir.l.length Y.D.c, .slice Y.D.A2 a.dir.F.length Y.D.c2, .int .i64 a.ep, .int .i64 a.ck, .int .i64 a.ni] 36) = w1 at *
  have HW := Lib.hid (aword2_any a Y p w1 HQ.out)
  go_wp2_with fail
  refine HW.out.mono ?_
  rintro e w2 ⟨rfl, rfl⟩
  obtain ⟨y0, y1, y2, y3, y4, y5, y6, y7, y8, y9, y10⟩ := HQ.out.k
  have yl := HQ.out.lt
  clear HQ HW
  go_wp2
  exact bodyPost_ret (v := .tuple #[.int .i64 a.ck, .int .i64 0]) (by simp only [results, Try.results70]; go_simp <;> rfl) rfl ⟨rfl, HB.out⟩
set_option maxHeartbeats 4000000 in
set_option maxRecDepth 20000 in
theorem nload2_any (a : Ar) (Y : Ax) (w : World) : Calls Try.prog 37 #[av a Y, .int .i64 2] w fun e w' => e = .returned (.int .i64 a.ck) ∧ Below w.heap.size w w' := by
  have HQ := Lib.hid (QB.start w a Y 36)
  have HB := Lib.hid ((Below.refl w.heap.size w).alloc (Nat.le_refl _) (.cells #[.slice Y.A a.sl.length Y.c, .slice Y.A2 a.st.length Y.c2, .int .i64 a.ow, .int .i64 a.cap, .slice Y.A3 a.dl.length Y.c3, .int .i64 a.dir.vn, .slice Y.D.A a.dir.l.length Y.D.c, .slice Y.D.A2 a.dir.F.length Y.D.c2, .int .i64 a.ep, .int .i64 a.ck, .int .i64 a.ni] 36))
  have HL := Lib.hid (fun W => aload2_any a Y W)
  go_enter Try.func37, Try.ntmps37
  go_upto_region 1 with (fail)
  obtain ⟨p, hp⟩ : ∃ p, p = w.heap.size := ⟨_, rfl⟩
  rw [← hp] at HQ ⊢
  clear hp
  generalize w.alloc (.cells #[.slice Y.A a.sl.length Y.c, .slice Y.A2 a.st.length Y.c2, .int .i64 a.ow, .int .i64 a.cap, .slice Y.A3 a.dl.length Y.c3, .int .i64 a.dir.vn, .slice Y.D.A a.dir.l.length Y.D.c, .slice Y.D.A2 a.dir.F.length Y.D.c2, .int .i64 a.ep, .int .i64 a.ck, .int .i64 a.ni] 36) = w1 at *
  obtain ⟨y0, y1, y2, y3, y4, y5, y6, y7, y8, y9, y10⟩ := HQ.out.k
  have yl := HQ.out.lt
  go_wp2_with fail
  clear y0 y1 y2 y3 y4 y5 y6 y7 y8 y9 y10 yl
  refine (HL.out _).mono ?_
  rintro e w2 ⟨rfl, hb⟩
  have HF := Lib.hid (HB.out.trans (hb.mono HB.out.size))
  clear hb HB HL HQ
  go_wp2
  go_ret
  exact ⟨rfl, HF.out⟩
/-- The boxes of an arena, a snapshot and a result. -/
structure N3 (w : World) (q p r : Nat) (a : Ar) (Y : Ax) (s : Sn) (W : World) : Prop where
  qb : QB W q a Y
  pb : NB W p s
  rb : NB W r zSn
  ne : w.heap.size ≤ q ∧ q < p ∧ p < r
  bel : Below w.heap.size w W
theorem N3.below {w W W' : World} {q p r : Nat} {a : Ar} {Y : Ax} {s : Sn} (h : N3 w q p r a Y s W) (hb : Below W.heap.size W W') : N3 w q p r a Y s W' := ⟨h.qb.up hb, h.pb.up hb, h.rb.up hb, h.ne, h.bel.trans (hb.mono h.bel.size)⟩
theorem N3.start (w : World) (a : Ar) (Y : Ax) (ph ep ck sp : Int) : N3 w w.heap.size (w.heap.size + 1) (w.heap.size + 2) a Y ⟨ph, ep, ck, sp⟩ (((w.alloc (.cells #[.slice Y.A a.sl.length Y.c, .slice Y.A2 a.st.length Y.c2, .int .i64 a.ow, .int .i64 a.cap, .slice Y.A3 a.dl.length Y.c3, .int .i64 a.dir.vn, .slice Y.D.A a.dir.l.length Y.D.c, .slice Y.D.A2 a.dir.F.length Y.D.c2, .int .i64 a.ep, .int .i64 a.ck, .int .i64 a.ni] 36)).alloc (.cells #[.int .i64 ph, .int .i64 ep, .int .i64 ck, .int .i64 sp] 43)).alloc (.cells #[.int .i64 0, .int .i64 0, .int .i64 0, .int .i64 0] 43)) := by
  have b1 := (Below.refl (w.alloc (.cells #[.slice Y.A a.sl.length Y.c, .slice Y.A2 a.st.length Y.c2, .int .i64 a.ow, .int .i64 a.cap, .slice Y.A3 a.dl.length Y.c3, .int .i64 a.dir.vn, .slice Y.D.A a.dir.l.length Y.D.c, .slice Y.D.A2 a.dir.F.length Y.D.c2, .int .i64 a.ep, .int .i64 a.ck, .int .i64 a.ni] 36)).heap.size (w.alloc (.cells #[.slice Y.A a.sl.length Y.c, .slice Y.A2 a.st.length Y.c2, .int .i64 a.ow, .int .i64 a.cap, .slice Y.A3 a.dl.length Y.c3, .int .i64 a.dir.vn, .slice Y.D.A a.dir.l.length Y.D.c, .slice Y.D.A2 a.dir.F.length Y.D.c2, .int .i64 a.ep, .int .i64 a.ck, .int .i64 a.ni] 36))).alloc (Nat.le_refl _) (.cells #[.int .i64 ph, .int .i64 ep, .int .i64 ck, .int .i64 sp] 43)
  have b2 := (Below.refl ((w.alloc (.cells #[.slice Y.A a.sl.length Y.c, .slice Y.A2 a.st.length Y.c2, .int .i64 a.ow, .int .i64 a.cap, .slice Y.A3 a.dl.length Y.c3, .int .i64 a.dir.vn, .slice Y.D.A a.dir.l.length Y.D.c, .slice Y.D.A2 a.dir.F.length Y.D.c2, .int .i64 a.ep, .int .i64 a.ck, .int .i64 a.ni] 36)).alloc (.cells #[.int .i64 ph, .int .i64 ep, .int .i64 ck, .int .i64 sp] 43)).heap.size ((w.alloc (.cells #[.slice Y.A a.sl.length Y.c, .slice Y.A2 a.st.length Y.c2, .int .i64 a.ow, .int .i64 a.cap, .slice Y.A3 a.dl.length Y.c3, .int .i64 a.dir.vn, .slice Y.D.A a.dir.l.length Y.D.c, .slice Y.D.A2 a.dir.F.length Y.D.c2, .int .i64 a.ep, .int .i64 a.ck, .int .i64 a.ni] 36)).alloc (.cells #[.int .i64 ph, .int .i64 ep, .int .i64 ck, .int .i64 sp] 43))).alloc (Nat.le_refl _) (.cells #[.int .i64 0, .int .i64 0, .int .i64 0, .int .i64 0] 43)
  have h1 := (NB.start (w.alloc (.cells #[.slice Y.A a.sl.length Y.c, .slice Y.A2 a.st.length Y.c2, .int .i64 a.ow, .int .i64 a.cap, .slice Y.A3 a.dl.length Y.c3, .int .i64 a.dir.vn, .slice Y.D.A a.dir.l.length Y.D.c, .slice Y.D.A2 a.dir.F.length Y.D.c2, .int .i64 a.ep, .int .i64 a.ck, .int .i64 a.ni] 36)) ⟨ph, ep, ck, sp⟩ 43).up b2
  have h2 := NB.start ((w.alloc (.cells #[.slice Y.A a.sl.length Y.c, .slice Y.A2 a.st.length Y.c2, .int .i64 a.ow, .int .i64 a.cap, .slice Y.A3 a.dl.length Y.c3, .int .i64 a.dir.vn, .slice Y.D.A a.dir.l.length Y.D.c, .slice Y.D.A2 a.dir.F.length Y.D.c2, .int .i64 a.ep, .int .i64 a.ck, .int .i64 a.ni] 36)).alloc (.cells #[.int .i64 ph, .int .i64 ep, .int .i64 ck, .int .i64 sp] 43)) zSn 43
  rw [show (w.alloc (.cells #[.slice Y.A a.sl.length Y.c, .slice Y.A2 a.st.length Y.c2, .int .i64 a.ow, .int .i64 a.cap, .slice Y.A3 a.dl.length Y.c3, .int .i64 a.dir.vn, .slice Y.D.A a.dir.l.length Y.D.c, .slice Y.D.A2 a.dir.F.length Y.D.c2, .int .i64 a.ep, .int .i64 a.ck, .int .i64 a.ni] 36)).heap.size = w.heap.size + 1 by simp] at h1
  rw [show ((w.alloc (.cells #[.slice Y.A a.sl.length Y.c, .slice Y.A2 a.st.length Y.c2, .int .i64 a.ow, .int .i64 a.cap, .slice Y.A3 a.dl.length Y.c3, .int .i64 a.dir.vn, .slice Y.D.A a.dir.l.length Y.D.c, .slice Y.D.A2 a.dir.F.length Y.D.c2, .int .i64 a.ep, .int .i64 a.ck, .int .i64 a.ni] 36)).alloc (.cells #[.int .i64 ph, .int .i64 ep, .int .i64 ck, .int .i64 sp] 43)).heap.size = w.heap.size + 2 by simp] at h2
  exact ⟨((QB.start w a Y 36).up b1).up b2, h1, h2, by omega, (((Below.refl _ _).alloc (Nat.le_refl _) _).alloc (by simp) _).alloc (by simp; omega) _⟩
/-- The loaded cells. -/
abbrev S3n (p q : Nat) (a : Ar) (Y : Ax) (s : Sn) (W : World) : Prop := K4n W p s ∧ K11 q a Y W
theorem s3_set {p q : Nat} {a : Ar} {Y : Ax} {s : Sn} {W : World} {x : Addr} (h : S3n p q a Y s W) (hp : x.block ≠ p) (hq : x.block ≠ q) (v : Value) : S3n p q a Y s (W.setCell x v) := by
  have g : ∀ (b o : Nat), x.block ≠ b → (W.setCell x v).cell? ⟨b, o, none⟩ = W.cell? ⟨b, o, none⟩ := fun b o hb => World.cell?_setCell_other W x ⟨b, o, none⟩ v (fun e => hb (by rw [e]))
  unfold S3n K4n K11 at h ⊢
  simp only [g p _ hp, g q _ hq]
  exact h
set_option maxHeartbeats 8000000 in
set_option maxRecDepth 20000 in
theorem nstep_any (a : Ar) (Y : Ax) (ph ep ck sp n : Int) (w : World) : Calls Try.prog 10 #[av a Y, .agg #[.int .i64 ph, .int .i64 ep, .int .i64 ck, .int .i64 sp], .int .i64 n] w (NE w (nsN a.ep a.ck ⟨ph, ep, ck, sp⟩ n) (nsE ⟨ph, ep, ck, sp⟩)) := by
  obtain ⟨q, hq⟩ : ∃ p, p = w.heap.size := ⟨_, rfl⟩
  obtain ⟨p, hp⟩ : ∃ p, p = w.heap.size + 1 := ⟨_, rfl⟩
  obtain ⟨r, hr⟩ : ∃ r, r = w.heap.size + 1 + 1 := ⟨_, rfl⟩
  have H0 := Lib.hid (show N3 w q p r a Y ⟨ph, ep, ck, sp⟩ _ from by rw [hr, hp, hq]; exact N3.start w a Y ph ep ck sp)
  have HPP := Lib.hid (And.intro hq (And.intro hp hr))
  clear hq hp hr
  obtain ⟨R, hR⟩ : ∃ R, R = nsN a.ep a.ck ⟨ph, ep, ck, sp⟩ n := ⟨_, rfl⟩
  obtain ⟨E, hE⟩ : ∃ E, E = nsE ⟨ph, ep, ck, sp⟩ := ⟨_, rfl⟩
  rw [← hR, ← hE]
  have HRR := Lib.hid (And.intro hR hE)
  clear hR hE
  go_enter Try.func10, Try.ntmps10
  go_upto_region 1 with (fail)
  rw [← HPP.out.2.2, ← HPP.out.2.1, ← HPP.out.1]
  generalize ((w.alloc (.cells #[.slice Y.A a.sl.length Y.c, .slice Y.A2 a.st.length Y.c2, .int .i64 a.ow, .int .i64 a.cap, .slice Y.A3 a.dl.length Y.c3, .int .i64 a.dir.vn, .slice Y.D.A a.dir.l.length Y.D.c, .slice Y.D.A2 a.dir.F.length Y.D.c2, .int .i64 a.ep, .int .i64 a.ck, .int .i64 a.ni] 36)).alloc (.cells #[.int .i64 ph, .int .i64 ep, .int .i64 ck, .int .i64 sp] 43)).alloc (.cells #[.int .i64 0, .int .i64 0, .int .i64 0, .int .i64 0] 43) = w1 at *
  obtain ⟨hR, hE⟩ := HRR.out
  clear HRR
  obtain ⟨p0, p1, p2, p3⟩ := H0.out.pb.k
  have pl := H0.out.pb.lt
  simp only at p0 p1 p2 p3
  by_cases h0 : ph = 0
  · subst h0
    have hRR : R = bgN ⟨0, ep, ck, sp⟩ a.ep := hR
    have HEE := Lib.hid (show E = 0 from hE)
    clear hE hR
    have hR := hRR
    clear hRR
    have HBL := Lib.hid (fun W (h : Below w1.heap.size w1 W) => (nload1_any a Y W).mono fun e w' h1 => show e = .returned (.int .i64 a.ep) ∧ Below w1.heap.size w1 w' from ⟨h1.1, h.trans (h1.2.mono h.size)⟩)
    have HBC := Lib.hid (show ∀ W, Below w1.heap.size w1 W → Calls Try.prog 36 #[.agg #[.int .i64 0, .int .i64 ep, .int .i64 ck, .int .i64 sp], .int .i64 a.ep] W (fun e w' => e = .returned R.v ∧ Below w1.heap.size w1 w') from fun W h => (nbegin_any 0 ep ck sp a.ep W).mono fun e w' h1 => ⟨by rw [hR]; exact h1.1, h.trans (h1.2.mono h.size)⟩)
    clear hR
    have HSK := Lib.hid (show ∀ W, Below w1.heap.size w1 W → S3n p q a Y ⟨0, ep, ck, sp⟩ W from fun W h => ⟨(H0.out.pb.up h).k, (H0.out.qb.up h).k⟩)
    have HB0 := Lib.hid (Below.refl w1.heap.size w1)
    have HNE := Lib.hid (show r ≠ p ∧ r ≠ q by have := H0.out.ne; omega)
    go_wp2_with fail
    clear p0 p1 p2 p3 pl
    go_region_held3 (fun W => S3n p q a Y ⟨0, ep, ck, sp⟩ W)
      (((repeat' (with_reducible refine s3_set ?_ HNE.out.1 HNE.out.2 _)); refine HSK.out _ ?_; repeat' (first | with_reducible exact HB0.out | with_reducible exact HB4.out | with_reducible exact HB5.out | with_reducible refine bdr ?_ | exact Nat.le_refl _ | (simp; done) | (simp; omega))))
      (first | (go_at_call 37; (with_reducible refine (HBL.out _ ?hbel).mono ?_); (case hbel => (repeat' (first | with_reducible exact HB0.out | with_reducible refine bdr ?_))); rintro e w4 ⟨rfl, hb⟩; have HB4 := Lib.hid hb; clear hb) | (go_at_call 36; (with_reducible refine (HBC.out _ ?hbel).mono ?_); (case hbel => (repeat' (first | with_reducible exact HB4.out | with_reducible refine bdr ?_))); rintro e w5 ⟨rfl, hb⟩; have HB5 := Lib.hid hb; have H1 := Lib.hid (H0.out.below hb); obtain ⟨r0, r1, r2, r3⟩ := H1.out.rb.k; have rl := H1.out.rb.lt; obtain ⟨f0, f1, f2, f3⟩ := H1.out.rb.free; simp only [zSn] at r0 r1 r2 r3; clear hb))
    all_goals
      have HF := Lib.hid (show NE w R E (.returned (.tuple #[R.v, .int .i64 0])) ((((w5.setCell ⟨r, 0, none⟩ (.int .i64 R.ph)).setCell ⟨r, 1, none⟩ (.int .i64 R.ep)).setCell ⟨r, 2, none⟩ (.int .i64 R.ck)).setCell ⟨r, 3, none⟩ (.int .i64 R.sp)) from by rw [HEE.out]; exact ⟨rfl, set4n_below H1.out.bel (show w.heap.size ≤ r by have := H1.out.ne; omega) R⟩)
      clear HEE H1 H0 HB4 HB5 HB0 HSK HBL HBC
      go_wp2
      exact bodyPost_ret (v := .tuple #[.agg #[.int .i64 R.ph, .int .i64 R.ep, .int .i64 R.ck, .int .i64 R.sp], .int .i64 0]) (by simp only [results, Try.results10]; go_simp <;> rfl) rfl HF.out
  by_cases h1 : ph = 1
  · subst h1
    clear h0
    have hRR : R = stN ⟨1, ep, ck, sp⟩ a.ck n := hR
    have HEE := Lib.hid (show E = 0 from hE)
    clear hE hR
    have hR := hRR
    clear hRR
    have HBL := Lib.hid (fun W (h : Below w1.heap.size w1 W) => (nload2_any a Y W).mono fun e w' h1 => show e = .returned (.int .i64 a.ck) ∧ Below w1.heap.size w1 w' from ⟨h1.1, h.trans (h1.2.mono h.size)⟩)
    have HBC := Lib.hid (show ∀ W, Below w1.heap.size w1 W → Calls Try.prog 38 #[.agg #[.int .i64 1, .int .i64 ep, .int .i64 ck, .int .i64 sp], .int .i64 a.ck, .int .i64 n] W (fun e w' => e = .returned R.v ∧ Below w1.heap.size w1 w') from fun W h => (nstamp_any 1 ep ck sp a.ck n W).mono fun e w' h1 => ⟨by rw [hR]; exact h1.1, h.trans (h1.2.mono h.size)⟩)
    clear hR
    have HSK := Lib.hid (show ∀ W, Below w1.heap.size w1 W → S3n p q a Y ⟨1, ep, ck, sp⟩ W from fun W h => ⟨(H0.out.pb.up h).k, (H0.out.qb.up h).k⟩)
    have HB0 := Lib.hid (Below.refl w1.heap.size w1)
    have HNE := Lib.hid (show r ≠ p ∧ r ≠ q by have := H0.out.ne; omega)
    go_wp2_with fail
    clear p0 p1 p2 p3 pl
    go_region_held3 (fun W => S3n p q a Y ⟨1, ep, ck, sp⟩ W)
      (((repeat' (with_reducible refine s3_set ?_ HNE.out.1 HNE.out.2 _)); refine HSK.out _ ?_; repeat' (first | with_reducible exact HB0.out | with_reducible exact HB4.out | with_reducible exact HB5.out | with_reducible refine bdr ?_ | exact Nat.le_refl _ | (simp; done) | (simp; omega))))
      (first | (go_at_call 37; (with_reducible refine (HBL.out _ ?hbel).mono ?_); (case hbel => (repeat' (first | with_reducible exact HB0.out | with_reducible refine bdr ?_))); rintro e w4 ⟨rfl, hb⟩; have HB4 := Lib.hid hb; clear hb) | (go_at_call 38; (with_reducible refine (HBC.out _ ?hbel).mono ?_); (case hbel => (repeat' (first | with_reducible exact HB4.out | with_reducible refine bdr ?_))); rintro e w5 ⟨rfl, hb⟩; have HB5 := Lib.hid hb; have H1 := Lib.hid (H0.out.below hb); obtain ⟨r0, r1, r2, r3⟩ := H1.out.rb.k; have rl := H1.out.rb.lt; obtain ⟨f0, f1, f2, f3⟩ := H1.out.rb.free; simp only [zSn] at r0 r1 r2 r3; clear hb))
    all_goals
      have HF := Lib.hid (show NE w R E (.returned (.tuple #[R.v, .int .i64 0])) ((((w5.setCell ⟨r, 0, none⟩ (.int .i64 R.ph)).setCell ⟨r, 1, none⟩ (.int .i64 R.ep)).setCell ⟨r, 2, none⟩ (.int .i64 R.ck)).setCell ⟨r, 3, none⟩ (.int .i64 R.sp)) from by rw [HEE.out]; exact ⟨rfl, set4n_below H1.out.bel (show w.heap.size ≤ r by have := H1.out.ne; omega) R⟩)
      clear HEE H1 H0 HB4 HB5 HB0 HSK HBL HBC
      go_wp2
      exact bodyPost_ret (v := .tuple #[.agg #[.int .i64 R.ph, .int .i64 R.ep, .int .i64 R.ck, .int .i64 R.sp], .int .i64 0]) (by simp only [results, Try.results10]; go_simp <;> rfl) rfl HF.out
  by_cases h2 : ph = 2
  · subst h2
    clear h0 h1
    have hRR : R = cmN ⟨2, ep, ck, sp⟩ a.ep := hR
    have HEE := Lib.hid (show E = 0 from hE)
    clear hE hR
    have hR := hRR
    clear hRR
    have HBL := Lib.hid (fun W (h : Below w1.heap.size w1 W) => (nload1_any a Y W).mono fun e w' h1 => show e = .returned (.int .i64 a.ep) ∧ Below w1.heap.size w1 w' from ⟨h1.1, h.trans (h1.2.mono h.size)⟩)
    have HBC := Lib.hid (show ∀ W, Below w1.heap.size w1 W → Calls Try.prog 39 #[.agg #[.int .i64 2, .int .i64 ep, .int .i64 ck, .int .i64 sp], .int .i64 a.ep] W (fun e w' => e = .returned R.v ∧ Below w1.heap.size w1 w') from fun W h => (ncompare_any 2 ep ck sp a.ep W).mono fun e w' h1 => ⟨by rw [hR]; exact h1.1, h.trans (h1.2.mono h.size)⟩)
    clear hR
    have HSK := Lib.hid (show ∀ W, Below w1.heap.size w1 W → S3n p q a Y ⟨2, ep, ck, sp⟩ W from fun W h => ⟨(H0.out.pb.up h).k, (H0.out.qb.up h).k⟩)
    have HB0 := Lib.hid (Below.refl w1.heap.size w1)
    have HNE := Lib.hid (show r ≠ p ∧ r ≠ q by have := H0.out.ne; omega)
    go_wp2_with fail
    clear p0 p1 p2 p3 pl
    go_region_held3 (fun W => S3n p q a Y ⟨2, ep, ck, sp⟩ W)
      (((repeat' (with_reducible refine s3_set ?_ HNE.out.1 HNE.out.2 _)); refine HSK.out _ ?_; repeat' (first | with_reducible exact HB0.out | with_reducible exact HB4.out | with_reducible exact HB5.out | with_reducible refine bdr ?_ | exact Nat.le_refl _ | (simp; done) | (simp; omega))))
      (first | (go_at_call 37; (with_reducible refine (HBL.out _ ?hbel).mono ?_); (case hbel => (repeat' (first | with_reducible exact HB0.out | with_reducible refine bdr ?_))); rintro e w4 ⟨rfl, hb⟩; have HB4 := Lib.hid hb; clear hb) | (go_at_call 39; (with_reducible refine (HBC.out _ ?hbel).mono ?_); (case hbel => (repeat' (first | with_reducible exact HB4.out | with_reducible refine bdr ?_))); rintro e w5 ⟨rfl, hb⟩; have HB5 := Lib.hid hb; have H1 := Lib.hid (H0.out.below hb); obtain ⟨r0, r1, r2, r3⟩ := H1.out.rb.k; have rl := H1.out.rb.lt; obtain ⟨f0, f1, f2, f3⟩ := H1.out.rb.free; simp only [zSn] at r0 r1 r2 r3; clear hb))
    all_goals
      have HF := Lib.hid (show NE w R E (.returned (.tuple #[R.v, .int .i64 0])) ((((w5.setCell ⟨r, 0, none⟩ (.int .i64 R.ph)).setCell ⟨r, 1, none⟩ (.int .i64 R.ep)).setCell ⟨r, 2, none⟩ (.int .i64 R.ck)).setCell ⟨r, 3, none⟩ (.int .i64 R.sp)) from by rw [HEE.out]; exact ⟨rfl, set4n_below H1.out.bel (show w.heap.size ≤ r by have := H1.out.ne; omega) R⟩)
      clear HEE H1 H0 HB4 HB5 HB0 HSK HBL HBC
      go_wp2
      exact bodyPost_ret (v := .tuple #[.agg #[.int .i64 R.ph, .int .i64 R.ep, .int .i64 R.ck, .int .i64 R.sp], .int .i64 0]) (by simp only [results, Try.results10]; go_simp <;> rfl) rfl HF.out
  by_cases h3 : ph = 3
  · subst h3
    clear h0 h1 h2
    have hp0 : nsN a.ep a.ck ⟨3, ep, ck, sp⟩ n = zSn ∧ nsE ⟨3, ep, ck, sp⟩ = 7 := ⟨rfl, rfl⟩
    rw [hp0.1] at hR
    rw [hp0.2] at hE
    clear hp0
    have HF := Lib.hid (show NE w R E (.returned (.tuple #[.agg #[.int .i64 0, .int .i64 0, .int .i64 0, .int .i64 0], .int .i64 7])) ((((w1.setCell ⟨r, 0, none⟩ (.int .i64 0)).setCell ⟨r, 1, none⟩ (.int .i64 0)).setCell ⟨r, 2, none⟩ (.int .i64 0)).setCell ⟨r, 3, none⟩ (.int .i64 0)) from by rw [hR, hE]; exact ⟨rfl, set4n_below H0.out.bel (show w.heap.size ≤ r by have := H0.out.ne; omega) zSn⟩)
    clear hR hE
    obtain ⟨r0, r1, r2, r3⟩ := H0.out.rb.k
    have rl := H0.out.rb.lt
    obtain ⟨f0, f1, f2, f3⟩ := H0.out.rb.free
    simp only [zSn] at r0 r1 r2 r3
    have hpr : ¬ p = r := by have := H0.out.ne; omega
    have hrp : ¬ r = p := fun e => hpr e.symm
    clear H0
    go_wp2
    exact bodyPost_ret (v := .tuple #[.agg #[.int .i64 0, .int .i64 0, .int .i64 0, .int .i64 0], .int .i64 7]) (by simp only [results, Try.results10]; go_simp <;> rfl) rfl HF.out
  · skip
    have hp0 : nsN a.ep a.ck ⟨ph, ep, ck, sp⟩ n = zSn ∧ nsE ⟨ph, ep, ck, sp⟩ = 1 := ⟨by simp [nsN, h0, h1, h2], by simp [nsE, h0, h1, h2, h3]⟩
    rw [hp0.1] at hR
    rw [hp0.2] at hE
    clear hp0
    have HF := Lib.hid (show NE w R E (.returned (.tuple #[.agg #[.int .i64 0, .int .i64 0, .int .i64 0, .int .i64 0], .int .i64 1])) ((((w1.setCell ⟨r, 0, none⟩ (.int .i64 0)).setCell ⟨r, 1, none⟩ (.int .i64 0)).setCell ⟨r, 2, none⟩ (.int .i64 0)).setCell ⟨r, 3, none⟩ (.int .i64 0)) from by rw [hR, hE]; exact ⟨rfl, set4n_below H0.out.bel (show w.heap.size ≤ r by have := H0.out.ne; omega) zSn⟩)
    clear hR hE
    obtain ⟨r0, r1, r2, r3⟩ := H0.out.rb.k
    have rl := H0.out.rb.lt
    obtain ⟨f0, f1, f2, f3⟩ := H0.out.rb.free
    simp only [zSn] at r0 r1 r2 r3
    have hpr : ¬ p = r := by have := H0.out.ne; omega
    have hrp : ¬ r = p := fun e => hpr e.symm
    have b0 : (ph == 0) = false := beq_eq_false_iff_ne.2 h0
    have b1 : (ph == 1) = false := beq_eq_false_iff_ne.2 h1
    have b2 : (ph == 2) = false := beq_eq_false_iff_ne.2 h2
    have b3 : (ph == 3) = false := beq_eq_false_iff_ne.2 h3
    clear h0 h1 h2 h3
    clear H0
    go_wp2
    exact bodyPost_ret (v := .tuple #[.agg #[.int .i64 0, .int .i64 0, .int .i64 0, .int .i64 0], .int .i64 1]) (by simp only [results, Try.results10]; go_simp <;> rfl) rfl HF.out
end Go.Proofs.Ytijpflljopckiaa
