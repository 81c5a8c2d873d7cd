/- What is proved here: ref13.Free by a contract; plain: ref13.Step's boxes; locker.New, ref13.New by contracts; ref13.New by a contract; Stripes of the statements' base; what a source and a row of stripes keep; arena.StoreSlot by a task that has not locked the slot, arena.StoreStripe, by contracts. -/
import Derived.Test.YtijpflljopckiaaJ37
import Derived.Test.YtijpflljopckiaaJ39
import Derived.Deep.DeepCutAuto
import Derived.Deep.RegionHeld3
import Derived.Deep.QuietTactic
import Derived.BigQuiet
import Derived.Test.YtijpflljopckiaaJ13
import Derived.Test.YtijpflljopckiaaJ02
import Derived.Deep.AppendLies
import Derived.Test.YtijpflljopckiaaJ30
import Derived.Test.YtijpflljopckiaaJ36
import Derived.Test.YtijpflljopckiaaJ28
namespace Go.Proofs.Ytijpflljopckiaa
open Go.RowKit
set_option linter.unusedVariables false

/-- A locker and an error as results, the cells lying where an argument's lie. -/
def LEn (n : Nat) (A : Option Addr) (w : World) (l : Lk) (x : Int) (e : Ending) (w' : World) : Prop := ∃ A' c, e = .returned (.tuple #[lv l A' c, .int .i64 x]) ∧ (∀ p0, OffB p0 n A → OffB p0 l.cs.length A') ∧ Fl w' w'.heap.size (.slice A' l.cs.length c) l.cs ∧ Below w.heap.size w w'
theorem len_out {n : Nat} {A0 : Option Addr} {w W : World} {r : Nat} {l : Lk} {A : Option Addr} {c : Nat} (hr : w.heap.size ≤ r) (hb : Below w.heap.size w W) (ho : OffB r l.cs.length A) (hl : Fl W W.heap.size (.slice A l.cs.length c) l.cs) (hof : ∀ p0, OffB p0 n A0 → OffB p0 l.cs.length A) (x : Int) : LEn n A0 w l x (.returned (.tuple #[lv l A c, .int .i64 x])) (set5 W r l A c) :=
  ⟨A, c, rfl, hof, (hl.set5 ho l A c).more (by rw [set5_size]; exact Nat.le_refl _), set5_below hb hr l A c⟩
set_option maxHeartbeats 2000000 in
set_option maxRecDepth 20000 in
theorem rfree13_any (l : Lk) (A : Option Addr) (c : Nat) (w : World) (hf : Fl w w.heap.size (.slice A l.cs.length c) l.cs) : Calls Try.prog 23 #[lv l A c] w (LEn l.cs.length A w (frL l) (frE l)) := by
  have H0 := Lib.hid (Jb.start w l A c)
  have HF0 := Lib.hid ((hf.alloc2 (.cells #[.slice A l.cs.length c, .int .i64 l.ph, .int .i64 l.hv, .int .i64 l.tr, .int .i64 l.wt] 60)).alloc2 (.cells #[.slice none 0 0, .int .i64 0, .int .i64 0, .int .i64 0, .int .i64 0] 60))
  have HO := Lib.hid (fun p (hp : w.heap.size ≤ p) => rd_off (p := p) hf.rd hp)
  obtain ⟨p, hp⟩ : ∃ p, p = w.heap.size := ⟨_, rfl⟩
  obtain ⟨r, hr⟩ : ∃ r, r = w.heap.size + 1 := ⟨_, rfl⟩
  have HPP := Lib.hid (And.intro hp hr)
  rw [← hr] at H0
  have H0 := Lib.hid (show Jb w p r l zK A none c 0 _ from by rw [hp]; exact H0.out)
  obtain ⟨M, hM⟩ : ∃ M, M = frL l := ⟨_, rfl⟩
  obtain ⟨E, hE⟩ : ∃ E, E = frE l := ⟨_, rfl⟩
  rw [← hM, ← hE]
  by_cases h3 : l.ph = 3
  · have HM := Lib.hid (show M = ⟨l.cs, 4, l.hv, l.tr, l.wt⟩ from by rw [hM]; exact if_pos h3)
    have HE := Lib.hid (show E = 0 from by rw [hE]; exact if_pos h3)
    have hb : (l.ph != 3) = false := by simp [h3]
    clear hp hr hM hE h3 hf
    go_enter Try.func23, Try.ntmps23
    go_upto_region 1 with (fail)
    rw [← HPP.out.2, ← HPP.out.1]
    generalize ((w.alloc (.cells #[.slice A l.cs.length c, .int .i64 l.ph, .int .i64 l.hv, .int .i64 l.tr, .int .i64 l.wt] 60)).alloc (.cells #[.slice none 0 0, .int .i64 0, .int .i64 0, .int .i64 0, .int .i64 0] 60)) = w1 at *
    obtain ⟨y0, y1, y2, y3, y4⟩ := H0.out.pb.k
    have yl := H0.out.pb.lt
    obtain ⟨f0, f1, f2, f3, f4⟩ := H0.out.pb.free
    obtain ⟨r0, r1, r2, r3, r4⟩ := H0.out.rb.k
    have rl := H0.out.rb.lt
    obtain ⟨g0, g1, g2, g3, g4⟩ := H0.out.rb.free
    have hpr : ¬ p = r := by have := H0.out.ne; omega
    have hrp : ¬ r = p := fun e => hpr e.symm
    go_upto_region 4 with (fail)
    clear y0 y1 y2 y3 y4 yl f0 f1 f2 f3 f4 r0 r1 r2 r3 r4 rl g0 g1 g2 g3 g4 hpr hrp
    have H2 := Lib.hid (H0.out.setP 4)
    have HL := Lib.hid ((HF0.out.offb (p := ⟨p, 1, none⟩) (HO.out p (by have := H0.out.ne; omega)) (.int .i64 4)).more (B' := (w1.setCell ⟨p, 1, none⟩ (.int .i64 4)).heap.size) (by simp))
    have HMC := Lib.hid (show M.cs = l.cs from by rw [HM.out])
    rw [← HM.out] at H2
    have HL := Lib.hid (show Fl _ _ (.slice A M.cs.length c) M.cs from by rw [HMC.out]; exact HL.out)
    clear H0 HF0
    generalize (w1.setCell ⟨p, 1, none⟩ (.int .i64 4)) = w2 at *
    have HF := Lib.hid (show LEn l.cs.length A w M E (.returned (.tuple #[lv M A c, .int .i64 0])) (set5 w2 r M A c) from by rw [HE.out]; exact len_out (show w.heap.size ≤ r by have := H2.out.ne; omega) H2.out.bel (by rw [HMC.out]; exact HO.out r (by have := H2.out.ne; omega)) HL.out (fun p0 h => by rw [HMC.out]; exact h) 0)
    obtain ⟨y0, y1, y2, y3, y4⟩ := H2.out.pb.k
    have yl := H2.out.pb.lt
    obtain ⟨f0, f1, f2, f3, f4⟩ := H2.out.pb.free
    obtain ⟨r0, r1, r2, r3, r4⟩ := H2.out.rb.k
    have rl := H2.out.rb.lt
    obtain ⟨g0, g1, g2, g3, g4⟩ := H2.out.rb.free
    have hpr : ¬ p = r := by have := H2.out.ne; omega
    have hrp : ¬ r = p := fun e => hpr e.symm
    clear H2 HL
    go_wp2
    exact bodyPost_ret (v := .tuple #[lv M A c, .int .i64 0]) (by simp only [results, Try.results23]; go_simp <;> rfl) rfl HF.out
  · have HM := Lib.hid (show M = zK from by rw [hM]; exact if_neg h3)
    have HE := Lib.hid (show E = 7 from by rw [hE]; exact if_neg h3)
    have hb : (l.ph != 3) = true := by simp [h3]
    clear hp hr hM hE h3 hf
    go_enter Try.func23, Try.ntmps23
    go_upto_region 1 with (fail)
    rw [← HPP.out.2, ← HPP.out.1]
    generalize ((w.alloc (.cells #[.slice A l.cs.length c, .int .i64 l.ph, .int .i64 l.hv, .int .i64 l.tr, .int .i64 l.wt] 60)).alloc (.cells #[.slice none 0 0, .int .i64 0, .int .i64 0, .int .i64 0, .int .i64 0] 60)) = w1 at *
    have HF := Lib.hid (show LEn l.cs.length A w M E (.returned (.tuple #[lv zK none 0, .int .i64 7])) (set5 w1 r zK none 0) from by rw [HE.out, HM.out]; exact len_out (l := zK) (show w.heap.size ≤ r by have := H0.out.ne; omega) H0.out.bel (offb_0 _ _) (Fl.nil) (fun p0 h => offb_0 _ _) 7)
    obtain ⟨y0, y1, y2, y3, y4⟩ := H0.out.pb.k
    have yl := H0.out.pb.lt
    obtain ⟨f0, f1, f2, f3, f4⟩ := H0.out.pb.free
    obtain ⟨r0, r1, r2, r3, r4⟩ := H0.out.rb.k
    have rl := H0.out.rb.lt
    obtain ⟨g0, g1, g2, g3, g4⟩ := H0.out.rb.free
    have hpr : ¬ p = r := by have := H0.out.ne; omega
    have hrp : ¬ r = p := fun e => hpr e.symm
    clear H0 HF0
    go_wp2
    exact bodyPost_ret (v := .tuple #[.agg #[.slice none 0 0, .int .i64 0, .int .i64 0, .int .i64 0, .int .i64 0], .int .i64 7]) (by simp only [results, Try.results23]; go_simp <;> rfl) rfl HF.out
theorem ctF_nat {cs : List Int} {n : Nat} (h : n < cs.length) : ctF cs (n : Int) = ig cs n := by unfold ctF; rw [if_pos (by omega)]; rfl
/-- What Step of the reference gives. -/
def RS13 (w : World) (a : Ar) (Y : Ax) (n : Nat) (A : Option Addr) (a' : Ar) (l' : Lk) (x : Int) (e : Ending) (w' : World) : Prop := ∃ Y' A' c', e = .returned (.tuple #[av a' Y', lv l' A' c', .int .i64 x]) ∧ AR w' w'.heap.size a' Y' ∧ (∀ p0, p0 < w.heap.size → AOff a Y p0 → AOff a' Y' p0) ∧ Fl w' w'.heap.size (.slice A' l'.cs.length c') l'.cs ∧ (∀ p0, OffB p0 n A → OffB p0 l'.cs.length A') ∧ Below w.heap.size w w'
theorem RS13.drew {w W : World} {a a' : Ar} {Y : Ax} {n : Nat} {A : Option Addr} {l' : Lk} {x : Int} {e : Ending} (h : RS13 w a Y n A a' l' x e W) : RS13 w a Y n A a' l' x e W.drew := by
  obtain ⟨Y', A', c', rfl, h1, h2, h3, h4, h5⟩ := h
  have hd := (Below.refl W.heap.size W).drew
  exact ⟨Y', A', c', rfl, h1.up hd, h2, h3.up hd, h4, h5.trans (hd.mono h5.size)⟩
theorem rs_out {w W : World} {r s n : Nat} {a a' : Ar} {Y Y' : Ax} {l' : Lk} {A A' : Option Addr} {c' : Nat} {x : Int} (hr : w.heap.size ≤ r) (hs : w.heap.size ≤ s) (hb : Below w.heap.size w W) (har : AR W W.heap.size a' Y') (ho : AOff a' Y' r ∧ AOff a' Y' s) (hof : ∀ p0, p0 < w.heap.size → AOff a Y p0 → AOff a' Y' p0) (hf : Fl W W.heap.size (.slice A' l'.cs.length c') l'.cs) (hlo : OffB r l'.cs.length A' ∧ OffB s l'.cs.length A') (hlf : ∀ p0, OffB p0 n A → OffB p0 l'.cs.length A') :
    RS13 w a Y n A a' l' x (.returned (.tuple #[av a' Y', lv l' A' c', .int .i64 x])) (set5 (set11 W r a' Y') s l' A' c') :=
  ⟨Y', A', c', rfl, ((har.set11 ho.1 a' Y').set5 ho.2 l' A' c').more (by rw [set5_size, set11_size]; exact Nat.le_refl _), hof, ((hf.set11 hlo.1 a' Y').set5 hlo.2 l' A' c').more (by rw [set5_size, set11_size]; exact Nat.le_refl _), hlf, set5_below (set11_below hb hr a' Y') hs l' A' c'⟩
/-- .. its boxes behind a call: another arena in a box x. -/
structure Jr (w : World) (p q r s x : Nat) (a : Ar) (Y : Ax) (l : Lk) (A : Option Addr) (c : Nat) (b : Ar) (Z : Ax) (W : World) : Prop where
  js : Js w p q r s a Y l A c W
  xb : QB W x b Z
  xr : AR W W.heap.size b Z
  xo : AOff b Z q ∧ AOff b Z r ∧ AOff b Z s
  of : ∀ p0, p0 < w.heap.size → AOff a Y p0 → AOff b Z p0
  lt : s < x
section
variable {w w1 W w4 : World} {p q r s x : Nat} {a b : Ar} {Y Z : Ax} {l m : Lk} {A : Option Addr} {c : Nat}
theorem jr_after (H : Js w p q r s a Y l A c w1) (h1 : Below w1.heap.size w1 W) (hr : AR w4 w4.heap.size b Z) (ho : ∀ p0, p0 < W.heap.size → AOff a Y p0 → AOff b Z p0) (hb : Below W.heap.size W w4) :
    Jr w p q r s w4.heap.size a Y l A c b Z (w4.alloc (.cells #[.slice Z.A b.sl.length Z.c, .slice Z.A2 b.st.length Z.c2, .int .i64 b.ow, .int .i64 b.cap, .slice Z.A3 b.dl.length Z.c3, .int .i64 b.dir.vn, .slice Z.D.A b.dir.l.length Z.D.c, .slice Z.D.A2 b.dir.F.length Z.D.c2, .int .i64 b.ep, .int .i64 b.ck, .int .i64 b.ni] 36)) := by
  have h4 := h1.trans (hb.mono h1.size)
  have hs := h4.size
  have hl := H.sb.lt
  have hne := H.ne
  have hlt : ∀ z, z ≤ s → z < W.heap.size := fun z hz => by have := h1.size; omega
  exact ⟨(H.below h4).below ((Below.refl _ _).alloc (Nat.le_refl _) _), QB.start w4 b Z _, hr.alloc _, ⟨ho _ (hlt _ (by omega)) H.ao.2.1, ho _ (hlt _ (by omega)) H.ao.2.2.1, ho _ (hlt _ (by omega)) H.ao.2.2.2⟩, fun p0 hp h => ho p0 (by have := h1.size; have := H.bel.size; omega) h, by omega⟩
theorem jr_before (H : Js w p q r s a Y l A c w1) (hr : AR w4 w4.heap.size b Z) (ho : ∀ p0, p0 < (w1.alloc (.cells #[.slice none 0 0, .slice none 0 0, .int .i64 0, .int .i64 0, .slice none 0 0, .int .i64 0, .slice none 0 0, .slice none 0 0, .int .i64 0, .int .i64 0, .int .i64 0] 36)).drew.heap.size → AOff a Y p0 → AOff b Z p0) (hb : Below (w1.alloc (.cells #[.slice none 0 0, .slice none 0 0, .int .i64 0, .int .i64 0, .slice none 0 0, .int .i64 0, .slice none 0 0, .slice none 0 0, .int .i64 0, .int .i64 0, .int .i64 0] 36)).drew.heap.size (w1.alloc (.cells #[.slice none 0 0, .slice none 0 0, .int .i64 0, .int .i64 0, .slice none 0 0, .int .i64 0, .slice none 0 0, .slice none 0 0, .int .i64 0, .int .i64 0, .int .i64 0] 36)).drew w4) :
    QB w4 w1.heap.size zA zAx ∧ Jr w p q r s w1.heap.size a Y l A c b Z (set11 w4 w1.heap.size b Z) := by
  have h1 : Below w1.heap.size w1 (w1.alloc (.cells #[.slice none 0 0, .slice none 0 0, .int .i64 0, .int .i64 0, .slice none 0 0, .int .i64 0, .slice none 0 0, .slice none 0 0, .int .i64 0, .int .i64 0, .int .i64 0] 36)).drew := ((Below.refl _ _).alloc (Nat.le_refl _) _).drew
  have h4 := h1.trans (hb.mono h1.size)
  have hl := H.sb.lt
  have hne := H.ne
  have e : (w1.alloc (.cells #[.slice none 0 0, .slice none 0 0, .int .i64 0, .int .i64 0, .slice none 0 0, .int .i64 0, .slice none 0 0, .slice none 0 0, .int .i64 0, .int .i64 0, .int .i64 0] 36)).drew.heap.size = w1.heap.size + 1 := by simp
  have hq : QB w4 w1.heap.size zA zAx := ((QB.start w1 zA zAx _).up ((Below.refl _ _).drew)).up hb
  rw [e] at ho
  have hw := H.bel.size
  exact ⟨hq, H.below (set11_below h4 (Nat.le_refl _) b Z), hq.set b Z, (hr.set11 (ho _ (by omega) (H.ar.offs (Nat.le_refl _))) b Z).more (by rw [set11_size]; exact Nat.le_refl _), ⟨ho _ (by omega) H.ao.2.1, ho _ (by omega) H.ao.2.2.1, ho _ (by omega) H.ao.2.2.2⟩, fun p0 hp h => ho p0 (by omega) h, hl⟩
theorem Jr.setC (h : Jr w p q r s x a Y l A c b Z W) {j : Nat} {v : Value} (hc : m.cs = l.cs) (hq : LB (W.setCell ⟨q, j, none⟩ v) q m A c) : Jr w p q r s x a Y m A c b Z (W.setCell ⟨q, j, none⟩ v) := by
  have hne := h.js.ne
  have hlt := h.lt
  exact ⟨h.js.setC hc hq, h.xb.other (x := ⟨q, j, none⟩) (show q ≠ x by omega) v, (h.xr.offp (q := ⟨q, j, none⟩) h.xo.1 v).more (by simp), h.xo, h.of, h.lt⟩
end
end Go.Proofs.Ytijpflljopckiaa
namespace Go.Proofs.Ytijpflljopckiaa
open Go.RowKit
set_option linter.unusedVariables false

/-- The cells ascend from a number on. -/
def ascB : Int → List Int → Bool
  | _, [] => true
  | b, x :: t => decide (b < x ∧ x ≤ 6) && ascB x t
def nwE13 (cs : List Int) : Int := if cs.length < 1 ∨ 3 < cs.length then 2 else if ascB (-1) cs = true then 0 else 1
def nwL13 (cs : List Int) : Lk := if nwE13 cs = 0 then ⟨cs, 0, 0, 0, 0⟩ else zK
theorem asc_at {cs : List Int} {k : Nat} {v : Int} (hk : k < cs.length) : ascB v (cs.drop k) = (decide (v < ig cs k ∧ ig cs k ≤ 6) && ascB (ig cs k) (cs.drop (k + 1))) := by
  rw [List.drop_eq_getElem_cons hk]
  have e : ig cs k = cs[k] := by simp [ig, List.getD, hk]
  rw [e]
  rfl
theorem asc_end {cs : List Int} {v : Int} : ascB v (cs.drop cs.length) = true := by rw [List.drop_length]; rfl
theorem LB.zero (w : World) (t : TypeId) : LB (w.alloc (.cells #[.slice none 0 0, .int .i64 0, .int .i64 0, .int .i64 0, .int .i64 0] t)) w.heap.size zK none 0 := LB.start w zK none 0 t
/-- A result's box, the argument, the world. -/
structure Jn (w : World) (r : Nat) (cs : List Int) (A : Option Addr) (c : Nat) (W : World) : Prop where
  rb : LB W r zK none 0
  fl : Fl W w.heap.size (.slice A cs.length c) cs
  old : w.heap.size ≤ r
  bel : Below w.heap.size w W
section
variable {w W W' : World} {r : Nat} {cs : List Int} {A : Option Addr} {c : Nat}
theorem Jn.below (h : Jn w r cs A c W) (hb : Below W.heap.size W W') : Jn w r cs A c W' := ⟨h.rb.up hb, h.fl.below (hb.mono h.bel.size), h.old, h.bel.trans (hb.mono h.bel.size)⟩
theorem Jn.start (h : Fl w w.heap.size (.slice A cs.length c) cs) : Jn w w.heap.size cs A c (w.alloc (.cells #[.slice none 0 0, .int .i64 0, .int .i64 0, .int .i64 0, .int .i64 0] 60)) := ⟨LB.zero w _, h.alloc (Nat.le_refl _) _, Nat.le_refl _, (Below.refl _ _).alloc (Nat.le_refl _) _⟩
end
set_option maxHeartbeats 4000000 in
set_option maxRecDepth 20000 in
theorem jnew_any (A : Option Addr) (c : Nat) (cs : List Int) (w : World) (hf : Fl w w.heap.size (.slice A cs.length c) cs) : Calls Try.prog 18 #[.slice A cs.length c] w (LE w (nwL13 cs) (nwE13 cs)) := by
  obtain ⟨r, hr⟩ : ∃ r, r = w.heap.size := ⟨_, rfl⟩
  have H0 := Lib.hid (show Jn w r cs A c _ from by rw [hr]; exact Jn.start hf)
  have HPP := Lib.hid hr
  obtain ⟨E, hE⟩ : ∃ E, E = nwE13 cs := ⟨_, rfl⟩
  obtain ⟨M, hM⟩ : ∃ M, M = nwL13 cs := ⟨_, rfl⟩
  rw [← hE, ← hM]
  have hMZ : E ≠ 0 → M = zK := fun h => by rw [hM]; exact if_neg (by rw [← hE]; exact h)
  have HMZ := Lib.hid hMZ
  by_cases hl : cs.length < 1 ∨ 3 < cs.length
  · have HE := Lib.hid (show E = 2 from by rw [hE]; exact if_pos hl)
    have HF := Lib.hid (fun W (k : Jn w r cs A c W) => show LE w M E (.returned (.tuple #[lv zK none 0, .int .i64 2])) (set5 W r zK none 0) from by rw [HMZ.out (by rw [HE.out]; decide), HE.out]; exact le_out k.old k.bel (nw_none (lo := r + 1)) Fl.nil 2)
    clear hr hE hM hMZ hf
    rcases hl with h1 | h3
    · have h1' : (cs.length : Int) < 1 := by omega
      clear h1
      go_enter Try.func18, Try.ntmps18
      go_upto_region 1 with (fail)
      rw [← HPP.out]
      generalize (w.alloc (.cells #[.slice none 0 0, .int .i64 0, .int .i64 0, .int .i64 0, .int .i64 0] 60)) = w1 at *
      have HF := Lib.hid (HF.out _ H0.out)
      obtain ⟨r0, r1, r2, r3, r4⟩ := H0.out.rb.k
      have rl := H0.out.rb.lt
      obtain ⟨g0, g1, g2, g3, g4⟩ := H0.out.rb.free
      clear H0
      go_wp2
      exact bodyPost_ret (v := .tuple #[.agg #[.slice none 0 0, .int .i64 0, .int .i64 0, .int .i64 0, .int .i64 0], .int .i64 2]) (by simp only [results, Try.results18]; go_simp <;> rfl) rfl HF.out
    · have h1' : ¬ (cs.length : Int) < 1 := by omega
      have h3' : (3 : Int) < (cs.length : Int) := by omega
      clear h3
      go_enter Try.func18, Try.ntmps18
      go_upto_region 1 with (fail)
      rw [← HPP.out]
      generalize (w.alloc (.cells #[.slice none 0 0, .int .i64 0, .int .i64 0, .int .i64 0, .int .i64 0] 60)) = w1 at *
      have HF := Lib.hid (HF.out _ H0.out)
      obtain ⟨r0, r1, r2, r3, r4⟩ := H0.out.rb.k
      have rl := H0.out.rb.lt
      obtain ⟨g0, g1, g2, g3, g4⟩ := H0.out.rb.free
      clear H0
      go_wp2
      exact bodyPost_ret (v := .tuple #[.agg #[.slice none 0 0, .int .i64 0, .int .i64 0, .int .i64 0, .int .i64 0], .int .i64 2]) (by simp only [results, Try.results18]; go_simp <;> rfl) rfl HF.out
  · have h1' : ¬ (cs.length : Int) < 1 := by omega
    have h3' : ¬ (3 : Int) < (cs.length : Int) := by omega
    have HLN := Lib.hid (show 1 ≤ cs.length ∧ cs.length ≤ 3 from by omega)
    have HE := Lib.hid (show E = if ascB (-1) cs = true then 0 else 1 from by rw [hE]; exact if_neg hl)
    have HM := Lib.hid (show E = 0 → M = ⟨cs, 0, 0, 0, 0⟩ from fun h => by rw [hM]; exact if_pos (by rw [← hE]; exact h))
    have HCL := Lib.hid (fun W (k : Jn w r cs A c W) => (niclone_any A cs.length c cs W (k.fl.more k.bel.size) (by omega)).mono fun _ _ h => niclp_flv h)
    have HF0 := Lib.hid (fun (hx : ascB (-1) cs = false) W (k : Jn w r cs A c W) => show LE w M E (.returned (.tuple #[lv zK none 0, .int .i64 1])) (set5 W r zK none 0) from by
      have e1 : E = 1 := by rw [HE.out, hx]; rfl
      rw [HMZ.out (by rw [e1]; decide), e1]
      exact le_out k.old k.bel (nw_none (lo := r + 1)) Fl.nil 1)
    clear hr hE hM hMZ hl hf
    go_enter Try.func18, Try.ntmps18
    go_upto_region 1 with (fail)
    rw [← HPP.out]
    generalize (w.alloc (.cells #[.slice none 0 0, .int .i64 0, .int .i64 0, .int .i64 0, .int .i64 0] 60)) = w1 at *
    go_wp2
    clear h1' h3'
    go_loopw [4, 18] (fun b i wr => ∃ (k : Nat) (v : Int), k ≤ cs.length ∧ i = .int .i64 k ∧ b = .int .i64 v ∧ Hid (ascB (-1) cs = ascB v (cs.drop k) ∧ Jn w r cs A c wr)) (fun _ i _ => cs.length - (intOf i).toNat)
    case atStart => exact ⟨0, -1, by omega, rfl, rfl, Lib.hid ⟨rfl, H0.out⟩⟩
    case round =>
      clear H0
      obtain ⟨k, v, hk, rfl, rfl, H⟩ := hrel
      by_cases hlt : k < cs.length
      · have hlt' : (k : Int) < (cs.length : Int) := by omega
        have hk0 : (0 : Int) ≤ (k : Int) := by omega
        have hw2 : IntKind.i64.wrap ((k : Int) + 1) = (k : Int) + 1 := IntWalk.i64_in _ (by have := HLN.out; omega)
        have HA := Lib.hid (H.out.1.trans (asc_at hlt))
        obtain ⟨b, o, hA, hbl, c0⟩ := H.out.2.fl.atg hlt
        have hAe : A = some ⟨b, o, none⟩ := hA
        subst hAe
        generalize ig cs k = x at *
        by_cases h2 : x ≤ v
        · have HF := Lib.hid (HF0.out (by rw [HA.out]; simp; omega) _ H.out.2)
          obtain ⟨r0, r1, r2, r3, r4⟩ := H.out.2.rb.k
          have rl := H.out.2.rb.lt
          obtain ⟨g0, g1, g2, g3, g4⟩ := H.out.2.rb.free
          clear HA H
          go_wp2
          exact bodyPost_ret (v := .tuple #[.agg #[.slice none 0 0, .int .i64 0, .int .i64 0, .int .i64 0, .int .i64 0], .int .i64 1]) (by simp only [results, Try.results18]; go_simp <;> rfl) rfl HF.out
        · by_cases h6 : 6 < x
          · have HF := Lib.hid (HF0.out (by rw [HA.out]; simp; omega) _ H.out.2)
            obtain ⟨r0, r1, r2, r3, r4⟩ := H.out.2.rb.k
            have rl := H.out.2.rb.lt
            obtain ⟨g0, g1, g2, g3, g4⟩ := H.out.2.rb.free
            clear HA H
            go_wp2
            exact bodyPost_ret (v := .tuple #[.agg #[.slice none 0 0, .int .i64 0, .int .i64 0, .int .i64 0, .int .i64 0], .int .i64 1]) (by simp only [results, Try.results18]; go_simp <;> rfl) rfl HF.out
          · have HN := Lib.hid (show ascB (-1) cs = ascB x (cs.drop (k + 1)) ∧ Jn w r cs (some ⟨b, o, none⟩) c wr from ⟨by rw [HA.out]; simp; omega, H.out.2⟩)
            clear HA H
            go_wp2
            go_roundw
            case rel => exact ⟨k + 1, x, by omega, by go_num, rfl, HN⟩
            case measure => simp [intOf]; omega
      · obtain rfl : k = cs.length := by omega
        have HE0 := Lib.hid (show E = 0 from by rw [HE.out, H.out.1, asc_end]; rfl)
        have HM := Lib.hid (HM.out HE0.out)
        have HJ := Lib.hid H.out.2
        clear H
        go_wp2_with fail
        refine (HCL.out _ HJ.out).mono ?_
        rintro e w2 ⟨A2, c2, rfl, hn, hl, hb⟩
        have HJ2 := Lib.hid (HJ.out.below hb)
        have HF := Lib.hid (show LE w M E (.returned (.tuple #[lv ⟨cs, 0, 0, 0, 0⟩ A2 c2, .int .i64 0])) (set5 w2 r ⟨cs, 0, 0, 0, 0⟩ A2 c2) from by rw [HE0.out, HM.out]; exact le_out (l := ⟨cs, 0, 0, 0, 0⟩) HJ2.out.old HJ2.out.bel (nw_low hn (show r + 1 ≤ _ from HJ.out.rb.lt)) hl 0)
        clear hn hl hb HJ
        obtain ⟨r0, r1, r2, r3, r4⟩ := HJ2.out.rb.k
        have rl := HJ2.out.rb.lt
        obtain ⟨g0, g1, g2, g3, g4⟩ := HJ2.out.rb.free
        clear HJ2
        go_wp2
        exact bodyPost_ret (v := .tuple #[.agg #[.slice A2 cs.length c2, .int .i64 0, .int .i64 0, .int .i64 0, .int .i64 0], .int .i64 0]) (by simp only [results, Try.results18]; go_simp <;> rfl) rfl HF.out
end Go.Proofs.Ytijpflljopckiaa
namespace Go.Proofs.Ytijpflljopckiaa
open Go.RowKit
set_option linter.unusedVariables false

theorem Jn.drewN {w W : World} {r : Nat} {cs : List Int} {A : Option Addr} {c : Nat} (h : Jn w r cs A c W) (k : Nat) : Jn w r cs A c (W.drewN k) := h.below (bel_drewN (Below.refl _ _) k)
theorem jn_end {w w1 w2 : World} {r : Nat} {cs : List Int} {A : Option Addr} {c : Nat} {v : Value} (H : Jn w r cs A c w1) (hown : w2.ownsRow w1.heap.size 3 1 v (0 + cs.length) ([] ++ ics cs)) (hg : w1.grownBy w2 none) : ∃ A2 c2, v = .slice A2 cs.length c2 ∧ Nw (r + 1) A2 ∧ Fl w2 w2.heap.size (.slice A2 cs.length c2) cs ∧ Jn w r cs A c w2 := by
  rw [Nat.zero_add, List.nil_append] at hown
  have hb := (Below.refl w1.heap.size w1).grown hg (Nat.le_refl _) (fun k hk => by cases hk)
  obtain ⟨A2, c2, rfl⟩ := own_form hown
  exact ⟨A2, c2, rfl, nw_low (nwv_of (nwv_own hown (Nat.le_refl _))) (show r + 1 ≤ _ from H.rb.lt), Fl.of_own hown, H.below hb⟩
theorem LE.at_ {w W : World} {l : Lk} {x : Int} {e : Ending} (h : LE w l x e W) : LE w l x e W := h
set_option maxHeartbeats 4000000 in
set_option maxRecDepth 20000 in
theorem rnew13_any (A : Option Addr) (c : Nat) (cs : List Int) (w : World) (hf : Fl w w.heap.size (.slice A cs.length c) cs) : Calls Try.prog 19 #[.slice A cs.length c] w (LE w (nwL13 cs) (nwE13 cs)) := by
  obtain ⟨r, hr⟩ : ∃ r, r = w.heap.size := ⟨_, rfl⟩
  have H0 := Lib.hid (show Jn w r cs A c _ from by rw [hr]; exact Jn.start hf)
  have HPP := Lib.hid hr
  obtain ⟨E, hE⟩ : ∃ E, E = nwE13 cs := ⟨_, rfl⟩
  obtain ⟨M, hM⟩ : ∃ M, M = nwL13 cs := ⟨_, rfl⟩
  rw [← hE, ← hM]
  have hMZ : E ≠ 0 → M = zK := fun h => by rw [hM]; exact if_neg (by rw [← hE]; exact h)
  have HMZ := Lib.hid hMZ
  by_cases hl : cs.length < 1 ∨ 3 < cs.length
  · have HE := Lib.hid (show E = 2 from by rw [hE]; exact if_pos hl)
    have HF := Lib.hid (fun W (k : Jn w r cs A c W) => show LE w M E (.returned (.tuple #[lv zK none 0, .int .i64 2])) (set5 W r zK none 0) from by rw [HMZ.out (by rw [HE.out]; decide), HE.out]; exact le_out k.old k.bel (nw_none (lo := r + 1)) Fl.nil 2)
    clear hr hE hM hMZ hf
    rcases hl with h1 | h3
    · have h1' : ((cs.length : Int) == 0) = true := by simp; exact List.length_eq_zero_iff.1 (by omega)
      clear h1
      go_enter Try.func19, Try.ntmps19
      go_upto_region 1 with (fail)
      rw [← HPP.out]
      generalize (w.alloc (.cells #[.slice none 0 0, .int .i64 0, .int .i64 0, .int .i64 0, .int .i64 0] 60)) = w1 at *
      have HF := Lib.hid (HF.out _ H0.out)
      obtain ⟨r0, r1, r2, r3, r4⟩ := H0.out.rb.k
      have rl := H0.out.rb.lt
      obtain ⟨g0, g1, g2, g3, g4⟩ := H0.out.rb.free
      clear H0
      go_wp2
      exact bodyPost_ret (v := .tuple #[.agg #[.slice none 0 0, .int .i64 0, .int .i64 0, .int .i64 0, .int .i64 0], .int .i64 2]) (by simp only [results, Try.results19]; go_simp <;> rfl) rfl HF.out
    · have h1' : ((cs.length : Int) == 0) = false := beq_eq_false_iff_ne.2 (by omega)
      have h3' : (3 : Int) < (cs.length : Int) := by omega
      clear h3
      go_enter Try.func19, Try.ntmps19
      go_upto_region 1 with (fail)
      rw [← HPP.out]
      generalize (w.alloc (.cells #[.slice none 0 0, .int .i64 0, .int .i64 0, .int .i64 0, .int .i64 0] 60)) = w1 at *
      have HF := Lib.hid (HF.out _ H0.out)
      obtain ⟨r0, r1, r2, r3, r4⟩ := H0.out.rb.k
      have rl := H0.out.rb.lt
      obtain ⟨g0, g1, g2, g3, g4⟩ := H0.out.rb.free
      clear H0
      go_wp2
      exact bodyPost_ret (v := .tuple #[.agg #[.slice none 0 0, .int .i64 0, .int .i64 0, .int .i64 0, .int .i64 0], .int .i64 2]) (by simp only [results, Try.results19]; go_simp <;> rfl) rfl HF.out
  · have h1' : ((cs.length : Int) == 0) = false := beq_eq_false_iff_ne.2 (by omega)
    have h3' : ¬ (3 : Int) < (cs.length : Int) := by omega
    have HLN := Lib.hid (show 1 ≤ cs.length ∧ cs.length ≤ 3 from by omega)
    have HE := Lib.hid (show E = if ascB (-1) cs = true then 0 else 1 from by rw [hE]; exact if_neg hl)
    have HM := Lib.hid (show E = 0 → M = ⟨cs, 0, 0, 0, 0⟩ from fun h => by rw [hM]; exact if_pos (by rw [← hE]; exact h))
    obtain ⟨i0, hi0, hz0⟩ := Option.map_eq_some_iff.1 info_ni
    simp only [Prod.mk.injEq] at hz0
    have HI := Lib.hid hi0
    have HZ := Lib.hid hz0
    have HF0 := Lib.hid (fun (hx : ascB (-1) cs = false) W (k : Jn w r cs A c W) => show LE w M E (.returned (.tuple #[lv zK none 0, .int .i64 1])) (set5 W r zK none 0) from by
      have e1 : E = 1 := by rw [HE.out, hx]; rfl
      rw [HMZ.out (by rw [e1]; decide), e1]
      exact le_out k.old k.bel (nw_none (lo := r + 1)) Fl.nil 1)
    clear hr hE hM hMZ hl hf hi0 hz0
    go_enter Try.func19, Try.ntmps19
    go_upto_region 1 with (fail)
    rw [← HPP.out]
    generalize (w.alloc (.cells #[.slice none 0 0, .int .i64 0, .int .i64 0, .int .i64 0, .int .i64 0] 60)) = w1 at *
    go_wp2
    clear h1' h3'
    go_loopw [4] (fun i wr => ∃ (k : Nat) (v : Int), k ≤ cs.length ∧ i = .int .i64 k ∧ Hid ((k = 0 ∧ v = -1 ∨ 0 < k ∧ v = ig cs (k - 1) ∧ 0 ≤ v) ∧ ascB (-1) cs = ascB v (cs.drop k) ∧ Jn w r cs A c wr)) (fun i _ => cs.length - (intOf i).toNat)
    case atStart => exact ⟨0, -1, by omega, rfl, Lib.hid ⟨.inl ⟨rfl, rfl⟩, rfl, H0.out⟩⟩
    case round =>
      clear H0
      obtain ⟨k, v, hk, rfl, H⟩ := hrel
      by_cases hlt : k < cs.length
      · have hlt' : (k : Int) < (cs.length : Int) := by omega
        have hk0 : (0 : Int) ≤ (k : Int) := by omega
        have hw2 : IntKind.i64.wrap ((k : Int) + 1) = (k : Int) + 1 := IntWalk.i64_in _ (by have := HLN.out; omega)
        have HA := Lib.hid (H.out.2.1.trans (asc_at hlt))
        obtain ⟨b, o, hA, hbl, c0⟩ := H.out.2.2.fl.atg hlt
        have hAe : A = some ⟨b, o, none⟩ := hA
        subst hAe
        have HV := Lib.hid H.out.1
        have HJ := Lib.hid H.out.2.2
        have HLT := Lib.hid hlt
        obtain ⟨x, hx⟩ : ∃ x, x = ig cs k := ⟨_, rfl⟩
        have HX := Lib.hid hx
        rw [← hx] at HA c0
        clear H hx
        by_cases h0 : x < 0
        · have HF := Lib.hid (fun n => HF0.out (by rw [HA.out]; simp; have := HV.out; omega) _ (HJ.out.drewN n))
          have d0 : decide (x < 0) = true := decide_eq_true h0
          obtain ⟨r0, r1, r2, r3, r4⟩ := HJ.out.rb.k
          have rl := HJ.out.rb.lt
          obtain ⟨g0, g1, g2, g3, g4⟩ := HJ.out.rb.free
          clear HA HV HJ
          go_wp2
          go_quiet (fail)
          trace_state
          go_wp2
          exact bodyPost_ret (v := .tuple #[.agg #[.slice none 0 0, .int .i64 0, .int .i64 0, .int .i64 0, .int .i64 0], .int .i64 1]) (by simp only [results, Try.results19]; go_simp <;> rfl) rfl (HF.out _)
        · by_cases h6 : 6 < x
          · have HF := Lib.hid (fun n => HF0.out (by rw [HA.out]; simp; omega) _ (HJ.out.drewN n))
            have d0 : decide (x < 0) = false := decide_eq_false h0
            have d6 : decide (6 < x) = true := decide_eq_true h6
            obtain ⟨r0, r1, r2, r3, r4⟩ := HJ.out.rb.k
            have rl := HJ.out.rb.lt
            obtain ⟨g0, g1, g2, g3, g4⟩ := HJ.out.rb.free
            clear HA HV HJ
            go_wp2
            go_quiet (fail)
            trace_state
            go_wp2
            exact bodyPost_ret (v := .tuple #[.agg #[.slice none 0 0, .int .i64 0, .int .i64 0, .int .i64 0, .int .i64 0], .int .i64 1]) (by simp only [results, Try.results19]; go_simp <;> rfl) rfl (HF.out _)
          · by_cases hkz : k = 0
            · have HN := Lib.hid (show ascB (-1) cs = ascB x (cs.drop (k + 1)) ∧ Jn w r cs (some ⟨b, o, none⟩) c wr from ⟨by rw [HA.out]; have := HV.out; simp; omega, HJ.out⟩)
              have dk : decide ((0 : Int) < (k : Int)) = false := decide_eq_false (by omega)
              have dk2 : decide (0 < k) = false := decide_eq_false (by omega)
              have HKZ := Lib.hid hkz
              clear hkz
              have d0 : decide (x < 0) = false := decide_eq_false h0
              have d6 : decide (6 < x) = false := decide_eq_false h6
              clear HA HV HJ
              go_wp2
              go_quiet (fail)
              go_wp2
              go_roundw
              case rel => exact ⟨k + 1, x, by omega, by go_num, Lib.hid ⟨.inr ⟨by omega, HX.out, by omega⟩, HN.out.1, HN.out.2.drewN _⟩⟩
              case measure => simp [intOf]; omega
            · obtain ⟨j, hj⟩ : ∃ j : Nat, k = j + 1 := ⟨k - 1, by omega⟩
              have hv : v = ig cs j := by have h := (HV.out.resolve_left (by omega)).2.1; rw [hj] at h; exact h
              obtain ⟨b', o', hA', hbl', c1⟩ := HJ.out.fl.atg (show j < cs.length by omega)
              cases hA'
              rw [← hv] at c1
              have hw3 : IntKind.i64.wrap ((k : Int) - 1) = (j : Int) := by rw [show (k : Int) - 1 = (j : Int) by omega]; exact IntWalk.i64_in _ (by have := HLN.out; omega)
              have hj0 : (0 : Int) < (k : Int) := by omega
              have hjl : (j : Int) < (cs.length : Int) := by omega
              have hj1 : (0 : Int) ≤ (j : Int) := by omega
              have HK := Lib.hid (show k = j + 1 ∧ 0 < k from ⟨hj, by omega⟩)
              clear hj hkz hv
              by_cases h2 : x ≤ v
              · have HF := Lib.hid (fun n => HF0.out (by rw [HA.out]; simp; omega) _ (HJ.out.drewN n))
                have d0 : decide (x < 0) = false := decide_eq_false h0
                have d6 : decide (6 < x) = false := decide_eq_false h6
                have dk : decide ((0 : Int) < (k : Int)) = true := decide_eq_true hj0
                have dk2 : decide (0 < k) = true := decide_eq_true HK.out.2
                have d2 : decide (x ≤ v) = true := decide_eq_true h2
                obtain ⟨r0, r1, r2, r3, r4⟩ := HJ.out.rb.k
                have rl := HJ.out.rb.lt
                obtain ⟨g0, g1, g2, g3, g4⟩ := HJ.out.rb.free
                clear HA HV HJ
                go_wp2
                go_quiet (fail)
                trace_state
                go_wp2
                exact bodyPost_ret (v := .tuple #[.agg #[.slice none 0 0, .int .i64 0, .int .i64 0, .int .i64 0, .int .i64 0], .int .i64 1]) (by simp only [results, Try.results19]; go_simp <;> rfl) rfl (HF.out _)
              · have HN := Lib.hid (show ascB (-1) cs = ascB x (cs.drop (k + 1)) ∧ Jn w r cs (some ⟨b, o, none⟩) c wr from ⟨by rw [HA.out]; simp; omega, HJ.out⟩)
                have d0 : decide (x < 0) = false := decide_eq_false h0
                have d6 : decide (6 < x) = false := decide_eq_false h6
                have dk : decide ((0 : Int) < (k : Int)) = true := decide_eq_true hj0
                have dk2 : decide (0 < k) = true := decide_eq_true HK.out.2
                have d2 : decide (x ≤ v) = false := decide_eq_false h2
                clear HA HV HJ
                go_wp2
                go_quiet (fail)
                go_wp2
                go_roundw
                case rel => exact ⟨k + 1, x, by omega, by go_num, Lib.hid ⟨.inr ⟨by omega, HX.out, by omega⟩, HN.out.1, HN.out.2.drewN _⟩⟩
                case measure => simp [intOf]; omega
      · obtain rfl : k = cs.length := by omega
        have HE0 := Lib.hid (show E = 0 from by rw [HE.out, H.out.2.1, asc_end]; rfl)
        have HM := Lib.hid (HM.out HE0.out)
        have HJ := Lib.hid H.out.2.2
        clear H
        go_wp2_with (at_builtin; refine wpList_append_rd _ rfl _ _ 22 rfl wr.heap.size 3 i0 _ 1 8 Try.underlying22 HI.out HZ.out.1 HZ.out.2.1 HZ.out.2.2 rfl (by omega) (.slice none 0 0) 0 [] rfl (World.ownsRow_nil _ _ _ _) w.heap.size A cs.length c (ics cs) rfl HJ.out.fl.rd (ics_one _) (by have := HLN.out; unfold maxLen; omega) (by have := HLN.out; omega) (Nat.le_refl _) ?_; intro v1 w2 hown hg _; obtain ⟨A2, c2, rfl, hn, hl, hj⟩ := jn_end HJ.out hown hg; have HJ2 := Lib.hid hj; have HF := Lib.hid (show LE w M E (.returned (.tuple #[lv ⟨cs, 0, 0, 0, 0⟩ A2 c2, .int .i64 0])) (set5 w2 r ⟨cs, 0, 0, 0, 0⟩ A2 c2) from by rw [HE0.out, HM.out]; exact le_out (l := ⟨cs, 0, 0, 0, 0⟩) HJ2.out.old HJ2.out.bel hn hl 0); clear hn hl hj hown hg; obtain ⟨r0, r1, r2, r3, r4⟩ := HJ2.out.rb.k; have rl := HJ2.out.rb.lt; obtain ⟨g0, g1, g2, g3, g4⟩ := HJ2.out.rb.free)
        exact bodyPost_ret (v := .tuple #[.agg #[.slice A2 cs.length c2, .int .i64 0, .int .i64 0, .int .i64 0, .int .i64 0], .int .i64 0]) (by simp only [results, Try.results19]; go_simp <;> rfl) rfl HF.out
end Go.Proofs.Ytijpflljopckiaa
namespace Go.Proofs.Ytijpflljopckiaa
open Go.RowKit
set_option linter.unusedVariables false

theorem own_farT {W W' : World} {base size n : Nat} {ob : Option Nat} {t : TypeId} {v : Value} {xs : List Value} (h : W.ownsRow base t size v n xs) (hg : W.grownBy W' ob) (hne : ∀ k, v.ownBlock = some k → ob ≠ some k) : W'.ownsRow base t size v n xs :=
  ⟨h.1, h.2.imp_right fun ⟨k, cap, cur, hv, hk, hh, rr⟩ => ⟨k, cap, cur, hv, hk, (hg.block k (Array.getElem?_eq_some_iff.1 hh).1 (by
    have := hne k (by rw [hv]; rfl)
    exact fun e => this e.symm)).trans hh, rr⟩⟩
theorem own_upT {W W' : World} {base size n : Nat} {t : TypeId} {v : Value} {xs : List Value} (h : W.ownsRow base t size v n xs) (hb : Below W.heap.size W W') : W'.ownsRow base t size v n xs :=
  ⟨h.1, h.2.imp_right fun ⟨k, cap, cur, hv, hk, hh, rr⟩ => ⟨k, cap, cur, hv, hk, (hb.block k (Array.getElem?_eq_some_iff.1 hh).1).trans hh, rr⟩⟩
/-- A source and a row of stripes that may be appended to. -/
structure YW (w : World) (B g : Nat) (A : Option Addr) (c : Nat) (l : List St) (W : World) : Prop where
  src : SrcAt W B g
  own : W.ownsRow w.heap.size 90 4 (.slice A l.length c) l.length (tcs l)
  grow : w.grownBy W (some g)
  gl : g < w.heap.size
section
variable {w W W' : World} {B g c : Nat} {A : Option Addr} {l : List St}
theorem YW.start (h : SrcAt w B g) : YW w B g none 0 [] w := ⟨h, World.ownsRow_nil _ _ _ _, World.grownBy.refl _ _, h.2.1⟩
theorem YW.turn (h : YW w B g A c l W) (hs : SrcAt W' B g) (hg : W.grownBy W' (some g)) : YW w B g A c l W' :=
  ⟨hs, own_farT h.own hg (fun k hk e => by injection e with e; have := (h.own.lt k hk).1; have := h.gl; omega), h.grow.trans hg, h.gl⟩
theorem YW.below (h : YW w B g A c l W) (hb : Below W.heap.size W W') : YW w B g A c l W' :=
  ⟨h.src.below hb, own_upT h.own hb, only_below h.grow hb, h.gl⟩
theorem YW.alloc (h : YW w B g A c l W) (o : Obj) : YW w B g A c l (W.alloc o) := h.below ((Below.refl _ _).alloc (Nat.le_refl _) o)
theorem YW.app (h : YW w B g A c l W) {S : St} {A1 : Option Addr} {c1 : Nat} (ho : W'.ownsRow w.heap.size 90 4 (.slice A1 (l.length + 1) c1) (l.length + 1) (tcs l ++ S.l)) (hg : W.grownBy W' (Value.ownBlock (.slice A l.length c))) : YW w B g A1 c1 (l ++ [S]) W' := by
  have hlt : ∀ x, Value.ownBlock (.slice A l.length c) = some x → w.heap.size ≤ x := fun x e => (h.own.lt x e).1
  have hgl := h.gl
  have hB := h.src.1
  have hs : SrcAt W' B g := by
    refine h.src.keep hg.size (fun o => hg.cell_far ⟨g, o, none⟩ h.src.2.1 (fun e => by have := hlt g e.symm; omega)) (fun o => hg.frozen_far ⟨g, o, none⟩ h.src.2.1 (fun e => by have := hlt g e.symm; omega)) (fun x hx => hg.cell_far x (by have := h.src.2.1; omega) (fun e => by have := hlt _ e.symm; omega))
  have hw : w.grownBy W' (some g) := by
    refine ⟨hg.os.trans h.grow.os, hg.tape.trans h.grow.tape, hg.output.trans h.grow.output, Nat.le_trans h.grow.size hg.size, fun x hx hne => ?_⟩
    rw [hg.block x (Nat.lt_of_lt_of_le hx h.grow.size) (fun e => by have := hlt x e.symm; omega), h.grow.block x hx hne]
  have e1 : (l ++ [S]).length = l.length + 1 := by simp
  have e2 : tcs (l ++ [S]) = tcs l ++ S.l := by rw [tcs_app, tcs_one1]
  exact ⟨hs, by rw [e1, e2]; exact ho, hw, hgl⟩
theorem YW.tl (h : YW w B g A c l W) : Tl W W.heap.size (.slice A l.length c) l := Tl.of_own h.own
end
theorem YW.nw {w W : World} {B g c : Nat} {A : Option Addr} {l : List St} (h : YW w B g A c l W) : Nw w.heap.size A := nwv_of (nwv_own h.own (Nat.le_refl _))
end Go.Proofs.Ytijpflljopckiaa
namespace Go.Proofs.Ytijpflljopckiaa
open Go.RowKit
set_option linter.unusedVariables false

theorem st_app_set (s : St) (X : List Value) (k : Nat) (v : Value) : (s.l ++ X).set (4 + k) v = s.l ++ X.set k v := by
  rw [List.set_append_right _ _ (by rw [St.l_len]; omega), St.l_len, Nat.add_sub_cancel_left]
theorem tcs_set (l : List St) (i : Nat) (s : St) (h : i < l.length) : (((((tcs l).set (i * 4) (.int .i64 s.sq)).set (i * 4 + 1) (.int .i64 s.ep)).set (i * 4 + 2) (.int .i64 s.rd)).set (i * 4 + 3) (.int .i64 s.ls)) = tcs (l.set i s) := by
  induction l generalizing i with
  | nil => simp at h
  | cons u l ih =>
    cases i with
    | zero => rfl
    | succ i =>
      have h' : i < l.length := by simpa using h
      have e : ∀ k, (i + 1) * 4 + k = 4 + (i * 4 + k) := fun k => by omega
      have e0 : (i + 1) * 4 = 4 + i * 4 := by omega
      rw [tcs_cons, List.set_cons_succ, tcs_cons, ← ih i h', e 1, e 2, e 3, e0, st_app_set, st_app_set, st_app_set, st_app_set]
/-- The world behind stores into the stripes' row. -/
structure Kx (w : World) (p r b b2 : Nat) (a : Ar) (Y : Ax) (cs : List Value) (W : World) : Prop where
  pb : QB W p a Y
  rb : QB W r zA zAx
  ro : Rb W b (qcs Y.q)
  r2 : Rb W b2 cs
  sr : ∀ t ∈ Y.q, SR W W.heap.size t.sh t.sx
  ls : Ls W W.heap.size (.slice Y.A3 a.dl.length Y.c3) a.dl
  dr : DR W W.heap.size a.dir Y.D
  bel : Below w.heap.size w W
theorem Kx.step {w W : World} {p r b b2 : Nat} {a : Ar} {Y : Ax} {cs : List Value} (h : Kx w p r b b2 a Y cs W) (n : w.heap.size ≤ b2 ∧ b2 ≠ b ∧ b2 ≠ p ∧ b2 ≠ r) (o1 : ∀ t ∈ Y.q, SOff t.sh t.sx b2) (o3 : OffB b2 a.dl.length Y.A3) (o4 : DOff a.dir Y.D b2) {j : Nat} (hj : j < cs.length) (v : Value) : Kx w p r b b2 a Y (cs.set j v) (W.setCell ⟨b2, j, none⟩ v) :=
  ⟨h.pb.other (x := ⟨b2, j, none⟩) (show b2 ≠ p from n.2.2.1) v, h.rb.other (x := ⟨b2, j, none⟩) (show b2 ≠ r from n.2.2.2) v, h.ro.other (a := ⟨b2, j, none⟩) (show b2 ≠ b from n.2.1) v, h.r2.set hj v, fun t ht => ((h.sr t ht).offp (p := ⟨b2, j, none⟩) (o1 t ht) v).more (by simp), (h.ls.offp (p := ⟨b2, j, none⟩) o3 v).more (by simp), (h.dr.offp (q := ⟨b2, j, none⟩) o4 v).more (by simp), h.bel.setCell (p := ⟨b2, j, none⟩) n.1 v⟩
/-- The four stores of a stripe. -/
abbrev sets4 (W : World) (b o : Nat) (s : St) : World := (((W.setCell ⟨b, o, none⟩ (.int .i64 s.sq)).setCell ⟨b, o + 1, none⟩ (.int .i64 s.ep)).setCell ⟨b, o + 2, none⟩ (.int .i64 s.rd)).setCell ⟨b, o + 3, none⟩ (.int .i64 s.ls)
def Ar.setSt (a : Ar) (i : Nat) (s : St) : Ar := ⟨a.sl, a.st.set i s, a.ow, a.cap, a.dl, a.dir, a.ep, a.ck, a.ni⟩
theorem QB.setSt {W : World} {p : Nat} {a : Ar} {Y : Ax} (h : QB W p a Y) (i : Nat) (s : St) : QB W p (a.setSt i s) Y := by
  obtain ⟨⟨y0, y1, y2, y3, y4, y5, y6, y7, y8, y9, y10⟩, fr, lt⟩ := h
  exact ⟨⟨y0, by rw [show (a.setSt i s).st.length = a.st.length from List.length_set]; exact y1, y2, y3, y4, y5, y6, y7, y8, y9, y10⟩, fr, lt⟩
/-- The stripes' row of a copy that lies in a box: its place, its cells, and what a store of a stripe leaves. -/
theorem Cb12.stripe {w W : World} {p r b p' r' : Nat} {a : Ar} {Y : Ax} (h : Cb12 w p r b a Y W) (hS : Sr12 p' r' b a Y W) (hn : Y.nw (r + 1)) {i : Nat} (hi : i < a.st.length) : ∃ b2, Y.A2 = some ⟨b2, 0, none⟩ ∧ b2 < W.heap.size ∧ (W.cell? ⟨b2, i * 4, none⟩ = some (.int .i64 (tg a.st i).sq) ∧ W.cell? ⟨b2, i * 4 + 1, none⟩ = some (.int .i64 (tg a.st i).ep) ∧ W.cell? ⟨b2, i * 4 + 2, none⟩ = some (.int .i64 (tg a.st i).rd) ∧ W.cell? ⟨b2, i * 4 + 3, none⟩ = some (.int .i64 (tg a.st i).ls)) ∧ (∀ o, W.frozen? ⟨b2, o, none⟩ = false) ∧ ∀ s, Cb12 w p r b (a.setSt i s) Y (sets4 W b2 (i * 4) s) := by
  obtain ⟨b2, e2, hc2, hr2, hne2, o1, o3, o4⟩ := hS (by omega)
  have hne := h.ne
  have hlo : r + 1 ≤ b2 := hn.n2 _ e2
  have htg : (tg a.st i).l = (a.st[i]).l := by unfold tg; rw [List.getD_eq_getElem?_getD, List.getElem?_eq_getElem hi]; rfl
  have g : ∀ j u, j < 4 → (tg a.st i).l[j]? = some u → W.cell? ⟨b2, i * 4 + j, none⟩ = some u := fun j u hj hu => hr2.c _ u (by rw [tcs_at a.st i j hi hj, ← htg]; exact hu)
  refine ⟨b2, e2, hr2.lt, ⟨g 0 _ (by omega) rfl, g 1 _ (by omega) rfl, g 2 _ (by omega) rfl, g 3 _ (by omega) rfl⟩, hr2.f, fun s => ?_⟩
  have n4 : w.heap.size ≤ b2 ∧ b2 ≠ b ∧ b2 ≠ p ∧ b2 ≠ r := ⟨by omega, hne2.1, by omega, by omega⟩
  have k0 : Kx w p r b b2 a Y (tcs a.st) W := ⟨h.pb, h.rb, h.ro, hr2, fun t ht => (h.sr t ht).1, h.ls.1, h.dr.1, h.bel⟩
  have hlen := tcs_len a.st
  have k4 := (((k0.step n4 o1 o3 o4 (j := i * 4) (by omega) (.int .i64 s.sq)).step n4 o1 o3 o4 (j := i * 4 + 1) (by rw [List.length_set]; omega) (.int .i64 s.ep)).step n4 o1 o3 o4 (j := i * 4 + 2) (by rw [List.length_set, List.length_set]; omega) (.int .i64 s.rd)).step n4 o1 o3 o4 (j := i * 4 + 3) (by rw [List.length_set, List.length_set, List.length_set]; omega) (.int .i64 s.ls)
  rw [tcs_set a.st i s hi] at k4
  have el : (a.setSt i s).st.length = a.st.length := List.length_set
  refine ⟨k4.pb.setSt i s, k4.rb, k4.ro, h.ea, h.ec, h.so, fun t ht => ⟨k4.sr t ht, (h.sr t ht).2⟩, ⟨?_, by rw [el]; exact h.tl.2.1, by rw [el]; exact h.tl.2.2.1, by rw [el]; exact h.tl.2.2.2⟩, ⟨k4.ls, h.ls.2⟩, ⟨k4.dr, h.dr.2⟩, h.ne, k4.bel⟩
  rw [e2]
  refine ⟨_, Y.c2, rfl, by rw [el]; exact hc2.1, hc2.2, ?_, fun _ => ⟨b2, 0, rfl, k4.r2.lt, fun j u hu => by rw [Nat.zero_add]; exact k4.r2.c j u hu⟩⟩
  show (tcs (a.st.set i s)).length = (a.setSt i s).st.length * 4
  rw [tcs_len]; rfl
theorem YT.far11 {W : World} {p q : Nat} {s : St} (h : YT W q s) (hpq : p ≠ q) (a : Ar) (Y : Ax) : YT (set11 W p a Y) q s := by
  obtain ⟨⟨t0, t1, t2, t3⟩, tl⟩ := h
  have n : ∀ i j, (⟨p, i, none⟩ : Addr) ≠ ⟨q, j, none⟩ := fun i j e => hpq (congrArg Addr.block e)
  have g : ∀ i v, W.cell? ⟨q, i, none⟩ = some v → (set11 W p a Y).cell? ⟨q, i, none⟩ = some v := fun i v h => by
    show World.cell? (set11 W p a Y) _ = _
    unfold set11
    rw [World.cell?_setCell_other _ _ _ _ (n 10 i), World.cell?_setCell_other _ _ _ _ (n 9 i), World.cell?_setCell_other _ _ _ _ (n 8 i), World.cell?_setCell_other _ _ _ _ (n 7 i), World.cell?_setCell_other _ _ _ _ (n 6 i), World.cell?_setCell_other _ _ _ _ (n 5 i), World.cell?_setCell_other _ _ _ _ (n 4 i), World.cell?_setCell_other _ _ _ _ (n 3 i), World.cell?_setCell_other _ _ _ _ (n 2 i), World.cell?_setCell_other _ _ _ _ (n 1 i), World.cell?_setCell_other _ _ _ _ (n 0 i)]
    exact h
  exact ⟨⟨g 0 _ t0, g 1 _ t1, g 2 _ t2, g 3 _ t3⟩, by rw [set11_size]; exact tl⟩
end Go.Proofs.Ytijpflljopckiaa
