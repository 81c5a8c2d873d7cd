/- What is proved here: directory.Apply by a contract; what DirectoryOwners and DirectoryHomes hold while a change is drawn and applied; New of the statements' base makes a source of a list. -/
import Derived.Test.YtdobenkkkkaipaaJ10
import Derived.Test.YtdobenkkkkaipaaJ11
import Derived.Test.YtdobenkkkkaipaaJ08
import Derived.Test.YtdobenkkkkaipaaJ07
import Derived.Test.YtdobenkkkkaipaaJ03
import Derived.Test.YtdobenkkkkaipaaJ01
namespace Go.Proofs.Ytdobenkkkkaipaa
open Go.RowKit
set_option linter.unusedVariables false

/-- The boxes of Apply: a directory, a change, a result. -/
structure Ab (w : World) (p q r : Nat) (d : Dd) (X : Dx) (e : Ed) (W : World) : Prop where
  da : DAt w p d X W
  eb : EB W q e
  rb : DB W r zD zDx
  ne : w.heap.size ≤ p ∧ p < q ∧ q < r
  of : ∀ z, w.heap.size ≤ z → DOff d X z
section
variable {w W W' : World} {p q r : Nat} {d : Dd} {X : Dx} {e : Ed}
theorem Ab.below (h : Ab w p q r d X e W) (hb : Below W.heap.size W W') : Ab w p q r d X e W' := ⟨h.da.below hb, h.eb.up hb, h.rb.up hb, h.ne, h.of⟩
theorem Ab.start (d : Dd) (X : Dx) (e : Ed) (hd : DR w w.heap.size d X) : Ab w w.heap.size (w.heap.size + 1) (w.heap.size + 1 + 1) d X e (((w.alloc (.cells #[.int .i64 d.vn, .slice X.A d.l.length X.c, .slice X.A2 d.F.length X.c2] 25)).alloc (.cells #[.int .i64 e.kd, .int .i64 e.fr, .int .i64 e.to, .int .i64 e.md] 27)).alloc (.cells #[.int .i64 0, .slice none 0 0, .slice none 0 0] 25)) := by
  have e1 : (w.alloc (.cells #[.int .i64 d.vn, .slice X.A d.l.length X.c, .slice X.A2 d.F.length X.c2] 25)).heap.size = w.heap.size + 1 := by simp
  have e2 : ((w.alloc (.cells #[.int .i64 d.vn, .slice X.A d.l.length X.c, .slice X.A2 d.F.length X.c2] 25)).alloc (.cells #[.int .i64 e.kd, .int .i64 e.fr, .int .i64 e.to, .int .i64 e.md] 27)).heap.size = w.heap.size + 1 + 1 := by simp
  have h1 := (EB.start (w.alloc (.cells #[.int .i64 d.vn, .slice X.A d.l.length X.c, .slice X.A2 d.F.length X.c2] 25)) e 27).alloc (.cells #[.int .i64 0, .slice none 0 0, .slice none 0 0] 25)
  have h2 := DB.zero ((w.alloc (.cells #[.int .i64 d.vn, .slice X.A d.l.length X.c, .slice X.A2 d.F.length X.c2] 25)).alloc (.cells #[.int .i64 e.kd, .int .i64 e.fr, .int .i64 e.to, .int .i64 e.md] 27)) 25
  rw [e1] at h1
  rw [e2] at h2
  exact ⟨((DAt.start _ hd).alloc _).alloc _, h1, h2, ⟨Nat.le_refl _, by omega, by omega⟩, fun z hz => hd.offs hz⟩
theorem Ab.out0 (h : Ab w p q r d X e W) (x : Int) : DE w.heap.size w zD x (.returned (.tuple #[.agg #[.int .i64 0, .slice none 0 0, .slice none 0 0], .int .i64 x])) (((W.setCell ⟨r, 0, none⟩ (.int .i64 0)).setCell ⟨r, 1, none⟩ (.slice none 0 0)).setCell ⟨r, 2, none⟩ (.slice none 0 0)) := by
  have hp := h.ne
  have hb := h.da.bel
  exact ⟨zDx, rfl, zDx_nw _, DR.zero, ((hb.setCell (p := ⟨r, 0, none⟩) (show w.heap.size ≤ r by omega) _).setCell (p := ⟨r, 1, none⟩) (show w.heap.size ≤ r by omega) _).setCell (p := ⟨r, 2, none⟩) (show w.heap.size ≤ r by omega) _⟩
/-- A result that a call gave, stored into the result box. -/
theorem Ab.out (h : Ab w p q r d X e W) {B : Nat} {D : Dd} {Y : Dx} (hn : Y.nw B) (hB : r < B) (hr : DR W W.heap.size D Y) (x : Int) : DE w.heap.size w D x (.returned (.tuple #[dv D Y, .int .i64 x])) (((W.setCell ⟨r, 0, none⟩ (.int .i64 D.vn)).setCell ⟨r, 1, none⟩ (.slice Y.A D.l.length Y.c)).setCell ⟨r, 2, none⟩ (.slice Y.A2 D.F.length Y.c2)) := by
  have hp := h.ne
  have hb := h.da.bel
  have f : ∀ o, DOff D Y (⟨r, o, none⟩ : Addr).block := fun o => hn.off hB
  exact ⟨Y, rfl, hn.low (by omega), (((hr.offp (q := ⟨r, 0, none⟩) (f 0) _).offp (q := ⟨r, 1, none⟩) (f 1) _).offp (q := ⟨r, 2, none⟩) (f 2) _).more (by simp), ((hb.setCell (p := ⟨r, 0, none⟩) (show w.heap.size ≤ r by omega) _).setCell (p := ⟨r, 1, none⟩) (show w.heap.size ≤ r by omega) _).setCell (p := ⟨r, 2, none⟩) (show w.heap.size ≤ r by omega) _⟩
end
/-- .. with what the copies have given, and the box of the next directory. -/
structure Nx (w : World) (p q r : Nat) (d : Dd) (X : Dx) (e : Ed) (oL oF : Option Value) (oX : Option Nat) (W : World) : Prop where
  ab : Ab w p q r d X e W
  fl : ∀ v, oL = some v → W.ownsRow (r + 1) 43 3 v d.l.length (scs d.l)
  ff : ∀ v, oF = some v → W.ownsRow (r + 1) 3 1 v d.F.length (ics d.F)
  fx : ∀ x, oX = some x → DB W x zD zDx ∧ r < x
  d1 : ∀ u v, oL = some u → oF = some v → ∀ k, u.ownBlock = some k → v.ownBlock ≠ some k
  d2 : ∀ u x, oL = some u → oX = some x → ∀ k, u.ownBlock = some k → k ≠ x
  d3 : ∀ u x, oF = some u → oX = some x → ∀ k, u.ownBlock = some k → k ≠ x
section
variable {w W W' : World} {p q r : Nat} {d : Dd} {X : Dx} {e : Ed} {a b : Option Value} {c : Option Nat}
theorem Nx.below (h : Nx w p q r d X e a b c W) (hb : Below W.heap.size W W') : Nx w p q r d X e a b c W' :=
  ⟨h.ab.below hb, fun v ev => own_up (h.fl v ev) hb, fun v ev => own_up (h.ff v ev) hb, fun x ex => ⟨(h.fx x ex).1.up hb, (h.fx x ex).2⟩, h.d1, h.d2, h.d3⟩
theorem Nx.drew (h : Nx w p q r d X e a b c W) : Nx w p q r d X e a b c W.drew := h.below (Below.refl _ _).drew
theorem Nx.start (h : Ab w p q r d X e W) : Nx w p q r d X e none none none W := ⟨h, by simp, by simp, by simp, by simp, by simp, by simp⟩
theorem Nx.ax (h : Nx w p q r d X e a b none W) (t : TypeId) : Nx w p q r d X e a b (some W.heap.size) (W.alloc (.cells #[.int .i64 0, .slice none 0 0, .slice none 0 0] t)) := by
  have k := h.below ((Below.refl _ _).alloc (Nat.le_refl _) (.cells #[.int .i64 0, .slice none 0 0, .slice none 0 0] t))
  refine ⟨k.ab, k.fl, k.ff, fun x ex => ?_, k.d1, fun u x eu ex j hj => ?_, fun u x eu ex j hj => ?_⟩
  · injection ex with ex; subst ex
    exact ⟨DB.zero W t, h.ab.rb.lt⟩
  · injection ex with ex; subst ex
    have := ((h.fl u eu).lt j hj).2; omega
  · injection ex with ex; subst ex
    have := ((h.ff u eu).lt j hj).2; omega
theorem Nx.cl (h : Nx w p q r d X e none b c W) {v : Value} (ho : W'.ownsRow W.heap.size 43 3 v d.l.length (scs d.l)) (hb : Below W.heap.size W W') : Nx w p q r d X e (some v) b c W' := by
  have k := h.below hb
  refine ⟨k.ab, fun u eu => ?_, k.ff, k.fx, fun u x eu ex j hj => ?_, fun u x eu ex j hj => ?_, k.d3⟩
  · injection eu with eu; subst eu
    exact own_low ho h.ab.rb.lt
  · injection eu with eu; subst eu
    intro e2
    have h1 := ((h.ff x ex).lt j e2).2
    have h2 := (ho.lt j hj).1
    omega
  · injection eu with eu; subst eu
    have h1 := (h.fx x ex).1.lt
    have h2 := (ho.lt j hj).1
    omega
theorem Nx.cf (h : Nx w p q r d X e a none c W) {v : Value} (ho : W'.ownsRow W.heap.size 3 1 v d.F.length (ics d.F)) (hb : Below W.heap.size W W') : Nx w p q r d X e a (some v) c W' := by
  have k := h.below hb
  refine ⟨k.ab, k.fl, fun u eu => ?_, k.fx, fun u x eu ex j hj => ?_, k.d2, fun u x eu ex j hj => ?_⟩
  · injection eu with eu; subst eu
    exact own_low ho h.ab.rb.lt
  · injection ex with ex; subst ex
    intro e2
    have h1 := ((h.fl u eu).lt j hj).2
    have h2 := (ho.lt j e2).1
    omega
  · injection eu with eu; subst eu
    have h1 := (h.fx x ex).1.lt
    have h2 := (ho.lt j hj).1
    omega
theorem Nx.xf {x : Nat} (h : Nx w p q r d X e a b (some x) W) : DB W x zD zDx ∧ r < x := h.fx x rfl
end
/-- .. all of them. -/
structure Ny (w : World) (p q r x : Nat) (d : Dd) (X : Dx) (e : Ed) (Y : Dx) (W : World) : Prop where
  ab : Ab w p q r d X e W
  xb : DB W x ⟨d.vn + 1, d.l, d.F⟩ Y
  fl : W.ownsRow (r + 1) 43 3 (.slice Y.A d.l.length Y.c) d.l.length (scs d.l)
  ff : W.ownsRow (r + 1) 3 1 (.slice Y.A2 d.F.length Y.c2) d.F.length (ics d.F)
  d1 : ∀ k, (Value.slice Y.A d.l.length Y.c).ownBlock = some k → (Value.slice Y.A2 d.F.length Y.c2).ownBlock ≠ some k
section
variable {w W W' : World} {p q r : Nat} {d : Dd} {X : Dx} {e : Ed} {A A2 : Option Addr} {c c2 : Nat}
theorem ny_1 (h : Nx w p q r d X e (some (.slice A d.l.length c)) (some (.slice A2 d.F.length c2)) none W) (t : TypeId) : Ny w p q r W.heap.size d X e ⟨A, c, A2, c2⟩ (W.alloc (.cells #[.int .i64 (d.vn + 1), .slice A d.l.length c, .slice A2 d.F.length c2] t)) := by
  have k := h.below ((Below.refl _ _).alloc (Nat.le_refl _) (.cells #[.int .i64 (d.vn + 1), .slice A d.l.length c, .slice A2 d.F.length c2] t))
  exact ⟨k.ab, DB.start W ⟨d.vn + 1, d.l, d.F⟩ ⟨A, c, A2, c2⟩ t, k.fl _ rfl, k.ff _ rfl, h.d1 _ _ rfl rfl⟩
theorem ny_2 {x : Nat} (h : Nx w p q r d X e (some (.slice A d.l.length c)) (some (.slice A2 d.F.length c2)) (some x) W) : Ny w p q r x d X e ⟨A, c, A2, c2⟩ (((W.setCell ⟨x, 0, none⟩ (.int .i64 (d.vn + 1))).setCell ⟨x, 1, none⟩ (.slice A d.l.length c)).setCell ⟨x, 2, none⟩ (.slice A2 d.F.length c2)) := by
  obtain ⟨h1, h2⟩ := h.xf
  have hn := h.ab.ne
  have o1 : ∀ (j : Nat) (v : Value) (W : World), Ab w p q r d X e W → DOff d X x → Ab w p q r d X e (W.setCell ⟨x, j, none⟩ v) := fun j v W k ho =>
    ⟨k.da.other (a := ⟨x, j, none⟩) (show x ≠ p by omega) ho (show w.heap.size ≤ x by omega) v, k.eb.other (a := ⟨x, j, none⟩) (show x ≠ q by omega) v, k.rb.other (a := ⟨x, j, none⟩) (show x ≠ r by omega) v, k.ne, k.of⟩
  have ho := h.ab.of x (by omega)
  have f1 : ∀ j k, (Value.slice A d.l.length c).ownBlock = some k → k ≠ (⟨x, j, none⟩ : Addr).block := fun j k hk => h.d2 _ _ rfl rfl k hk
  have f2 : ∀ j k, (Value.slice A2 d.F.length c2).ownBlock = some k → k ≠ (⟨x, j, none⟩ : Addr).block := fun j k hk => h.d3 _ _ rfl rfl k hk
  exact ⟨o1 2 _ _ (o1 1 _ _ (o1 0 _ _ h.ab ho) ho) ho, h1.set ⟨d.vn + 1, d.l, d.F⟩ ⟨A, c, A2, c2⟩, own_oth (own_oth (own_oth (h.fl _ rfl) (f1 0) _) (f1 1) _) (f1 2) _, own_oth (own_oth (own_oth (h.ff _ rfl) (f2 0) _) (f2 1) _) (f2 2) _, h.d1 _ _ rfl rfl⟩
end
theorem Ab.k3 {w W W' : World} {p q r : Nat} {d : Dd} {X : Dx} {e : Ed} (h : Ab w p q r d X e W) (hb : Below (p + 1) W W') : K3 p d X W' :=
  ⟨(hb.cell (p := ⟨p, 0, none⟩) (Nat.lt_succ_self p)).trans h.da.db.c0, (hb.cell (p := ⟨p, 1, none⟩) (Nat.lt_succ_self p)).trans h.da.db.c1, (hb.cell (p := ⟨p, 2, none⟩) (Nat.lt_succ_self p)).trans h.da.db.c2⟩
/-- The numbers of a valid directory's spans. -/
theorem ok_lo {d : Dd} (h : OkD d) : ∀ k, k < d.l.length → 0 ≤ (sg d.l k).lo
  | 0, hk => by have a := (h.sp 0 hk).1; rw [nxD_zero] at a; omega
  | k + 1, hk => by
    have a := (h.sp (k + 1) hk).1
    have b := (h.sp k (by omega)).2.1
    have c := ok_lo h k (by omega)
    rw [nxD_succ] at a
    omega
theorem ok_rng {d : Dd} (h : OkD d) {k : Nat} (hk : k < d.l.length) : 0 ≤ (sg d.l k).lo ∧ (sg d.l k).lo ≤ (sg d.l k).hi ∧ (sg d.l k).hi ≤ 65535 := ⟨ok_lo h k hk, (h.sp k hk).2⟩
theorem Ab.fin {w W W' : World} {p q r : Nat} {d : Dd} {X : Dx} {e : Ed} (h : Ab w p q r d X e W) (hb : Below (r + 1) W W') : DB W' r zD zDx ∧ Below w.heap.size w W' :=
  ⟨h.rb.keep (fun o => hb.cell (p := ⟨r, o, none⟩) (Nat.lt_succ_self r)) (fun o => hb.frozen (p := ⟨r, o, none⟩) (Nat.lt_succ_self r)) hb.size, h.da.bel.trans (hb.mono (by have := h.ne; omega))⟩
theorem fin_out {w W : World} {r B : Nat} {D : Dd} {Y : Dx} (hr0 : r = w.heap.size + 1 + 1) (hbel : Below w.heap.size w W) (hn : Y.nw B) (hr : DR W W.heap.size D Y) (hB : r < B) (x : Int) : DE w.heap.size w D x (.returned (.tuple #[dv D Y, .int .i64 x])) (((W.setCell ⟨r, 0, none⟩ (.int .i64 D.vn)).setCell ⟨r, 1, none⟩ (.slice Y.A D.l.length Y.c)).setCell ⟨r, 2, none⟩ (.slice Y.A2 D.F.length Y.c2)) := by
  have f : ∀ o, DOff D Y (⟨r, o, none⟩ : Addr).block := fun o => hn.off hB
  exact ⟨Y, rfl, hn.low (by omega), (((hr.offp (q := ⟨r, 0, none⟩) (f 0) _).offp (q := ⟨r, 1, none⟩) (f 1) _).offp (q := ⟨r, 2, none⟩) (f 2) _).more (by simp), ((hbel.setCell (p := ⟨r, 0, none⟩) (show w.heap.size ≤ r by omega) _).setCell (p := ⟨r, 1, none⟩) (show w.heap.size ≤ r by omega) _).setCell (p := ⟨r, 2, none⟩) (show w.heap.size ≤ r by omega) _⟩

set_option maxHeartbeats 8000000 in
set_option maxRecDepth 20000 in
theorem dapply_any (d : Dd) (X : Dx) (e : Ed) (w : World) (hd : DR w w.heap.size d X) (hl : d.l.length ≤ 90) :
    Calls Try.prog 20 #[dv d X, e.v] w (DE w.heap.size w (apD d e) (apE d e)) := by
  have H0 := Lib.hid (Ab.start d X e hd)
  have HVA := Lib.hid (fun p q r W (k : Ab w p q r d X e W) => dvalid_any d X W k.da.dr)
  have HST := Lib.hid (fun W => slotTest_any d X W)
  have HHL := Lib.hid hl
  obtain ⟨p, hp⟩ : ∃ p, p = w.heap.size := ⟨_, rfl⟩
  obtain ⟨q, hq⟩ : ∃ q, q = w.heap.size + 1 := ⟨_, rfl⟩
  obtain ⟨r, hr⟩ : ∃ r, r = w.heap.size + 1 + 1 := ⟨_, rfl⟩
  have HPP := Lib.hid (show (p = w.heap.size ∧ q = w.heap.size + 1 ∧ r = w.heap.size + 1 + 1) ∧ (¬ p = q ∧ ¬ q = p ∧ ¬ p = r ∧ ¬ r = p ∧ ¬ q = r ∧ ¬ r = q) by omega)
  obtain ⟨R, hR⟩ : ∃ R, R = apD d e := ⟨_, rfl⟩
  obtain ⟨x, hx⟩ : ∃ x, x = apE d e := ⟨_, rfl⟩
  rw [← hR, ← hx]
  have HRX := Lib.hid (And.intro hR hx)
  clear hR hx hp hq hr hd hl
  by_cases hv : vaD d = 0
  · rw [hv] at HVA
    by_cases h6 : d.vn = 1099511627776
    · have HRE := Lib.hid (show x = 6 ∧ R = zD from by
        have h7 : apE d e = 6 := by rw [apE_N (by rw [apN_6 hv h6]; decide), apN_6 hv h6]
        exact ⟨HRX.out.2.trans h7, by rw [HRX.out.1, apD_no (by rw [h7]; decide)]⟩)
      have h6' : (d.vn == 1099511627776) = true := by simpa using h6
      clear hv h6
      go_enter Try.func20, Try.ntmps20
      go_wp2_with fail
      have H0 := Lib.hid (show Ab w p q r d X e (((w.alloc (.cells #[.int .i64 d.vn, .slice X.A d.l.length X.c, .slice X.A2 d.F.length X.c2] 25)).alloc (.cells #[.int .i64 e.kd, .int .i64 e.fr, .int .i64 e.to, .int .i64 e.md] 27)).alloc (.cells #[.int .i64 0, .slice none 0 0, .slice none 0 0] 25)) from by rw [HPP.out.1.1, HPP.out.1.2.1, HPP.out.1.2.2]; exact H0.out)
      rw [← HPP.out.1.2.2, ← HPP.out.1.2.1, ← HPP.out.1.1]
      generalize ((w.alloc (.cells #[.int .i64 d.vn, .slice X.A d.l.length X.c, .slice X.A2 d.F.length X.c2] 25)).alloc (.cells #[.int .i64 e.kd, .int .i64 e.fr, .int .i64 e.to, .int .i64 e.md] 27)).alloc (.cells #[.int .i64 0, .slice none 0 0, .slice none 0 0] 25) = w0 at *
      refine (HVA.out _ _ _ _ H0.out).mono ?_
      rintro e1 w1 ⟨rfl, hb⟩
      have H1 := Lib.hid (H0.out.below hb)
      clear hb H0 HVA
      obtain ⟨x0, x1, x2, -, xl⟩ := H1.out.da.db
      obtain ⟨y0, y1, y2, y3, yl⟩ := H1.out.eb
      obtain ⟨⟨r0, r1, r2, rl⟩, g0, g1, g2⟩ := H1.out.rb.all
      have HO := Lib.hid (H1.out.out0 6)
      go_wp2
      exact bodyPost_ret (v := .tuple #[.agg #[.int .i64 0, .slice none 0 0, .slice none 0 0], .int .i64 6]) (by simp only [results, Try.results20]; go_simp <;> rfl) rfl (by rw [HRE.out.1, HRE.out.2]; exact HO.out)
    · have h6' : (d.vn == 1099511627776) = false := by simpa using h6
      by_cases hk : e.kd = 1 ∨ e.kd = 2
      · have HOK := Lib.hid (ok_va hv)
        have hn6 : d.F.length ≤ 1000 := by have := HOK.out.rg.2.2; omega
        have HS1 := Lib.hid (fun p x W hp hc => slot1_any x p X.A2 d.F.length X.c2 W hp hc hn6)
        have hkk : (e.kd != 1) = false ∨ ((e.kd != 1) = true ∧ (e.kd != 2) = false) := by
          rcases hk with h | h
          · left; simpa using h
          · right; rw [h]; decide
        by_cases hf : slotP d.F.length e.fr
        · have HDfr := Lib.hid (decide_eq_true hf)
          by_cases ht : slotP d.F.length e.to
          · have HDto := Lib.hid (decide_eq_true ht)
            have HSL := Lib.hid (And.intro hf ht)
            have HAN := Lib.hid (apN_0 hv h6 hk hf ht)
            clear hkk hf ht
            rcases hk with hk | hk
            · have HEX := Lib.hid (show x = spE d e ∧ R = if spE d e = 0 then Dd.mk (d.vn + 1) (spL d.l (ixS d.l e.fr).toNat e) (d.F.set e.to.toNat (-1)) else zD from by
                have h7 : apE d e = spE d e := apE_1 HAN.out hk
                refine ⟨HRX.out.2.trans h7, ?_⟩
                rw [HRX.out.1]
                by_cases h8 : spE d e = 0
                · rw [if_pos h8, apD_1 (by rw [h7]; exact h8) hk]; rfl
                · rw [if_neg h8, apD_no (by rw [h7]; exact h8)])
              have k1 : (e.kd != 1) = false := by simpa using hk
              have k3 : (e.kd == 1) = true := by simpa using hk
              clear hv h6 hk
              go_enter Try.func20, Try.ntmps20
              go_wp2_with fail
              have H0 := Lib.hid (show Ab w p q r d X e (((w.alloc (.cells #[.int .i64 d.vn, .slice X.A d.l.length X.c, .slice X.A2 d.F.length X.c2] 25)).alloc (.cells #[.int .i64 e.kd, .int .i64 e.fr, .int .i64 e.to, .int .i64 e.md] 27)).alloc (.cells #[.int .i64 0, .slice none 0 0, .slice none 0 0] 25)) from by rw [HPP.out.1.1, HPP.out.1.2.1, HPP.out.1.2.2]; exact H0.out)
              rw [← HPP.out.1.2.2, ← HPP.out.1.2.1, ← HPP.out.1.1]
              generalize ((w.alloc (.cells #[.int .i64 d.vn, .slice X.A d.l.length X.c, .slice X.A2 d.F.length X.c2] 25)).alloc (.cells #[.int .i64 e.kd, .int .i64 e.fr, .int .i64 e.to, .int .i64 e.md] 27)).alloc (.cells #[.int .i64 0, .slice none 0 0, .slice none 0 0] 25) = w0 at *
              refine (HVA.out _ _ _ _ H0.out).mono ?_
              rintro e1 w1 ⟨rfl, hb⟩
              have H1 := Lib.hid (H0.out.below hb)
              clear hb H0 HVA
              obtain ⟨x0, x1, x2, -, xl⟩ := H1.out.da.db
              obtain ⟨y0, y1, y2, y3, yl⟩ := H1.out.eb
              go_wp2_with fail
              refine (HST.out _).mono ?_
              rintro e1 w2 ⟨rfl, hw2⟩
              obtain ⟨z, hz⟩ : ∃ z, z = w1.heap.size := ⟨_, rfl⟩
              have H2 := Lib.hid (show Ab w p q r d X e w2 from by rw [hw2]; exact H1.out.below ((Below.refl _ _).alloc (Nat.le_refl _) _))
              have Q2 := Lib.hid (show w2.cell? ⟨z, 2, none⟩ = some (.slice X.A2 d.F.length X.c2) ∧ z < w2.heap.size from by rw [hw2, hz]; exact ⟨by simp [go_sem], by simp⟩)
              rw [← hz]
              dsimp only [stV]
              clear x0 x1 x2 xl y0 y1 y2 y3 yl
              clear hz hw2 H1 HST
              have HSF := Lib.hid (HS1.out z e.fr w2 Q2.out.2 Q2.out.1)
              rw [HDfr.out] at HSF
              obtain ⟨x0, x1, x2, -, xl⟩ := H2.out.da.db
              obtain ⟨y0, y1, y2, y3, yl⟩ := H2.out.eb
              go_wp2_with fail
              clear x0 x1 x2 xl y0 y1 y2 y3 yl
              refine HSF.out.mono ?_
              rintro e1 w3 ⟨rfl, hw⟩
              subst hw
              have HSF := Lib.hid (HS1.out z e.to w2 Q2.out.2 Q2.out.1)
              rw [HDto.out] at HSF
              obtain ⟨x0, x1, x2, -, xl⟩ := H2.out.da.db
              obtain ⟨y0, y1, y2, y3, yl⟩ := H2.out.eb
              go_wp2_with fail
              clear x0 x1 x2 xl y0 y1 y2 y3 yl
              refine HSF.out.mono ?_
              rintro e1 w3 ⟨rfl, hw⟩
              subst hw
              go_upto_region 11 with (fail)
              have HP0 := Lib.hid (show Nx w p q r d X e none none none w2 from Nx.start H2.out)
              have HP := Lib.hid HP0.out.drew
              have HCL := Lib.hid (fun W (a b : Option Value) (c : Option Nat) (k : Nx w p q r d X e a b c W) => spclone_any X.A d.l.length X.c d.l W k.ab.da.dr.pl (by have := HHL.out; omega))
              have HCF := Lib.hid (fun W (a b : Option Value) (c : Option Nat) (k : Nx w p q r d X e a b c W) => niclone_any X.A2 d.F.length X.c2 d.F W k.ab.da.dr.fl hn6)
              have hwv : wrap64 (d.vn + 1) = d.vn + 1 := IntWalk.wrap64_in _ (by have := HOK.out.rg.1; omega)
              have hwv2 : IntKind.i64.wrap (d.vn + 1) = d.vn + 1 := IntWalk.i64_in _ (by have := HOK.out.rg.1; omega)
              have HLF := Lib.hid (And.intro (rfl : d.l.length = d.l.length) (rfl : d.F.length = d.F.length))
              go_cut [8] (fun s8 wx => ∃ (y : Nat) (Y : Dx), s8 = .pointer (some ⟨y, 0, none⟩) ∧ Hid (Ny w p q r y d X e Y wx))
              case first =>
                have HSK := Lib.hid (fun W' (hb : Below (p + 1) w2 W') => H2.out.k3 hb)
                have HBZ := Lib.hid (Below.refl (p + 1) w2)
                have hpl := H2.out.da.db.lt
                go_region_held3 (fun W => K3 p d X W)
                  ((refine HSK.out _ ?_; repeat' (first | with_reducible exact HBZ.out | with_reducible refine dal ?_ ?_ | with_reducible refine dst ?_ ?_ | with_reducible refine ddr ?_ | omega | (simp; omega))))
                  (first
                    | (go_at_call 34; (first | (have HV := Lib.hid HP.out; with_reducible refine (HCL.out _ _ _ _ HV.out).mono ?_) | (have HV := Lib.hid (HP.out.ax 25); with_reducible refine (HCL.out _ _ _ _ HV.out).mono ?_) | (have HV := Lib.hid (HP0.out.ax 25).drew; with_reducible refine (HCL.out _ _ _ _ HV.out).mono ?_)); rintro e1 w3 ⟨v, rfl, ho, hb⟩; obtain ⟨A, c, rfl⟩ := own_form ho; have HP := Lib.hid (HV.out.cl ho hb); have HSK := Lib.hid (fun W' (hb : Below (p + 1) w3 W') => HP.out.ab.k3 hb); have HBZ := Lib.hid (Below.refl (p + 1) w3); have hpl := HP.out.ab.da.db.lt; (try (obtain ⟨⟨b0, b1, b2, bl⟩, g0, g1, g2⟩ := HP.out.xf.1.all; have hxr := HP.out.xf.2; have hrq := HP.out.ab.ne)); clear HV ho hb)
                    | (go_at_call 35; (first | (have HV := Lib.hid HP.out; with_reducible refine (HCF.out _ _ _ _ HV.out).mono ?_) | (have HV := Lib.hid (HP.out.ax 25); with_reducible refine (HCF.out _ _ _ _ HV.out).mono ?_) | (have HV := Lib.hid (HP0.out.ax 25).drew; with_reducible refine (HCF.out _ _ _ _ HV.out).mono ?_)); rintro e1 w3 ⟨v, rfl, ho, hb⟩; obtain ⟨A2, c2, rfl⟩ := own_form ho; have HP := Lib.hid (HV.out.cf ho hb); have HSK := Lib.hid (fun W' (hb : Below (p + 1) w3 W') => HP.out.ab.k3 hb); have HBZ := Lib.hid (Below.refl (p + 1) w3); have hpl := HP.out.ab.da.db.lt; (try (obtain ⟨⟨b0, b1, b2, bl⟩, g0, g1, g2⟩ := HP.out.xf.1.all; have hxr := HP.out.xf.2; have hrq := HP.out.ab.ne)); clear HV ho hb))
                all_goals
                  go_wp2_with fail
                  go_meet
                  (try rw [hwv2])
                  first
                  | exact ⟨_, ⟨A, c, A2, c2⟩, rfl, Lib.hid (ny_1 HP.out 25)⟩
                  | exact ⟨_, ⟨A, c, A2, c2⟩, rfl, Lib.hid (ny_2 HP.out)⟩
              case rest =>
                clear HP0 HP H2 HCL HCF Q2 HS1 HDfr HDto
                obtain ⟨y, Y, rfl, HN⟩ := hcut
                have HSP := Lib.hid (show Calls Try.prog 36 #[dv ⟨d.vn + 1, d.l, d.F⟩ Y, e.v] wc (DE (r + 1) wc (if spE d e = 0 then Dd.mk (d.vn + 1) (spL d.l (ixS d.l e.fr).toNat e) (d.F.set e.to.toNat (-1)) else zD) (spE d e)) from dsplit_any (r + 1) ⟨d.vn + 1, d.l, d.F⟩ Y e wc (Nat.succ_le_of_lt HN.out.ab.rb.lt) HN.out.fl HN.out.ff HN.out.d1 HHL.out (fun k hk => ok_rng HOK.out hk) HSL.out.2)
                rw [← HEX.out.2, ← HEX.out.1] at HSP
                generalize wc = w5 at *
                obtain ⟨x0, x1, x2, -, xl⟩ := HN.out.xb
                obtain ⟨y0, y1, y2, y3, yl⟩ := HN.out.ab.eb
                dsimp only at x0 x1 x2
                go_wp2_with fail
                clear x0 x1 x2 xl y0 y1 y2 y3 yl
                refine HSP.out.mono ?_
                rintro e1 w6 ⟨Z, rfl, hnw, hdr, hb⟩
                have HFI := Lib.hid (HN.out.ab.fin hb)
                have HO := Lib.hid (fin_out (w := w) HPP.out.1.2.2 HFI.out.2 hnw hdr (Nat.lt_succ_self r) x)
                obtain ⟨⟨r0, r1, r2, rl⟩, g0, g1, g2⟩ := HFI.out.1.all
                clear hnw hdr hb HSP HEX
                go_wp2
                exact bodyPost_ret (v := .tuple #[dv R Z, .int .i64 x]) (by simp only [results, Try.results20]; go_simp <;> rfl) rfl HO.out
            · have HEX := Lib.hid (show x = meE d e ∧ R = if meE d e = 0 then Dd.mk (d.vn + 1) (meL d.l (min (ixS d.l e.fr) (ixS d.l e.to)).toNat e) (d.F.set e.fr.toNat e.to) else zD from by
                have h7 : apE d e = meE d e := apE_2 HAN.out hk
                refine ⟨HRX.out.2.trans h7, ?_⟩
                rw [HRX.out.1]
                by_cases h8 : meE d e = 0
                · rw [if_pos h8, apD_2 (by rw [h7]; exact h8) hk]; rfl
                · rw [if_neg h8, apD_no (by rw [h7]; exact h8)])
              have k1 : (e.kd != 1) = true := by rw [hk]; decide
              have k2 : (e.kd != 2) = false := by simpa using hk
              have k3 : (e.kd == 1) = false := by rw [hk]; decide
              clear hv h6 hk
              go_enter Try.func20, Try.ntmps20
              go_wp2_with fail
              have H0 := Lib.hid (show Ab w p q r d X e (((w.alloc (.cells #[.int .i64 d.vn, .slice X.A d.l.length X.c, .slice X.A2 d.F.length X.c2] 25)).alloc (.cells #[.int .i64 e.kd, .int .i64 e.fr, .int .i64 e.to, .int .i64 e.md] 27)).alloc (.cells #[.int .i64 0, .slice none 0 0, .slice none 0 0] 25)) from by rw [HPP.out.1.1, HPP.out.1.2.1, HPP.out.1.2.2]; exact H0.out)
              rw [← HPP.out.1.2.2, ← HPP.out.1.2.1, ← HPP.out.1.1]
              generalize ((w.alloc (.cells #[.int .i64 d.vn, .slice X.A d.l.length X.c, .slice X.A2 d.F.length X.c2] 25)).alloc (.cells #[.int .i64 e.kd, .int .i64 e.fr, .int .i64 e.to, .int .i64 e.md] 27)).alloc (.cells #[.int .i64 0, .slice none 0 0, .slice none 0 0] 25) = w0 at *
              refine (HVA.out _ _ _ _ H0.out).mono ?_
              rintro e1 w1 ⟨rfl, hb⟩
              have H1 := Lib.hid (H0.out.below hb)
              clear hb H0 HVA
              obtain ⟨x0, x1, x2, -, xl⟩ := H1.out.da.db
              obtain ⟨y0, y1, y2, y3, yl⟩ := H1.out.eb
              go_wp2_with fail
              refine (HST.out _).mono ?_
              rintro e1 w2 ⟨rfl, hw2⟩
              obtain ⟨z, hz⟩ : ∃ z, z = w1.heap.size := ⟨_, rfl⟩
              have H2 := Lib.hid (show Ab w p q r d X e w2 from by rw [hw2]; exact H1.out.below ((Below.refl _ _).alloc (Nat.le_refl _) _))
              have Q2 := Lib.hid (show w2.cell? ⟨z, 2, none⟩ = some (.slice X.A2 d.F.length X.c2) ∧ z < w2.heap.size from by rw [hw2, hz]; exact ⟨by simp [go_sem], by simp⟩)
              rw [← hz]
              dsimp only [stV]
              clear x0 x1 x2 xl y0 y1 y2 y3 yl
              clear hz hw2 H1 HST
              have HSF := Lib.hid (HS1.out z e.fr w2 Q2.out.2 Q2.out.1)
              rw [HDfr.out] at HSF
              obtain ⟨x0, x1, x2, -, xl⟩ := H2.out.da.db
              obtain ⟨y0, y1, y2, y3, yl⟩ := H2.out.eb
              go_wp2_with fail
              clear x0 x1 x2 xl y0 y1 y2 y3 yl
              refine HSF.out.mono ?_
              rintro e1 w3 ⟨rfl, hw⟩
              subst hw
              have HSF := Lib.hid (HS1.out z e.to w2 Q2.out.2 Q2.out.1)
              rw [HDto.out] at HSF
              obtain ⟨x0, x1, x2, -, xl⟩ := H2.out.da.db
              obtain ⟨y0, y1, y2, y3, yl⟩ := H2.out.eb
              go_wp2_with fail
              clear x0 x1 x2 xl y0 y1 y2 y3 yl
              refine HSF.out.mono ?_
              rintro e1 w3 ⟨rfl, hw⟩
              subst hw
              go_upto_region 11 with (fail)
              have HP0 := Lib.hid (show Nx w p q r d X e none none none w2 from Nx.start H2.out)
              have HP := Lib.hid HP0.out.drew
              have HCL := Lib.hid (fun W (a b : Option Value) (c : Option Nat) (k : Nx w p q r d X e a b c W) => spclone_any X.A d.l.length X.c d.l W k.ab.da.dr.pl (by have := HHL.out; omega))
              have HCF := Lib.hid (fun W (a b : Option Value) (c : Option Nat) (k : Nx w p q r d X e a b c W) => niclone_any X.A2 d.F.length X.c2 d.F W k.ab.da.dr.fl hn6)
              have hwv : wrap64 (d.vn + 1) = d.vn + 1 := IntWalk.wrap64_in _ (by have := HOK.out.rg.1; omega)
              have hwv2 : IntKind.i64.wrap (d.vn + 1) = d.vn + 1 := IntWalk.i64_in _ (by have := HOK.out.rg.1; omega)
              have HLF := Lib.hid (And.intro (rfl : d.l.length = d.l.length) (rfl : d.F.length = d.F.length))
              go_cut [8] (fun s8 wx => ∃ (y : Nat) (Y : Dx), s8 = .pointer (some ⟨y, 0, none⟩) ∧ Hid (Ny w p q r y d X e Y wx))
              case first =>
                have HSK := Lib.hid (fun W' (hb : Below (p + 1) w2 W') => H2.out.k3 hb)
                have HBZ := Lib.hid (Below.refl (p + 1) w2)
                have hpl := H2.out.da.db.lt
                go_region_held3 (fun W => K3 p d X W)
                  ((refine HSK.out _ ?_; repeat' (first | with_reducible exact HBZ.out | with_reducible refine dal ?_ ?_ | with_reducible refine dst ?_ ?_ | with_reducible refine ddr ?_ | omega | (simp; omega))))
                  (first
                    | (go_at_call 34; (first | (have HV := Lib.hid HP.out; with_reducible refine (HCL.out _ _ _ _ HV.out).mono ?_) | (have HV := Lib.hid (HP.out.ax 25); with_reducible refine (HCL.out _ _ _ _ HV.out).mono ?_) | (have HV := Lib.hid (HP0.out.ax 25).drew; with_reducible refine (HCL.out _ _ _ _ HV.out).mono ?_)); rintro e1 w3 ⟨v, rfl, ho, hb⟩; obtain ⟨A, c, rfl⟩ := own_form ho; have HP := Lib.hid (HV.out.cl ho hb); have HSK := Lib.hid (fun W' (hb : Below (p + 1) w3 W') => HP.out.ab.k3 hb); have HBZ := Lib.hid (Below.refl (p + 1) w3); have hpl := HP.out.ab.da.db.lt; (try (obtain ⟨⟨b0, b1, b2, bl⟩, g0, g1, g2⟩ := HP.out.xf.1.all; have hxr := HP.out.xf.2; have hrq := HP.out.ab.ne)); clear HV ho hb)
                    | (go_at_call 35; (first | (have HV := Lib.hid HP.out; with_reducible refine (HCF.out _ _ _ _ HV.out).mono ?_) | (have HV := Lib.hid (HP.out.ax 25); with_reducible refine (HCF.out _ _ _ _ HV.out).mono ?_) | (have HV := Lib.hid (HP0.out.ax 25).drew; with_reducible refine (HCF.out _ _ _ _ HV.out).mono ?_)); rintro e1 w3 ⟨v, rfl, ho, hb⟩; obtain ⟨A2, c2, rfl⟩ := own_form ho; have HP := Lib.hid (HV.out.cf ho hb); have HSK := Lib.hid (fun W' (hb : Below (p + 1) w3 W') => HP.out.ab.k3 hb); have HBZ := Lib.hid (Below.refl (p + 1) w3); have hpl := HP.out.ab.da.db.lt; (try (obtain ⟨⟨b0, b1, b2, bl⟩, g0, g1, g2⟩ := HP.out.xf.1.all; have hxr := HP.out.xf.2; have hrq := HP.out.ab.ne)); clear HV ho hb))
                all_goals
                  go_wp2_with fail
                  go_meet
                  (try rw [hwv2])
                  first
                  | exact ⟨_, ⟨A, c, A2, c2⟩, rfl, Lib.hid (ny_1 HP.out 25)⟩
                  | exact ⟨_, ⟨A, c, A2, c2⟩, rfl, Lib.hid (ny_2 HP.out)⟩
              case rest =>
                clear HP0 HP H2 HCL HCF Q2 HS1 HDfr HDto
                obtain ⟨y, Y, rfl, HN⟩ := hcut
                have HSP := Lib.hid (show Calls Try.prog 37 #[dv ⟨d.vn + 1, d.l, d.F⟩ Y, e.v] wc (DE (r + 1) wc (if meE d e = 0 then Dd.mk (d.vn + 1) (meL d.l (min (ixS d.l e.fr) (ixS d.l e.to)).toNat e) (d.F.set e.fr.toNat e.to) else zD) (meE d e)) from dmerge_any (r + 1) ⟨d.vn + 1, d.l, d.F⟩ Y e wc (Nat.succ_le_of_lt HN.out.ab.rb.lt) HN.out.fl HN.out.ff HN.out.d1 HHL.out HSL.out.1)
                rw [← HEX.out.2, ← HEX.out.1] at HSP
                generalize wc = w5 at *
                obtain ⟨x0, x1, x2, -, xl⟩ := HN.out.xb
                obtain ⟨y0, y1, y2, y3, yl⟩ := HN.out.ab.eb
                dsimp only at x0 x1 x2
                go_wp2_with fail
                clear x0 x1 x2 xl y0 y1 y2 y3 yl
                refine HSP.out.mono ?_
                rintro e1 w6 ⟨Z, rfl, hnw, hdr, hb⟩
                have HFI := Lib.hid (HN.out.ab.fin hb)
                have HO := Lib.hid (fin_out (w := w) HPP.out.1.2.2 HFI.out.2 hnw hdr (Nat.lt_succ_self r) x)
                obtain ⟨⟨r0, r1, r2, rl⟩, g0, g1, g2⟩ := HFI.out.1.all
                clear hnw hdr hb HSP HEX
                go_wp2
                exact bodyPost_ret (v := .tuple #[dv R Z, .int .i64 x]) (by simp only [results, Try.results20]; go_simp <;> rfl) rfl HO.out
          · have HDto := Lib.hid (decide_eq_false ht)
            have HRE := Lib.hid (show x = 4 ∧ R = zD from by
              have h7 : apE d e = 4 := by rw [apE_N (by rw [apN_4 hv h6 hk (.inr ht)]; decide), apN_4 hv h6 hk (.inr ht)]
              exact ⟨HRX.out.2.trans h7, by rw [HRX.out.1, apD_no (by rw [h7]; decide)]⟩)
            clear hv h6 hk hf ht
            rcases hkk with k1 | ⟨k1, k2⟩
            all_goals
              go_enter Try.func20, Try.ntmps20
              go_wp2_with fail
              have H0 := Lib.hid (show Ab w p q r d X e (((w.alloc (.cells #[.int .i64 d.vn, .slice X.A d.l.length X.c, .slice X.A2 d.F.length X.c2] 25)).alloc (.cells #[.int .i64 e.kd, .int .i64 e.fr, .int .i64 e.to, .int .i64 e.md] 27)).alloc (.cells #[.int .i64 0, .slice none 0 0, .slice none 0 0] 25)) from by rw [HPP.out.1.1, HPP.out.1.2.1, HPP.out.1.2.2]; exact H0.out)
              rw [← HPP.out.1.2.2, ← HPP.out.1.2.1, ← HPP.out.1.1]
              generalize ((w.alloc (.cells #[.int .i64 d.vn, .slice X.A d.l.length X.c, .slice X.A2 d.F.length X.c2] 25)).alloc (.cells #[.int .i64 e.kd, .int .i64 e.fr, .int .i64 e.to, .int .i64 e.md] 27)).alloc (.cells #[.int .i64 0, .slice none 0 0, .slice none 0 0] 25) = w0 at *
              refine (HVA.out _ _ _ _ H0.out).mono ?_
              rintro e1 w1 ⟨rfl, hb⟩
              have H1 := Lib.hid (H0.out.below hb)
              clear hb H0 HVA
              obtain ⟨x0, x1, x2, -, xl⟩ := H1.out.da.db
              obtain ⟨y0, y1, y2, y3, yl⟩ := H1.out.eb
              go_wp2_with fail
              refine (HST.out _).mono ?_
              rintro e1 w2 ⟨rfl, hw2⟩
              obtain ⟨z, hz⟩ : ∃ z, z = w1.heap.size := ⟨_, rfl⟩
              have H2 := Lib.hid (show Ab w p q r d X e w2 from by rw [hw2]; exact H1.out.below ((Below.refl _ _).alloc (Nat.le_refl _) _))
              have Q2 := Lib.hid (show w2.cell? ⟨z, 2, none⟩ = some (.slice X.A2 d.F.length X.c2) ∧ z < w2.heap.size from by rw [hw2, hz]; exact ⟨by simp [go_sem], by simp⟩)
              rw [← hz]
              dsimp only [stV]
              clear x0 x1 x2 xl y0 y1 y2 y3 yl
              clear hz hw2 H1 HST
              have HSF := Lib.hid (HS1.out z e.fr w2 Q2.out.2 Q2.out.1)
              rw [HDfr.out] at HSF
              obtain ⟨x0, x1, x2, -, xl⟩ := H2.out.da.db
              obtain ⟨y0, y1, y2, y3, yl⟩ := H2.out.eb
              go_wp2_with fail
              clear x0 x1 x2 xl y0 y1 y2 y3 yl
              refine HSF.out.mono ?_
              rintro e1 w3 ⟨rfl, hw⟩
              subst hw
              have HSF := Lib.hid (HS1.out z e.to w2 Q2.out.2 Q2.out.1)
              rw [HDto.out] at HSF
              obtain ⟨x0, x1, x2, -, xl⟩ := H2.out.da.db
              obtain ⟨y0, y1, y2, y3, yl⟩ := H2.out.eb
              go_wp2_with fail
              clear x0 x1 x2 xl y0 y1 y2 y3 yl
              refine HSF.out.mono ?_
              rintro e1 w3 ⟨rfl, hw⟩
              subst hw
              obtain ⟨⟨r0, r1, r2, rl⟩, g0, g1, g2⟩ := H2.out.rb.all
              have HO := Lib.hid (H2.out.out0 4)
              go_wp2
              exact bodyPost_ret (v := .tuple #[.agg #[.int .i64 0, .slice none 0 0, .slice none 0 0], .int .i64 4]) (by simp only [results, Try.results20]; go_simp <;> rfl) rfl (by rw [HRE.out.1, HRE.out.2]; exact HO.out)
        · have HDfr := Lib.hid (decide_eq_false hf)
          have HRE := Lib.hid (show x = 4 ∧ R = zD from by
            have h7 : apE d e = 4 := by rw [apE_N (by rw [apN_4 hv h6 hk (.inl hf)]; decide), apN_4 hv h6 hk (.inl hf)]
            exact ⟨HRX.out.2.trans h7, by rw [HRX.out.1, apD_no (by rw [h7]; decide)]⟩)
          clear hv h6 hk hf
          rcases hkk with k1 | ⟨k1, k2⟩
          all_goals
            go_enter Try.func20, Try.ntmps20
            go_wp2_with fail
            have H0 := Lib.hid (show Ab w p q r d X e (((w.alloc (.cells #[.int .i64 d.vn, .slice X.A d.l.length X.c, .slice X.A2 d.F.length X.c2] 25)).alloc (.cells #[.int .i64 e.kd, .int .i64 e.fr, .int .i64 e.to, .int .i64 e.md] 27)).alloc (.cells #[.int .i64 0, .slice none 0 0, .slice none 0 0] 25)) from by rw [HPP.out.1.1, HPP.out.1.2.1, HPP.out.1.2.2]; exact H0.out)
            rw [← HPP.out.1.2.2, ← HPP.out.1.2.1, ← HPP.out.1.1]
            generalize ((w.alloc (.cells #[.int .i64 d.vn, .slice X.A d.l.length X.c, .slice X.A2 d.F.length X.c2] 25)).alloc (.cells #[.int .i64 e.kd, .int .i64 e.fr, .int .i64 e.to, .int .i64 e.md] 27)).alloc (.cells #[.int .i64 0, .slice none 0 0, .slice none 0 0] 25) = w0 at *
            refine (HVA.out _ _ _ _ H0.out).mono ?_
            rintro e1 w1 ⟨rfl, hb⟩
            have H1 := Lib.hid (H0.out.below hb)
            clear hb H0 HVA
            obtain ⟨x0, x1, x2, -, xl⟩ := H1.out.da.db
            obtain ⟨y0, y1, y2, y3, yl⟩ := H1.out.eb
            go_wp2_with fail
            refine (HST.out _).mono ?_
            rintro e1 w2 ⟨rfl, hw2⟩
            obtain ⟨z, hz⟩ : ∃ z, z = w1.heap.size := ⟨_, rfl⟩
            have H2 := Lib.hid (show Ab w p q r d X e w2 from by rw [hw2]; exact H1.out.below ((Below.refl _ _).alloc (Nat.le_refl _) _))
            have Q2 := Lib.hid (show w2.cell? ⟨z, 2, none⟩ = some (.slice X.A2 d.F.length X.c2) ∧ z < w2.heap.size from by rw [hw2, hz]; exact ⟨by simp [go_sem], by simp⟩)
            rw [← hz]
            dsimp only [stV]
            clear x0 x1 x2 xl y0 y1 y2 y3 yl
            clear hz hw2 H1 HST
            have HSF := Lib.hid (HS1.out z e.fr w2 Q2.out.2 Q2.out.1)
            rw [HDfr.out] at HSF
            obtain ⟨x0, x1, x2, -, xl⟩ := H2.out.da.db
            obtain ⟨y0, y1, y2, y3, yl⟩ := H2.out.eb
            go_wp2_with fail
            clear x0 x1 x2 xl y0 y1 y2 y3 yl
            refine HSF.out.mono ?_
            rintro e1 w3 ⟨rfl, hw⟩
            subst hw
            obtain ⟨⟨r0, r1, r2, rl⟩, g0, g1, g2⟩ := H2.out.rb.all
            have HO := Lib.hid (H2.out.out0 4)
            go_wp2
            exact bodyPost_ret (v := .tuple #[.agg #[.int .i64 0, .slice none 0 0, .slice none 0 0], .int .i64 4]) (by simp only [results, Try.results20]; go_simp <;> rfl) rfl (by rw [HRE.out.1, HRE.out.2]; exact HO.out)
      · have hk' : e.kd ≠ 1 ∧ e.kd ≠ 2 := by omega
        have HRE := Lib.hid (show x = 9 ∧ R = zD from by
          have h7 : apE d e = 9 := by rw [apE_N (by rw [apN_9 hv h6 hk']; decide), apN_9 hv h6 hk']
          exact ⟨HRX.out.2.trans h7, by rw [HRX.out.1, apD_no (by rw [h7]; decide)]⟩)
        have k1 : (e.kd != 1) = true := bne_iff_ne.2 hk'.1
        have k2 : (e.kd != 2) = true := bne_iff_ne.2 hk'.2
        clear hv h6 hk hk'
        go_enter Try.func20, Try.ntmps20
        go_wp2_with fail
        have H0 := Lib.hid (show Ab w p q r d X e (((w.alloc (.cells #[.int .i64 d.vn, .slice X.A d.l.length X.c, .slice X.A2 d.F.length X.c2] 25)).alloc (.cells #[.int .i64 e.kd, .int .i64 e.fr, .int .i64 e.to, .int .i64 e.md] 27)).alloc (.cells #[.int .i64 0, .slice none 0 0, .slice none 0 0] 25)) from by rw [HPP.out.1.1, HPP.out.1.2.1, HPP.out.1.2.2]; exact H0.out)
        rw [← HPP.out.1.2.2, ← HPP.out.1.2.1, ← HPP.out.1.1]
        generalize ((w.alloc (.cells #[.int .i64 d.vn, .slice X.A d.l.length X.c, .slice X.A2 d.F.length X.c2] 25)).alloc (.cells #[.int .i64 e.kd, .int .i64 e.fr, .int .i64 e.to, .int .i64 e.md] 27)).alloc (.cells #[.int .i64 0, .slice none 0 0, .slice none 0 0] 25) = w0 at *
        refine (HVA.out _ _ _ _ H0.out).mono ?_
        rintro e1 w1 ⟨rfl, hb⟩
        have H1 := Lib.hid (H0.out.below hb)
        clear hb H0 HVA
        obtain ⟨x0, x1, x2, -, xl⟩ := H1.out.da.db
        obtain ⟨y0, y1, y2, y3, yl⟩ := H1.out.eb
        obtain ⟨⟨r0, r1, r2, rl⟩, g0, g1, g2⟩ := H1.out.rb.all
        have HO := Lib.hid (H1.out.out0 9)
        go_wp2
        exact bodyPost_ret (v := .tuple #[.agg #[.int .i64 0, .slice none 0 0, .slice none 0 0], .int .i64 9]) (by simp only [results, Try.results20]; go_simp <;> rfl) rfl (by rw [HRE.out.1, HRE.out.2]; exact HO.out)
  · have HRE := Lib.hid (show x = vaD d ∧ R = zD from by
      have h7 : apE d e = vaD d := by rw [apE_N (by rw [apN_va hv]; exact hv), apN_va hv]
      exact ⟨HRX.out.2.trans h7, by rw [HRX.out.1, apD_no (by rw [h7]; exact hv)]⟩)
    have hne : (vaD d != 0) = true := bne_iff_ne.2 hv
    clear hv
    generalize vaD d = v at *
    go_enter Try.func20, Try.ntmps20
    go_wp2_with fail
    have H0 := Lib.hid (show Ab w p q r d X e (((w.alloc (.cells #[.int .i64 d.vn, .slice X.A d.l.length X.c, .slice X.A2 d.F.length X.c2] 25)).alloc (.cells #[.int .i64 e.kd, .int .i64 e.fr, .int .i64 e.to, .int .i64 e.md] 27)).alloc (.cells #[.int .i64 0, .slice none 0 0, .slice none 0 0] 25)) from by rw [HPP.out.1.1, HPP.out.1.2.1, HPP.out.1.2.2]; exact H0.out)
    rw [← HPP.out.1.2.2, ← HPP.out.1.2.1, ← HPP.out.1.1]
    generalize ((w.alloc (.cells #[.int .i64 d.vn, .slice X.A d.l.length X.c, .slice X.A2 d.F.length X.c2] 25)).alloc (.cells #[.int .i64 e.kd, .int .i64 e.fr, .int .i64 e.to, .int .i64 e.md] 27)).alloc (.cells #[.int .i64 0, .slice none 0 0, .slice none 0 0] 25) = w0 at *
    refine (HVA.out _ _ _ _ H0.out).mono ?_
    rintro e1 w1 ⟨rfl, hb⟩
    have H1 := Lib.hid (H0.out.below hb)
    clear hb H0 HVA
    obtain ⟨⟨r0, r1, r2, rl⟩, g0, g1, g2⟩ := H1.out.rb.all
    have HO := Lib.hid (H1.out.out0 v)
    go_wp2
    exact bodyPost_ret (v := .tuple #[.agg #[.int .i64 0, .slice none 0 0, .slice none 0 0], .int .i64 v]) (by simp only [results, Try.results20]; go_simp <;> rfl) rfl (by rw [HRE.out.1, HRE.out.2]; exact HO.out)
end Go.Proofs.Ytdobenkkkkaipaa
namespace Go.Proofs.Ytdobenkkkkaipaa
open Go.RowKit
set_option linter.unusedVariables false

theorem okd_len {d : Dd} (h : vaD d = 0) : d.l.length ≤ 6 := by
  have ho := ok_va h
  have h1 := ho.rg.2.2
  have := pig d.F.length d.l.length (fun v => (sg d.l v).sh.toNat) (fun v hv => by
    have := ho.ms v hv
    show (sg d.l v).sh.toNat < d.F.length
    omega) (fun u v huv hv he => by
    have e1 := ho.ms u (by omega)
    have e2 := ho.ms v hv
    have he' : (sg d.l u).sh.toNat = (sg d.l v).sh.toNat := he
    exact ho.du ⟨u, v, huv, hv, by omega⟩)
  omega
theorem DsAt.other {w W : World} {B g p : Nat} {d : Dd} {X : Dx} (h : DsAt w B g p d X W) {a : Addr} (h1 : a.block ≠ p) (h2 : a.block ≠ g) (h3 : DOff d X a.block) (h4 : w.heap.size ≤ a.block) (v : Value) : DsAt w B g p d X (W.setCell a v) :=
  ⟨h.src.other h2 (by have := h.ne; omega) v, h.db.other h1 v, (h.dr.offp (q := a) h3 v).more (by simp), h.op, h.og, h.ne, h.bel.setCell (p := a) h4 v⟩
/-- .. and the box of the next directory, once it is made. -/
structure DnAt (w : World) (B g p : Nat) (d : Dd) (X : Dx) (oz : Option Nat) (W : World) : Prop where
  ds : DsAt w B g p d X W
  zb : ∀ z, oz = some z → DB W z zD zDx ∧ z ≠ g ∧ z ≠ p ∧ w.heap.size ≤ z ∧ DOff d X z
section
variable {w W W' : World} {B g p : Nat} {d : Dd} {X : Dx} {oz : Option Nat}
theorem DnAt.start (h : DsAt w B g p d X W) : DnAt w B g p d X none W := ⟨h, by simp⟩
theorem DnAt.below (h : DnAt w B g p d X oz W) (hb : Below W.heap.size W W') : DnAt w B g p d X oz W' := ⟨h.ds.below hb, fun z e => ⟨(h.zb z e).1.up hb, (h.zb z e).2⟩⟩
theorem DnAt.drew (h : DnAt w B g p d X oz W) : DnAt w B g p d X oz W.drew := h.below (Below.refl _ _).drew
theorem DnAt.turn (h : DnAt w B g p d X oz W) (hs : SrcAt W' B g) (hg : W.grownBy W' (some g)) : DnAt w B g p d X oz W' := ⟨h.ds.turn hs hg, fun z e => ⟨(h.zb z e).1.grown hg (h.zb z e).2.1, (h.zb z e).2⟩⟩
theorem DnAt.ax (h : DnAt w B g p d X none W) (t : TypeId) : DnAt w B g p d X (some W.heap.size) (W.alloc (.cells #[.int .i64 0, .slice none 0 0, .slice none 0 0] t)) := by
  refine ⟨h.ds.below ((Below.refl _ _).alloc (Nat.le_refl _) _), fun z e => ?_⟩
  injection e with e
  subst e
  have h1 := h.ds.src.2.1
  have h2 := h.ds.db.lt
  have h3 := h.ds.bel.size
  exact ⟨DB.zero W t, by omega, by omega, h3, h.ds.dr.offs (Nat.le_refl _)⟩
theorem DnAt.xf {z : Nat} (h : DnAt w B g p d X (some z) W) : DB W z zD zDx ∧ z ≠ g ∧ z ≠ p := ⟨(h.zb z rfl).1, (h.zb z rfl).2.1, (h.zb z rfl).2.2.1⟩
theorem DnAt.k3 (h : DnAt w B g p d X oz W) {u : World} (hb : Below (p + 1) W u) : K3 p d X u := by
  obtain ⟨⟨x0, x1, x2, xl⟩, -⟩ := h.ds.db.all
  exact ⟨(hb.cell (p := ⟨p, 0, none⟩) (Nat.lt_succ_self p)).trans x0, (hb.cell (p := ⟨p, 1, none⟩) (Nat.lt_succ_self p)).trans x1, (hb.cell (p := ⟨p, 2, none⟩) (Nat.lt_succ_self p)).trans x2⟩
end
/-- .. with the next directory in it. -/
structure DyAt (w : World) (B g p z : Nat) (d : Dd) (X : Dx) (d' : Dd) (Y : Dx) (W : World) : Prop where
  ds : DsAt w B g p d X W
  xb : DB W z d' Y
  xr : DR W W.heap.size d' Y
  o1 : DOff d' Y p
  o2 : DOff d' Y g
  zn : z ≠ g ∧ z ≠ p
section
variable {w W W' : World} {B g p : Nat} {d d' : Dd} {X Y : Dx}
theorem dy_1 (h : DnAt w B g p d X none W) (hr : DR W W.heap.size d' Y) (o1 : DOff d' Y p) (o2 : DOff d' Y g) (t : TypeId) : DyAt w B g p W.heap.size d X d' Y (W.alloc (.cells #[.int .i64 d'.vn, .slice Y.A d'.l.length Y.c, .slice Y.A2 d'.F.length Y.c2] t)) := by
  have h1 := h.ds.src.2.1
  have h2 := h.ds.db.lt
  exact ⟨h.ds.below ((Below.refl _ _).alloc (Nat.le_refl _) _), DB.start W d' Y t, hr.alloc _, o1, o2, by omega, by omega⟩
theorem dy_2 {z : Nat} (h : DnAt w B g p d X (some z) W) (hr : DR W W.heap.size d' Y) (o1 : DOff d' Y p) (o2 : DOff d' Y g) (o3 : DOff d' Y z) : DyAt w B g p z d X d' Y (((W.setCell ⟨z, 0, none⟩ (.int .i64 d'.vn)).setCell ⟨z, 1, none⟩ (.slice Y.A d'.l.length Y.c)).setCell ⟨z, 2, none⟩ (.slice Y.A2 d'.F.length Y.c2)) := by
  obtain ⟨hz, hg, hp, hw, hd⟩ := h.zb z rfl
  exact ⟨((h.ds.other (a := ⟨z, 0, none⟩) hp hg hd hw _).other (a := ⟨z, 1, none⟩) hp hg hd hw _).other (a := ⟨z, 2, none⟩) hp hg hd hw _, hz.set d' Y, (((hr.offp (q := ⟨z, 0, none⟩) o3 _).offp (q := ⟨z, 1, none⟩) o3 _).offp (q := ⟨z, 2, none⟩) o3 _).more (by simp), o1, o2, hg, hp⟩
end
end Go.Proofs.Ytdobenkkkkaipaa
namespace Go.Proofs.Ytdobenkkkkaipaa
open Go.RowKit
set_option linter.unusedVariables false

/-- A new source. -/
def SrNew (w : World) (e : Ending) (w' : World) : Prop := ∃ g, e = .returned (.pointer (some ⟨g, 0, none⟩)) ∧ SrcAt w' w.heap.size g ∧ Below w.heap.size w w'

theorem src_new (w : World) (A : Option Addr) (n c : Nat) (zs : List Int) (t : TypeId) (h : Rd w w.heap.size 1 A n (zs.map i64v)) (hn : n ≤ 4000) (hc : n ≤ c) (hm : c ≤ maxLen) (hz : ∀ z ∈ zs, -9223372036854775808 ≤ z ∧ z ≤ 9223372036854775807) :
    SrNew w (.returned (.pointer (some ⟨w.heap.size, 0, none⟩))) (w.alloc (.cells #[.slice A n c, .int .i64 0] t)) :=
  ⟨_, rfl, ⟨Nat.le_refl _, by simp, A, n, c, 0, zs, by omega, hn, hc, hm, by simp [go_sem], by simp [go_sem], by simp [go_sem], h.alloc (Nat.le_refl _) _, hz⟩, (Below.refl _ _).alloc (Nat.le_refl _) _⟩

theorem new_src (A : Option Addr) (n c : Nat) (zs : List Int) (w : World) (h : Ns w w.heap.size (.slice A n c) zs) : Calls Try.prog 14 #[.slice A n c] w (SrNew w) := by
  obtain ⟨hn, hc, hm, hr, hz⟩ := h.parts
  by_cases h4 : (4000 : Int) < (n : Int)
  · have ht' : Try.prog.underlying 23 = some (.slice (Try.prog.elem 23)) := by kernel_rfl
    have he : Try.prog.elem 23 = 3 := by kernel_rfl
    have hz8 : ∀ w, (Go.sizeOf 3).run Try.prog w = .ok 1 w := Try.sizeOf3
    have hcut : ∀ W, (Instr.slice 23 (.slice A n c) none (some (.int .i64 4000)) none).run Try.prog W = .ok (.slice A 4000 c) W := fun W => by
      have hq := run_slice_h W 23 A n c ht' .i64 4000 (by omega) (by omega)
      rw [hq, he, hz8]
      cases A <;> simp [Result.andThen, sliced, Addr.add]
    have hr4 : Rd w w.heap.size 1 A 4000 ((zs.take 4000).map i64v) := by
      have hlen : zs.length = n := hn.symm
      refine ⟨by simp; omega, fun h0 => ?_⟩
      obtain ⟨b, o, rfl, hb, hcc⟩ := hr.2 (by omega)
      refine ⟨b, o, rfl, hb, fun k u hu => hcc k u ?_⟩
      have hk : k < 4000 := by
        have := (List.getElem?_eq_some_iff.1 hu).1
        simp at this; omega
      rw [← hu, List.map_take, List.getElem?_take_of_lt hk]
    have HN := Lib.hid (src_new w A 4000 c (zs.take 4000) 56 hr4 (by omega) (by omega) hm (fun z hz' => hz z (List.mem_of_mem_take hz')))
    clear h hn hc hm hr hz hr4 hz8 he ht'
    go_enter Try.func14, Try.ntmps14
    go_wp2
    go_ret
    exact HN.out
  · have HN := Lib.hid (src_new w A n c zs 56 hr (by omega) hc hm hz)
    clear h hn hc hm hr hz
    go_enter Try.func14, Try.ntmps14
    go_wp2
    go_ret
    exact HN.out
end Go.Proofs.Ytdobenkkkkaipaa
